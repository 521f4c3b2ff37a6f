/- The document's StepJoints. -/
import Derived.Test.YtolkihibjabmhaaDoorSp5
namespace Go.Proofs.YtolkihibjabmhaaDoor
set_option maxRecDepth 100000
open Go.RowKit
attribute [local go_sem ↓] Go.wp_at_zero Go.wp_at_succ
/-- The angles after one step. -/
def stepsV (ls lo hi js : List Int) (tx ty : Int) : List Int := if okJoints ls lo hi js ∧ okP tx ty then stepV (okJoints ls lo hi) (distV ls tx ty) js else []
theorem stepsV_in {ls lo hi js : List Int} {tx ty : Int} (h : okJoints ls lo hi js ∧ okP tx ty) : stepsV ls lo hi js tx ty = stepV (okJoints ls lo hi) (distV ls tx ty) js := by unfold stepsV; rw [if_pos h]
theorem stepsV_out {ls lo hi js : List Int} {tx ty : Int} (h : ¬ (okJoints ls lo hi js ∧ okP tx ty)) : stepsV ls lo hi js tx ty = [] := by unfold stepsV; rw [if_neg h]
/-- The best after m single steps. -/
def stJ (ls lo hi js : List Int) (tx ty : Int) (m : Nat) : List Int := stepM (okJoints ls lo hi) (distV ls tx ty) js m
theorem stJ_take {ls lo hi js : List Int} {tx ty : Int} {m : Nat} (h : okJoints ls lo hi (candM js m)) (hd : distV ls tx ty (candM js m) < distV ls tx ty (stJ ls lo hi js tx ty m)) : stJ ls lo hi js tx ty (m + 1) = candM js m := by
  unfold stJ; simp only [stepM]; rw [if_pos ⟨h, hd⟩]
theorem stJ_keep {ls lo hi js : List Int} {tx ty : Int} {m : Nat} (h : ¬ (okJoints ls lo hi (candM js m) ∧ distV ls tx ty (candM js m) < distV ls tx ty (stJ ls lo hi js tx ty m))) : stJ ls lo hi js tx ty (m + 1) = stJ ls lo hi js tx ty m := by
  unfold stJ at *; simp only [stepM]; rw [if_neg h]
theorem stJ_len (ls lo hi js : List Int) (tx ty : Int) (m : Nat) : (stJ ls lo hi js tx ty m).length = js.length := stepM_len _ _ _ _
theorem candM_q {js : List Int} {k q : Nat} (h : q < 2) : candM js (2 * k + q) = tryL js k (2 * (q : Int) - 1) := by
  unfold candM
  have h2 : q = 0 ∨ q = 1 := by omega
  rcases h2 with rfl | rfl
  · rw [show (2 * k + 0) / 2 = k by omega, show 2 * k + 0 = 2 * k by omega, turnOf_even]; rfl
  · rw [show (2 * k + 1) / 2 = k by omega, turnOf_odd]; rfl
theorem tip_ok {ls lo hi js : List Int} (h : okJoints ls lo hi js) : okP (tipX ls lo hi js) (tipY ls lo hi js) := by
  have b := pt_bd ls js (len_bd h.1) ls.length (Nat.le_refl _)
  have n2 := h.1.2.1
  rw [(tip_in h).1, (tip_in h).2]
  exact ⟨by omega, by omega, by omega, by omega⟩
theorem tip_dist {ls lo hi js : List Int} (tx ty : Int) (h : okJoints ls lo hi js) : sqV (tipX ls lo hi js) (tipY ls lo hi js) tx ty = distV ls tx ty js := by
  rw [(tip_in h).1, (tip_in h).2]; rfl
theorem joint_bd {ls lo hi js : List Int} (h : okJoints ls lo hi js) (k : Nat) (hk : k < js.length) : -180 ≤ js.getD k 0 ∧ js.getD k 0 ≤ 180 := by
  have h1 := h.2.2 k hk
  have h2 := h.1.2.2.2.2 k (by have := h.2.1; omega)
  unfold okLink at h2
  omega
theorem below_two (w : World) (a b : Obj) : Below w.heap.size w ((w.alloc a).alloc b) ∧ ((w.alloc a).alloc b).heap.size = w.heap.size + 2 := ⟨below_box2 w a b, by simp⟩
theorem rowed_nil {w w1 : World} (h : Below w.heap.size w w1) : Rowed [] w (.returned (.slice (some ⟨w1.heap.size, 0, none⟩) 0 0)) (w1.alloc (.cells #[] 3)) := by
  refine ⟨⟨some ⟨w1.heap.size, 0, none⟩, 0, 0⟩, rfl, ?_, rfl, below_call h (below_box _ _)⟩
  have := World.ownsRow_lit (base := w.heap.size) (e := 3) (size := 1) w1 #[] 0 h.size (Nat.zero_le _) rfl
  simpa [OwnI, vals] using this
set_option maxHeartbeats 4000000 in
theorem specStepJoints (x y z j : Sl) (ls lo hi js : List Int) (tx ty : Int) (w : World) (hx : IntsAt w x.a x.len ls) (hy : IntsAt w y.a y.len lo) (hz : IntsAt w z.a z.len hi) (hj : IntsAt w j.a j.len js) (bx : x.len ≤ 9223372036854775807) (b_y : y.len ≤ 9223372036854775807) (bz : z.len ≤ 9223372036854775807) (bj : j.len ≤ 9223372036854775807) :
    Calls Tryd.prog 46 #[av x y z, .slice j.a j.len j.cap, pt tx ty] w (Rowed (stepsV ls lo hi js tx ty) w) := by
  obtain ⟨i0, hi0, hz0, hz1, hz2⟩ := info_parts infoInt
  obtain ⟨xa, xl, xc⟩ := x
  obtain ⟨ya, yl, yc⟩ := y
  obtain ⟨za, zl, zc⟩ := z
  obtain ⟨ja, jl, jc⟩ := j
  simp only at *
  have P := (AtA.box w (.slice xa xl xc) (.slice ya yl yc) (.slice za zl zc) 25).alloc (.cells #[.int .i64 tx, .int .i64 ty] 35)
  have Q := AtP.box (w.alloc (.cells #[.slice xa xl xc, .slice ya yl yc, .slice za zl zc] 25)) tx ty 35
  rw [show (w.alloc (.cells #[.slice xa xl xc, .slice ya yl yc, .slice za zl zc] 25)).heap.size = w.heap.size + 1 by simp] at Q
  obtain ⟨Bt, hs0⟩ := below_two w (.cells #[.slice xa xl xc, .slice ya yl yc, .slice za zl zc] 25) (.cells #[.int .i64 tx, .int .i64 ty] 35)
  have HB := Lib.hid Bt
  have HS0 := Lib.hid hs0
  replace hx := hx.next Bt
  replace hy := hy.next Bt
  replace hz := hz.next Bt
  replace hj := hj.next Bt
  clear Bt hs0
  by_cases hv : okJoints ls lo hi js
  · by_cases hp : okP tx ty
    · have HV := Lib.hid (stepsV_in ⟨hv, hp⟩)
      go_enter Tryd.func46, Tryd.ntmps46
      go_wp2_with fail
      refine (specJointsValid ⟨xa, xl, xc⟩ ⟨ya, yl, yc⟩ ⟨za, zl, zc⟩ ⟨ja, jl, jc⟩ ls lo hi js _ hx hy hz hj bx b_y bz bj).mono ?_
      generalize (w.alloc (.cells #[.slice xa xl xc, .slice ya yl yc, .slice za zl zc] 25)).alloc (.cells #[.int .i64 tx, .int .i64 ty] 35) = w0 at *
      rw [decide_eq_true hv]
      rintro e w1 ⟨rfl, B1⟩
      obtain ⟨_, q1, q2⟩ := Q.next B1
      go_wp2_with fail
      refine (specPointValidY tx ty _ hp).mono ?_
      rintro e w2 ⟨rfl, B2⟩
      have B02 := below_call B1 B2
      have hj2 := hj.next B02
      have n1 := hv.1.1
      have n2 := hv.1.2.1
      have n3 := hv.2.1
      have m4 := hj.1
      obtain ⟨b4, o4, rfl, lt4, c4⟩ := hj.some (by omega)
      have hjl1 : 1 ≤ jl := by omega
      have hjl4 : jl ≤ 4 := by omega
      have HM4 := Lib.hid m4
      have HN3 := Lib.hid n3
      clear q1 q2 B1 B2 m4 n3 n1 n2
      have HNc := Lib.hid (cpNews (hj2.next (below_box w2 (.cells #[] 3))))
      have HNLc := Lib.hid (show (vals js).length = jl * 1 by have := (hj2).1; simp [vals]; omega)
      have HOc := Lib.hid (show (w2.alloc (.cells #[] 3)).ownsRow w2.heap.size 3 1 (.slice (some ⟨w2.heap.size, 0, none⟩) 0 0) 0 [] by
        have := World.ownsRow_lit (base := w2.heap.size) (e := 3) (size := 1) w2 #[] 0 (Nat.le_refl _) (Nat.zero_le _) rfl
        simpa using this)
      have HBc := Lib.hid (below_box w2 (.cells #[] 3))
      have HHc := Lib.hid HBc.out.size
      have HLc := Lib.hid ((hj2).1)
      go_upto_region 4 with (at_builtin; refine wpList_append_lies _ rfl (.tmp 22) (.tmp 23) 23 rfl w2.heap.size 3 i0 (.int .i64 0) 1 8 Tryd.underlying23 hi0 hz0 hz1 hz2 rfl (by decide) (.slice (some ⟨w2.heap.size, 0, none⟩) 0 0) 0 [] rfl HOc.out ⟨b4, o4, none⟩ jl jc (vals js) rfl HNLc.out HNc.out (cpOne _) (by omega) (by unfold maxLen; omega) (by omega) HHc.out _ rfl ?_; intro g capA wA ownA growA atA ltgA; have HAA := Lib.hid (And.intro ownA growA); clear ownA growA atA ltgA)
      have HOA := Lib.hid (show OwnI wA w2.heap.size (.slice (some ⟨g, 0, none⟩) jl capA) js by
        have h := HAA.out.1
        rw [Nat.zero_add] at h
        have h2 : wA.ownsRow w2.heap.size 3 1 (.slice (some ⟨g, 0, none⟩) jl capA) jl (vals js) := by simpa using h
        unfold OwnI
        rw [← HLc.out]
        exact h2)
      have HBA := Lib.hid (show Below w2.heap.size w2 wA from HBc.out.grown HAA.out.2 HBc.out.size (fun q hq => by simp [Value.ownBlock] at hq; omega))
      clear HAA HBc HHc HLc HNLc HNc HOc
      have HBw := Lib.hid (below_call B02 HBA.out)
      have HO0 := Lib.hid (show OwnI wA w0.heap.size (.slice (some ⟨g, 0, none⟩) jl capA) js from HOA.out.mono B02.size)
      clear HOA HBA B02 hj2 c4
      obtain ⟨a0, a1, a2⟩ := (P.next HBw.out).kepts
      obtain ⟨q0, q1⟩ := (Q.next HBw.out).kepts
      have HLT := Lib.hid (fun (n : Kept wA) => keptCall (l3Tip ⟨xa, xl, xc⟩ ⟨ya, yl, yc⟩ ⟨za, zl, zc⟩ ⟨some ⟨g, 0, none⟩, jl, capA⟩ ls lo hi js n.u ((hx.next HBw.out).next n.b) (HO0.out.ints.next n.b) hv))
      have HSQ := Lib.hid (fun (n : Kept wA) => keptCall (l2Square (tipX ls lo hi js) (tipY ls lo hi js) tx ty n.u (tip_ok hv) hp))
      rw [tip_dist tx ty hv] at HSQ
      refine wp_region_kept (by kernel_rfl) (by kernel_rfl) ?_
      repeat (go_big_quiet_step ((first | (go_at_call 68; exact HLT.out _) | (go_at_call 80; exact HSQ.out _))))
      refine wpQuiet_nil ?_
      rintro wq ⟨⟨_, Bq⟩, rfl⟩
      have HW1 := Lib.hid (below_call HBw.out Bq)
      have HO1 := Lib.hid (HO0.out.next Bq)
      clear a0 a1 a2 q0 q1 HLT HSQ HBw HO0 Bq
      have HJB := Lib.hid (fun k hk => joint_bd hv k hk)
      have HST := Lib.hid (show stJ ls lo hi js tx ty 0 = js from rfl)
      have HFIN := Lib.hid (show stJ ls lo hi js tx ty (2 * jl) = stepsV ls lo hi js tx ty by rw [HV.out, HM4.out]; rfl)
      have HSL := Lib.hid (fun m => stJ_len ls lo hi js tx ty m)
      go_wp2
      go_loopw [7, 8, 9] (fun v l i wr => ∃ (k : Nat) (s : Sl), k ≤ jl ∧ i = .int .i64 (k : Int) ∧ v = .slice s.a s.len s.cap ∧ l = .int .i64 (distV ls tx ty (stJ ls lo hi js tx ty (2 * k))) ∧ Hid (OwnI wr w0.heap.size (.slice s.a s.len s.cap) (stJ ls lo hi js tx ty (2 * k))) ∧ Hid (Below w0.heap.size w0 wr)) (fun _ _ i _ => jl - (intOf i).toNat)
      case atStart => exact ⟨0, ⟨some ⟨g, 0, none⟩, jl, capA⟩, Nat.zero_le _, rfl, rfl, by rw [show 2 * 0 = 0 from rfl, HST.out], Lib.hid (by rw [show 2 * 0 = 0 from rfl, HST.out]; exact HO1.out), HW1⟩
      case round =>
        obtain ⟨k, ⟨sa, sl, sc⟩, hk, rfl, rfl, rfl, HO, HW⟩ := hrel
        clear HO1 HW1
        by_cases hlt : k < jl
        · go_wp2
          go_loopw [7, 8, 10] (fun v l d wr2 => ∃ (q : Nat) (s : Sl), q ≤ 2 ∧ d = .int .i64 (2 * (q : Int) - 1) ∧ v = .slice s.a s.len s.cap ∧ l = .int .i64 (distV ls tx ty (stJ ls lo hi js tx ty (2 * k + q))) ∧ Hid (OwnI wr2 w0.heap.size (.slice s.a s.len s.cap) (stJ ls lo hi js tx ty (2 * k + q))) ∧ Hid (Below w0.heap.size w0 wr2)) (fun _ _ d _ => (4 - intOf d).toNat)
          case atStart => exact ⟨0, ⟨sa, sl, sc⟩, Nat.zero_le _, rfl, rfl, rfl, HO, HW⟩
          case round =>
            obtain ⟨q, ⟨ta, tl, tc⟩, hq, rfl, rfl, rfl, HO2, HW2⟩ := hrel
            clear HO HW
            by_cases hq2 : q < 2
            · have HC := Lib.hid (candM_q (js := js) (k := k) hq2)
              obtain ⟨jb1, jb2⟩ := HJB.out k (by rw [← HM4.out]; exact hlt)
              go_wp2_with fail
              refine (l4Try ⟨some ⟨b4, o4, none⟩, jl, jc⟩ js k (2 * (q : Int) - 1) _ (hj.next HW2.out) (by rw [← HM4.out]; exact hlt) (by rw [← HM4.out]; exact hjl4) jb1 jb2 (by omega) (by omega)).mono ?_
              rintro e w3 ⟨⟨ua, ul, uc⟩, rfl, O3, l3, B3⟩
              rw [← HC.out] at O3 l3
              have HB3 := Lib.hid (below_call HW2.out B3)
              have HO3 := Lib.hid (HO2.out.next B3)
              have HX3 := Lib.hid (show OwnI w3 w0.heap.size (.slice ua ul uc) (candM js (2 * k + q)) from O3.mono HW2.out.size)
              have hul : ul ≤ 4 := by have h1 := l3; rw [HC.out, tryL_len, ← HM4.out] at h1; simp only at h1; omega
              obtain ⟨a0, a1, a2⟩ := (P.next HB3.out).kepts
              obtain ⟨q0, q1⟩ := (Q.next HB3.out).kepts
              have HJV := Lib.hid (fun (n : Kept w3) => keptCall (specJointsValid ⟨xa, xl, xc⟩ ⟨ya, yl, yc⟩ ⟨za, zl, zc⟩ ⟨ua, ul, uc⟩ ls lo hi (candM js (2 * k + q)) n.u ((hx.next HB3.out).next n.b) ((hy.next HB3.out).next n.b) ((hz.next HB3.out).next n.b) (O3.ints.next n.b) bx b_y bz (by simp only; omega)))
              clear O3 l3 B3 jb1 jb2
              by_cases hc : okJoints ls lo hi (candM js (2 * k + q))
              · rw [decide_eq_true hc] at HJV
                have HLT := Lib.hid (fun (n : Kept w3) => keptCall (l3Tip ⟨xa, xl, xc⟩ ⟨ya, yl, yc⟩ ⟨za, zl, zc⟩ ⟨ua, ul, uc⟩ ls lo hi (candM js (2 * k + q)) n.u ((hx.next HB3.out).next n.b) (HX3.out.ints.next n.b) hc))
                have HSQ := Lib.hid (fun (n : Kept w3) => keptCall (l2Square (tipX ls lo hi (candM js (2 * k + q))) (tipY ls lo hi (candM js (2 * k + q))) tx ty n.u (tip_ok hc) hp))
                rw [tip_dist tx ty hc] at HSQ
                by_cases hd : distV ls tx ty (candM js (2 * k + q)) < distV ls tx ty (stJ ls lo hi js tx ty (2 * k + q))
                · have HE := Lib.hid (stJ_take hc hd)
                  have hd' : decide (distV ls tx ty (candM js (2 * k + q)) < distV ls tx ty (stJ ls lo hi js tx ty (2 * k + q))) = true := decide_eq_true hd
                  generalize hdx : distV ls tx ty (candM js (2 * k + q)) = dx at *
                  have HDX := Lib.hid hdx
                  generalize distV ls tx ty (stJ ls lo hi js tx ty (2 * k + q)) = dl at *
                  clear hdx hd
                  go_wp2
                  refine wp_region_kept (by kernel_rfl) (by kernel_rfl) ?_
                  repeat (go_big_quiet_step ((first | (go_at_call 19; exact HJV.out _) | (go_at_call 68; exact HLT.out _) | (go_at_call 80; exact HSQ.out _))))
                  refine wpQuiet_nil ?_
                  rintro w4 ⟨⟨_, B4⟩, rfl⟩
                  have HB4 := Lib.hid (below_call HB3.out B4)
                  have HX4 := Lib.hid (HX3.out.next B4)
                  have HLT4 := Lib.hid (fun (n : Kept w4) => keptCall (l3Tip ⟨xa, xl, xc⟩ ⟨ya, yl, yc⟩ ⟨za, zl, zc⟩ ⟨ua, ul, uc⟩ ls lo hi (candM js (2 * k + q)) n.u ((hx.next HB4.out).next n.b) (HX4.out.ints.next n.b) hc))
                  have HSQ4 := Lib.hid (fun (n : Kept w4) => keptCall (l2Square (tipX ls lo hi (candM js (2 * k + q))) (tipY ls lo hi (candM js (2 * k + q))) tx ty n.u (tip_ok hc) hp))
                  rw [tip_dist tx ty hc, HDX.out] at HSQ4
                  clear a0 a1 a2 q0 q1 HLT HSQ HJV HX3 HB3 B4 HO3
                  obtain ⟨a0, a1, a2⟩ := (P.next HB4.out).kepts
                  obtain ⟨q0, q1⟩ := (Q.next HB4.out).kepts
                  go_wp2
                  refine wp_region_kept (by kernel_rfl) (by kernel_rfl) ?_
                  repeat (go_big_quiet_step ((first | (go_at_call 68; exact HLT4.out _) | (go_at_call 80; exact HSQ4.out _))))
                  refine wpQuiet_nil ?_
                  rintro w5 ⟨⟨_, B5⟩, rfl⟩
                  have HB5 := Lib.hid (below_call HB4.out B5)
                  have HX5 := Lib.hid (HX4.out.next B5)
                  clear a0 a1 a2 q0 q1 HLT4 HSQ4 HX4 HB4 B5 hc
                  go_wp2
                  go_roundw
                  case rel => exact ⟨q + 1, ⟨ua, ul, uc⟩, by omega, by congr 1; omega, rfl, by rw [show 2 * k + (q + 1) = 2 * k + q + 1 from rfl, HE.out, HDX.out], Lib.hid (by rw [show 2 * k + (q + 1) = 2 * k + q + 1 from rfl, HE.out]; exact HX5.out), HB5⟩
                  case measure => simp [intOf]; omega
                · have HE := Lib.hid (stJ_keep (fun h => hd h.2) : stJ ls lo hi js tx ty (2 * k + q + 1) = stJ ls lo hi js tx ty (2 * k + q))
                  have hd' : decide (distV ls tx ty (candM js (2 * k + q)) < distV ls tx ty (stJ ls lo hi js tx ty (2 * k + q))) = false := decide_eq_false hd
                  generalize distV ls tx ty (candM js (2 * k + q)) = dx at *
                  generalize hdl : distV ls tx ty (stJ ls lo hi js tx ty (2 * k + q)) = dl at *
                  have HDL := Lib.hid hdl
                  clear hdl hd
                  go_wp2
                  refine wp_region_kept (by kernel_rfl) (by kernel_rfl) ?_
                  repeat (go_big_quiet_step ((first | (go_at_call 19; exact HJV.out _) | (go_at_call 68; exact HLT.out _) | (go_at_call 80; exact HSQ.out _))))
                  refine wpQuiet_nil ?_
                  rintro w4 ⟨⟨_, B4⟩, rfl⟩
                  have HB4 := Lib.hid (below_call HB3.out B4)
                  have HO4 := Lib.hid (HO3.out.next B4)
                  clear a0 a1 a2 q0 q1 HLT HSQ HJV HX3 HB3 B4 HO3 hc
                  go_wp2
                  go_roundw
                  case rel => exact ⟨q + 1, ⟨ta, tl, tc⟩, by omega, by congr 1; omega, rfl, by rw [show 2 * k + (q + 1) = 2 * k + q + 1 from rfl, HE.out, HDL.out], Lib.hid (by rw [show 2 * k + (q + 1) = 2 * k + q + 1 from rfl, HE.out]; exact HO4.out), HB4⟩
                  case measure => simp [intOf]; omega
              · rw [decide_eq_false hc] at HJV
                have HE := Lib.hid (stJ_keep (fun h => hc h.1) : stJ ls lo hi js tx ty (2 * k + q + 1) = stJ ls lo hi js tx ty (2 * k + q))
                generalize hdl : distV ls tx ty (stJ ls lo hi js tx ty (2 * k + q)) = dl at *
                have HDL := Lib.hid hdl
                clear hdl hc
                go_wp2
                refine wp_region_kept (by kernel_rfl) (by kernel_rfl) ?_
                repeat (go_big_quiet_step ((first | (go_at_call 19; exact HJV.out _))))
                refine wpQuiet_nil ?_
                rintro w4 ⟨⟨_, B4⟩, rfl⟩
                have HB4 := Lib.hid (below_call HB3.out B4)
                have HO4 := Lib.hid (HO3.out.next B4)
                clear a0 a1 a2 q0 q1 HJV HX3 HB3 B4 HO3
                go_wp2
                go_roundw
                case rel => exact ⟨q + 1, ⟨ta, tl, tc⟩, by omega, by congr 1; omega, rfl, by rw [show 2 * k + (q + 1) = 2 * k + q + 1 from rfl, HE.out, HDL.out], Lib.hid (by rw [show 2 * k + (q + 1) = 2 * k + q + 1 from rfl, HE.out]; exact HO4.out), HB4⟩
                case measure => simp [intOf]; omega
            · obtain rfl : q = 2 := by omega
              go_wp2
              go_roundw
              case rel => exact ⟨k + 1, ⟨ta, tl, tc⟩, by omega, by congr 1, rfl, rfl, HO2, HW2⟩
              case measure => simp [intOf]; omega
        · obtain rfl : k = jl := by omega
          go_wp2
          go_ret
          exact ⟨⟨sa, sl, sc⟩, rfl, by rw [← HFIN.out]; exact HO.out.mono HB.out.size, by rw [← HFIN.out]; exact HO.out.ints.1, below_call HB.out HW.out⟩
    · have HV := Lib.hid (stepsV_out fun h => hp h.2 : stepsV ls lo hi js tx ty = [])
      go_enter Tryd.func46, Tryd.ntmps46
      go_wp2_with fail
      refine (specJointsValid ⟨xa, xl, xc⟩ ⟨ya, yl, yc⟩ ⟨za, zl, zc⟩ ⟨ja, jl, jc⟩ ls lo hi js _ hx hy hz hj bx b_y bz bj).mono ?_
      generalize (w.alloc (.cells #[.slice xa xl xc, .slice ya yl yc, .slice za zl zc] 25)).alloc (.cells #[.int .i64 tx, .int .i64 ty] 35) = w0 at *
      rw [decide_eq_true hv]
      rintro e w1 ⟨rfl, B1⟩
      obtain ⟨_, q1, q2⟩ := Q.next B1
      go_wp2_with fail
      refine (specPointValidN tx ty _ hp).mono ?_
      rintro e w2 ⟨rfl, B2⟩
      have HB2 := Lib.hid (below_call HB.out (below_call B1 B2))
      clear B1 B2 q1 q2 P Q hx hy hz hj
      go_wp2
      go_ret
      rw [HV.out]
      exact rowed_nil HB2.out
  · have HV := Lib.hid (stepsV_out fun h => hv h.1 : stepsV ls lo hi js tx ty = [])
    go_enter Tryd.func46, Tryd.ntmps46
    go_wp2_with fail
    refine (specJointsValid ⟨xa, xl, xc⟩ ⟨ya, yl, yc⟩ ⟨za, zl, zc⟩ ⟨ja, jl, jc⟩ ls lo hi js _ hx hy hz hj bx b_y bz bj).mono ?_
    generalize (w.alloc (.cells #[.slice xa xl xc, .slice ya yl yc, .slice za zl zc] 25)).alloc (.cells #[.int .i64 tx, .int .i64 ty] 35) = w0 at *
    rw [decide_eq_false hv]
    rintro e w1 ⟨rfl, B1⟩
    have HB1 := Lib.hid (below_call HB.out B1)
    clear B1 P Q hx hy hz hj
    go_wp2
    go_ret
    rw [HV.out]
    exact rowed_nil HB1.out
end Go.Proofs.YtolkihibjabmhaaDoor
