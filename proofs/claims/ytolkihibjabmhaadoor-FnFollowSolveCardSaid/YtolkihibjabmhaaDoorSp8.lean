/- The document's FollowPoint. -/
import Derived.Test.YtolkihibjabmhaaDoorSp7
namespace Go.Proofs.YtolkihibjabmhaaDoor
set_option maxRecDepth 100000
open Go.RowKit
attribute [local go_sem ↓] Go.wp_at_zero Go.wp_at_succ
/-- The angles after many steps. -/
def followV (ls lo hi js : List Int) (tx ty st : Int) : List Int := if okJoints ls lo hi js ∧ okP tx ty ∧ 0 ≤ st ∧ st ≤ 500 then followM (okJoints ls lo hi) (distV ls tx ty) js st.toNat else []
theorem followV_in {ls lo hi js : List Int} {tx ty st : Int} (h : okJoints ls lo hi js ∧ okP tx ty ∧ 0 ≤ st ∧ st ≤ 500) : followV ls lo hi js tx ty st = followM (okJoints ls lo hi) (distV ls tx ty) js st.toNat := by unfold followV; rw [if_pos h]
theorem followV_out {ls lo hi js : List Int} {tx ty st : Int} (h : ¬ (okJoints ls lo hi js ∧ okP tx ty ∧ 0 ≤ st ∧ st ≤ 500)) : followV ls lo hi js tx ty st = [] := by unfold followV; rw [if_neg h]
/-- The angles after m steps. -/
def flJ (ls lo hi js : List Int) (tx ty : Int) (m : Nat) : List Int := followM (okJoints ls lo hi) (distV ls tx ty) js m
theorem flJ_len (ls lo hi js : List Int) (tx ty : Int) (m : Nat) : (flJ ls lo hi js tx ty m).length = js.length := followM_len _ _ _ _
theorem flJ_ok {ls lo hi js : List Int} (tx ty : Int) (h : okJoints ls lo hi js) (m : Nat) : okJoints ls lo hi (flJ ls lo hi js tx ty m) := followM_ok _ _ h m
theorem flJ_next {ls lo hi js : List Int} {tx ty : Int} (h : okJoints ls lo hi js) (hp : okP tx ty) (m : Nat) : stepsV ls lo hi (flJ ls lo hi js tx ty m) tx ty = flJ ls lo hi js tx ty (m + 1) := by
  rw [stepsV_in ⟨flJ_ok tx ty h m, hp⟩]; rfl
theorem flJ_stays {ls lo hi js : List Int} {tx ty : Int} {m : Nat} (h : flJ ls lo hi js tx ty (m + 1) = flJ ls lo hi js tx ty m) (n : Nat) : flJ ls lo hi js tx ty (m + n) = flJ ls lo hi js tx ty m :=
  followM_stays _ _ m n h
theorem ext_getD {xs ys : List Int} (hl : xs.length = ys.length) (h : ∀ i, i < xs.length → xs.getD i 0 = ys.getD i 0) : xs = ys := by
  apply List.ext_getElem hl
  intro i h1 h2
  have := h i h1
  simpa [List.getD_eq_getElem?_getD, List.getElem?_eq_getElem h1, List.getElem?_eq_getElem h2] using this
set_option maxHeartbeats 4000000 in
theorem specFollowPoint (x y z j : Sl) (ls lo hi js : List Int) (tx ty st : Int) (w : World) (hx : IntsAt w x.a x.len ls) (hy : IntsAt w y.a y.len lo) (hz : IntsAt w z.a z.len hi) (hj : IntsAt w j.a j.len js) (bx : x.len ≤ 9223372036854775807) (b_y : y.len ≤ 9223372036854775807) (bz : z.len ≤ 9223372036854775807) (bj : j.len ≤ 9223372036854775807) :
    Calls Tryd.prog 50 #[av x y z, .slice j.a j.len j.cap, pt tx ty, .int .i64 st] w (Rowed (followV ls lo hi js tx ty st) w) := by
  obtain ⟨i0, hi0, hz0, hz1, hz2⟩ := info_parts infoInt
  obtain ⟨xa, xl, xc⟩ := x
  obtain ⟨ya, yl, yc⟩ := y
  obtain ⟨za, zl, zc⟩ := z
  obtain ⟨ja, jl, jc⟩ := j
  simp only at *
  have P := (AtA.box w (.slice xa xl xc) (.slice ya yl yc) (.slice za zl zc) 25).alloc (.cells #[.int .i64 tx, .int .i64 ty] 35)
  have Q := AtP.box (w.alloc (.cells #[.slice xa xl xc, .slice ya yl yc, .slice za zl zc] 25)) tx ty 35
  rw [show (w.alloc (.cells #[.slice xa xl xc, .slice ya yl yc, .slice za zl zc] 25)).heap.size = w.heap.size + 1 by simp] at Q
  have HB := Lib.hid (below_box2 w (.cells #[.slice xa xl xc, .slice ya yl yc, .slice za zl zc] 25) (.cells #[.int .i64 tx, .int .i64 ty] 35))
  replace hx := hx.next HB.out
  replace hy := hy.next HB.out
  replace hz := hz.next HB.out
  replace hj := hj.next HB.out
  by_cases hv : okJoints ls lo hi js
  · by_cases hp : okP tx ty
    · by_cases hs : 0 ≤ st ∧ st ≤ 500
      · have HV := Lib.hid (followV_in ⟨hv, hp, hs⟩)
        go_enter Tryd.func50, Tryd.ntmps50
        go_wp2_with fail
        refine (specJointsValid ⟨xa, xl, xc⟩ ⟨ya, yl, yc⟩ ⟨za, zl, zc⟩ ⟨ja, jl, jc⟩ ls lo hi js _ hx hy hz hj bx b_y bz bj).mono ?_
        generalize (w.alloc (.cells #[.slice xa xl xc, .slice ya yl yc, .slice za zl zc] 25)).alloc (.cells #[.int .i64 tx, .int .i64 ty] 35) = w0 at *
        rw [decide_eq_true hv]
        rintro e w1 ⟨rfl, B1⟩
        obtain ⟨_, q1, q2⟩ := Q.next B1
        go_wp2_with fail
        refine (specPointValidY tx ty _ hp).mono ?_
        rintro e w2 ⟨rfl, B2⟩
        go_wp2_with fail
        refine (l1In_yes st 0 500 _ hs.1 hs.2).mono ?_
        rintro e w' ⟨rfl, rfl⟩
        have B02 := below_call B1 B2
        have hj2 := hj.next B02
        have n1 := hv.1.1
        have n2 := hv.1.2.1
        have n3 := hv.2.1
        have m4 := hj.1
        obtain ⟨b4, o4, rfl, lt4, c4⟩ := hj.some (by omega)
        have hjl1 : 1 ≤ jl := by omega
        have hjl4 : jl ≤ 4 := by omega
        have HM4 := Lib.hid m4
        clear q1 q2 B1 B2 m4 n3 n1 n2
        have HNc := Lib.hid (cpNews (hj2.next (below_box w2 (.cells #[] 3))))
        have HNLc := Lib.hid (show (vals js).length = jl * 1 by have := (hj2).1; simp [vals]; omega)
        have HOc := Lib.hid (show (w2.alloc (.cells #[] 3)).ownsRow w2.heap.size 3 1 (.slice (some ⟨w2.heap.size, 0, none⟩) 0 0) 0 [] by
          have := World.ownsRow_lit (base := w2.heap.size) (e := 3) (size := 1) w2 #[] 0 (Nat.le_refl _) (Nat.zero_le _) rfl
          simpa using this)
        have HBc := Lib.hid (below_box w2 (.cells #[] 3))
        have HHc := Lib.hid HBc.out.size
        have HLc := Lib.hid ((hj2).1)
        go_upto_region 4 with (at_builtin; refine wpList_append_lies _ rfl (.tmp 29) (.tmp 30) 23 rfl w2.heap.size 3 i0 (.int .i64 0) 1 8 Tryd.underlying23 hi0 hz0 hz1 hz2 rfl (by decide) (.slice (some ⟨w2.heap.size, 0, none⟩) 0 0) 0 [] rfl HOc.out ⟨b4, o4, none⟩ jl jc (vals js) rfl HNLc.out HNc.out (cpOne _) (by omega) (by unfold maxLen; omega) (by omega) HHc.out _ rfl ?_; intro g capA wA ownA growA atA ltgA; have HAA := Lib.hid (And.intro ownA growA); clear ownA growA atA ltgA)
        have HOA := Lib.hid (show OwnI wA w2.heap.size (.slice (some ⟨g, 0, none⟩) jl capA) js by
          have h := HAA.out.1
          rw [Nat.zero_add] at h
          have h2 : wA.ownsRow w2.heap.size 3 1 (.slice (some ⟨g, 0, none⟩) jl capA) jl (vals js) := by simpa using h
          unfold OwnI
          rw [← HLc.out]
          exact h2)
        have HBA := Lib.hid (show Below w2.heap.size w2 wA from HBc.out.grown HAA.out.2 HBc.out.size (fun q hq => by simp [Value.ownBlock] at hq; omega))
        clear HAA HBc HHc HLc HNLc HNc HOc
        have HW1 := Lib.hid (below_call B02 HBA.out)
        have HO1 := Lib.hid (show OwnI wA w0.heap.size (.slice (some ⟨g, 0, none⟩) jl capA) js from HOA.out.mono B02.size)
        clear HOA HBA B02 hj2 c4 hj
        have HSL := Lib.hid (fun m => show jl = (flJ ls lo hi js tx ty m).length by rw [flJ_len]; exact HM4.out)
        have HNX := Lib.hid (fun m => flJ_next hv hp m)
        obtain ⟨stn, hst⟩ : ∃ stn : Nat, st = (stn : Int) := ⟨st.toNat, by omega⟩
        have HFIN := Lib.hid (show followV ls lo hi js tx ty st = flJ ls lo hi js tx ty stn by rw [HV.out, hst]; rfl)
        have hs2 : stn ≤ 500 := by omega
        subst hst
        clear hs HV
        go_wp2
        go_loopw [9, 10] (fun v i wr => ∃ (m : Nat) (s : Sl), m ≤ stn ∧ i = .int .i64 (m : Int) ∧ v = .slice s.a s.len s.cap ∧ Hid (OwnI wr w0.heap.size (.slice s.a s.len s.cap) (flJ ls lo hi js tx ty m)) ∧ Hid (Below w0.heap.size w0 wr)) (fun _ i _ => stn - (intOf i).toNat)
        case atStart => exact ⟨0, ⟨some ⟨g, 0, none⟩, jl, capA⟩, Nat.zero_le _, rfl, rfl, HO1, HW1⟩
        case round =>
          obtain ⟨m, ⟨sa, sl, sc⟩, hm, rfl, rfl, HO, HW⟩ := hrel
          clear HO1 HW1
          obtain rfl : jl = sl := (HSL.out m).trans HO.out.ints.1.symm
          by_cases hlt : m < stn
          · obtain ⟨_, p1, p2, p3, _, _, _⟩ := P.next HW.out
            obtain ⟨_, q1, q2⟩ := Q.next HW.out
            go_wp2_with fail
            refine (specStepJoints ⟨xa, xl, xc⟩ ⟨ya, yl, yc⟩ ⟨za, zl, zc⟩ ⟨sa, jl, sc⟩ ls lo hi (flJ ls lo hi js tx ty m) tx ty _ (hx.next HW.out) (hy.next HW.out) (hz.next HW.out) HO.out.ints bx b_y bz bj).mono ?_
            rw [HNX.out m]
            rintro e w3 ⟨⟨ta, tl, tc⟩, rfl, O3, l3, B3⟩
            simp only at O3 l3
            obtain rfl : jl = tl := (HSL.out (m + 1)).trans l3.symm
            have HB3 := Lib.hid (below_call HW.out B3)
            have HO3 := Lib.hid (HO.out.next B3)
            have HX3 := Lib.hid (show OwnI w3 w0.heap.size (.slice ta jl tc) (flJ ls lo hi js tx ty (m + 1)) from O3.mono HW.out.size)
            clear p1 p2 p3 q1 q2 O3 l3 B3 HO HW
            obtain ⟨bs, os, rfl, lts, cs⟩ := HO3.out.ints.some hjl1
            obtain ⟨bt, ot, rfl, ltt, ct⟩ := HX3.out.ints.some hjl1
            have HCS := Lib.hid cs
            have HCT := Lib.hid ct
            clear cs ct
            go_wp2
            go_loopw [12, 13] (fun b i wr2 => ∃ (k : Nat) (c : Bool), k ≤ jl ∧ i = .int .i64 (k : Int) ∧ b = .bool c ∧ Hid (c = true ↔ ∀ i, i < k → (flJ ls lo hi js tx ty m).getD i 0 = (flJ ls lo hi js tx ty (m + 1)).getD i 0) ∧ Hid (Below w3.heap.size w3 wr2)) (fun _ i _ => jl - (intOf i).toNat)
            case atStart => exact ⟨0, true, Nat.zero_le _, rfl, rfl, Lib.hid ⟨fun _ i hi => absurd hi (by omega), fun _ => rfl⟩, Lib.hid (Below.refl _ _)⟩
            case round =>
              obtain ⟨k, c, hk, rfl, rfl, HC, HW4⟩ := hrel
              by_cases hkl : k < jl
              · have j1 : (0 : Int) ≤ (k : Int) := by omega
                have j2 : (k : Int) < (jl : Int) := by omega
                cases c with
                | true =>
                  have c1 := keptCell (w := wr) (b := bs) (o := os + k) (Nat.lt_of_lt_of_le lts HW4.out.size) ((HW4.out.cell (p := ⟨bs, os + k, none⟩) lts).trans (HCS.out k hkl))
                  have c2 := keptCell (w := wr) (b := bt) (o := ot + k) (Nat.lt_of_lt_of_le ltt HW4.out.size) ((HW4.out.cell (p := ⟨bt, ot + k, none⟩) ltt).trans (HCT.out k hkl))
                  by_cases hxy : (flJ ls lo hi js tx ty m).getD k 0 = (flJ ls lo hi js tx ty (m + 1)).getD k 0
                  · have HC2 := Lib.hid (show (true = true ↔ ∀ i, i < k + 1 → (flJ ls lo hi js tx ty m).getD i 0 = (flJ ls lo hi js tx ty (m + 1)).getD i 0) from ⟨fun _ i hi => by
                      rcases Nat.lt_or_eq_of_le (Nat.le_of_lt_succ hi) with h | h
                      · exact HC.out.1 rfl i h
                      · rw [h]; exact hxy, fun _ => rfl⟩)
                    have t1 : ((flJ ls lo hi js tx ty m).getD k 0 == (flJ ls lo hi js tx ty (m + 1)).getD k 0) = true := by simpa using hxy
                    clear hxy
                    generalize (flJ ls lo hi js tx ty m).getD k 0 = z1 at c1 t1
                    generalize (flJ ls lo hi js tx ty (m + 1)).getD k 0 = z2 at c2 t1
                    go_wp2
                    refine wp_region_kept (by kernel_rfl) (by kernel_rfl) ?_
                    repeat (go_big_quiet_step (fail))
                    refine wpQuiet_nil ?_
                    rintro wq ⟨⟨_, Bq⟩, rfl⟩
                    have HW5 := Lib.hid (below_call HW4.out Bq)
                    clear c1 c2 Bq
                    go_wp2
                    go_roundw
                    case rel => exact ⟨k + 1, true, by omega, by congr 1, rfl, Lib.hid ⟨fun _ => HC2.out.1 (by trivial), fun _ => rfl⟩, HW5⟩
                    case measure => simp [intOf]; omega
                  · have HC2 := Lib.hid (show (false = true ↔ ∀ i, i < k + 1 → (flJ ls lo hi js tx ty m).getD i 0 = (flJ ls lo hi js tx ty (m + 1)).getD i 0) from ⟨(fun h => by cases h), fun h => absurd (h k (by omega)) hxy⟩)
                    have t1 : ((flJ ls lo hi js tx ty m).getD k 0 == (flJ ls lo hi js tx ty (m + 1)).getD k 0) = false := by simpa using hxy
                    clear hxy
                    generalize (flJ ls lo hi js tx ty m).getD k 0 = z1 at c1 t1
                    generalize (flJ ls lo hi js tx ty (m + 1)).getD k 0 = z2 at c2 t1
                    go_wp2
                    refine wp_region_kept (by kernel_rfl) (by kernel_rfl) ?_
                    repeat (go_big_quiet_step (fail))
                    refine wpQuiet_nil ?_
                    rintro wq ⟨⟨_, Bq⟩, rfl⟩
                    have HW5 := Lib.hid (below_call HW4.out Bq)
                    clear c1 c2 Bq
                    go_wp2
                    go_roundw
                    case rel => exact ⟨k + 1, false, by omega, by congr 1, rfl, HC2, HW5⟩
                    case measure => simp [intOf]; omega
                | false =>
                  have HC2 := Lib.hid (show (false = true ↔ ∀ i, i < k + 1 → (flJ ls lo hi js tx ty m).getD i 0 = (flJ ls lo hi js tx ty (m + 1)).getD i 0) from ⟨(fun h => by cases h), fun h => HC.out.2 fun i hi => h i (by omega)⟩)
                  go_wp2
                  refine wp_region_kept (by kernel_rfl) (by kernel_rfl) ?_
                  repeat (go_big_quiet_step (fail))
                  refine wpQuiet_nil ?_
                  rintro wq ⟨⟨_, Bq⟩, rfl⟩
                  have HW5 := Lib.hid (below_call HW4.out Bq)
                  clear Bq
                  go_wp2
                  go_roundw
                  case rel => exact ⟨k + 1, false, by omega, by congr 1, rfl, HC2, HW5⟩
                  case measure => simp [intOf]; omega
              · obtain rfl : k = jl := by omega
                cases c with
                | true =>
                  have HEQ := Lib.hid (show followV ls lo hi js tx ty (stn : Int) = flJ ls lo hi js tx ty m by
                    rw [HFIN.out, show stn = m + (stn - m) by omega]
                    exact flJ_stays (ext_getD ((HSL.out (m + 1)).symm.trans (HSL.out m)) (fun i hi => (HC.out.1 rfl i (by rw [HSL.out (m + 1)]; exact hi)).symm)) _)
                  go_wp2
                  go_ret
                  exact ⟨⟨some ⟨bs, os, none⟩, k, sc⟩, rfl, by rw [HEQ.out]; exact (HO3.out.next HW4.out).mono HB.out.size, by rw [HEQ.out]; exact HO3.out.ints.1, below_call HB.out (below_call HB3.out HW4.out)⟩
                | false =>
                  go_wp2
                  go_roundw
                  case rel => exact ⟨m + 1, ⟨some ⟨bt, ot, none⟩, k, tc⟩, by omega, by congr 1, rfl, Lib.hid (HX3.out.next HW4.out), Lib.hid (below_call HB3.out HW4.out)⟩
                  case measure => simp [intOf]; omega
          · obtain rfl : m = stn := by omega
            go_wp2
            go_ret
            exact ⟨⟨sa, jl, sc⟩, rfl, by rw [HFIN.out]; exact HO.out.mono HB.out.size, by rw [HFIN.out]; exact HO.out.ints.1, below_call HB.out HW.out⟩
      · have HV := Lib.hid (followV_out fun h => hs h.2.2 : followV ls lo hi js tx ty st = [])
        go_enter Tryd.func50, Tryd.ntmps50
        go_wp2_with fail
        refine (specJointsValid ⟨xa, xl, xc⟩ ⟨ya, yl, yc⟩ ⟨za, zl, zc⟩ ⟨ja, jl, jc⟩ ls lo hi js _ hx hy hz hj bx b_y bz bj).mono ?_
        generalize (w.alloc (.cells #[.slice xa xl xc, .slice ya yl yc, .slice za zl zc] 25)).alloc (.cells #[.int .i64 tx, .int .i64 ty] 35) = w0 at *
        rw [decide_eq_true hv]
        rintro e w1 ⟨rfl, B1⟩
        obtain ⟨_, q1, q2⟩ := Q.next B1
        go_wp2_with fail
        refine (specPointValidY tx ty _ hp).mono ?_
        rintro e w2 ⟨rfl, B2⟩
        go_wp2_with fail
        refine (l1In_no st 0 500 _ (by omega)).mono ?_
        rintro e w' ⟨rfl, rfl⟩
        have HB2 := Lib.hid (below_call HB.out (below_call B1 B2))
        clear B1 B2 q1 q2 P Q hx hy hz hj
        go_wp2
        go_ret
        rw [HV.out]
        exact rowed_nil HB2.out
    · have HV := Lib.hid (followV_out fun h => hp h.2.1 : followV ls lo hi js tx ty st = [])
      go_enter Tryd.func50, Tryd.ntmps50
      go_wp2_with fail
      refine (specJointsValid ⟨xa, xl, xc⟩ ⟨ya, yl, yc⟩ ⟨za, zl, zc⟩ ⟨ja, jl, jc⟩ ls lo hi js _ hx hy hz hj bx b_y bz bj).mono ?_
      generalize (w.alloc (.cells #[.slice xa xl xc, .slice ya yl yc, .slice za zl zc] 25)).alloc (.cells #[.int .i64 tx, .int .i64 ty] 35) = w0 at *
      rw [decide_eq_true hv]
      rintro e w1 ⟨rfl, B1⟩
      obtain ⟨_, q1, q2⟩ := Q.next B1
      go_wp2_with fail
      refine (specPointValidN tx ty _ hp).mono ?_
      rintro e w2 ⟨rfl, B2⟩
      have HB2 := Lib.hid (below_call HB.out (below_call B1 B2))
      clear B1 B2 q1 q2 P Q hx hy hz hj
      go_wp2
      go_ret
      rw [HV.out]
      exact rowed_nil HB2.out
  · have HV := Lib.hid (followV_out fun h => hv h.1 : followV ls lo hi js tx ty st = [])
    go_enter Tryd.func50, Tryd.ntmps50
    go_wp2_with fail
    refine (specJointsValid ⟨xa, xl, xc⟩ ⟨ya, yl, yc⟩ ⟨za, zl, zc⟩ ⟨ja, jl, jc⟩ ls lo hi js _ hx hy hz hj bx b_y bz bj).mono ?_
    generalize (w.alloc (.cells #[.slice xa xl xc, .slice ya yl yc, .slice za zl zc] 25)).alloc (.cells #[.int .i64 tx, .int .i64 ty] 35) = w0 at *
    rw [decide_eq_false hv]
    rintro e w1 ⟨rfl, B1⟩
    have HB2 := Lib.hid (below_call HB.out B1)
    clear B1 P Q hx hy hz hj
    go_wp2
    go_ret
    rw [HV.out]
    exact rowed_nil HB2.out
end Go.Proofs.YtolkihibjabmhaaDoor
