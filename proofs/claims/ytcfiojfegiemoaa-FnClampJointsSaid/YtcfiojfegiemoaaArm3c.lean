/- Clamped angles: the contract of the document's ClampJoints. -/
import Derived.Test.YtcfiojfegiemoaaArm3b
import Derived.Deep.AppendLies
import Derived.Deep.RegionHeld3
namespace Go.Proofs.Ytcfiojfegiemoaa
open Go.RowKit
attribute [local go_sem ↓] Go.wp_at_zero Go.wp_at_succ

/-- The nearest number in o..h. -/
def clip (d o h : Int) : Int := max o (min h d)
/-- The clamped angles. -/
def clampL (lo hi js : List Int) : List Int := (List.range js.length).map fun (k : Nat) => clip (js.getD k 0) (lo.getD k 0) (hi.getD k 0)
theorem clampL_len (lo hi js : List Int) : (clampL lo hi js).length = js.length := by simp [clampL]
theorem clampL_at (lo hi js : List Int) (k : Nat) (h : k < js.length) : (clampL lo hi js)[k]? = some (clip (js.getD k 0) (lo.getD k 0) (hi.getD k 0)) := by
  unfold clampL; rw [List.getElem?_map, List.getElem?_range h]; rfl
theorem take_next (zs : List Int) (k : Nat) (z : Int) (h : zs[k]? = some z) : vals (zs.take (k + 1)) = vals (zs.take k) ++ [Value.int .i64 z] := by
  have hl : k < zs.length := (List.getElem?_eq_some_iff.1 h).1
  have e : zs[k] = z := (List.getElem?_eq_some_iff.1 h).2
  rw [List.take_succ_eq_append_getElem hl, e]; simp
theorem World.ownsRow_down {w : World} {base base' : Nat} {e : TypeId} {size : Nat} {v : Value} {n : Nat} {xs : List Value} (h : w.ownsRow base e size v n xs) (hb : base' ≤ base) : w.ownsRow base' e size v n xs :=
  ⟨h.1, h.2.imp id fun ⟨g, cap, cur, hv, hg, rest⟩ => ⟨g, cap, cur, hv, Nat.le_trans hb hg, rest⟩⟩
theorem below_drew' (w : World) : Below w.heap.size w w.drew := (Below.refl _ _).drew
theorem l1Clip (d o h : Int) (w : World) : Calls Try.prog 44 #[.int .i64 d, .int .i64 o, .int .i64 h] w fun e w' => e = .returned (.int .i64 (clip d o h)) ∧ w = w' := by
  have HE := Lib.hid (show clip d o h = max o (min h d) from rfl)
  go_enter Try.func44, Try.ntmps44
  go_wp2
  all_goals
    go_ret
    exact ⟨ret_int (by rw [HE.out]; omega), rfl⟩
set_option maxHeartbeats 1000000 in
theorem specClampJointsY (x y z j : Sl) (ls lo hi js : List Int) (w : World) (hx : IntsAt w x.a x.len ls) (hy : IntsAt w y.a y.len lo) (hz : IntsAt w z.a z.len hi) (hj : IntsAt w j.a j.len js) (hok : okArm ls lo hi) (hl : js.length = ls.length) :
    Calls Try.prog 25 #[av x y z, .slice j.a j.len j.cap] w fun e w' => ∃ v, e = .returned v ∧ OwnI w' w.heap.size v (clampL lo hi js) ∧ Below w.heap.size w w' := by
  obtain ⟨i0, hi0, hz0, hz1, hz2⟩ := info_parts infoInt
  obtain ⟨xa, xl, xc⟩ := x
  obtain ⟨ya, yl, yc⟩ := y
  obtain ⟨za, zl, zc⟩ := z
  obtain ⟨ja, jl, jc⟩ := j
  simp only at *
  have m4 := hj.1
  obtain ⟨n1, n2, n3, n4, n5⟩ := id hok
  have m1 := hx.1
  have m2 := hy.1
  have m3 := hz.1
  have HC := Lib.hid (fun k (h : k < jl) => clampL_at lo hi js k (by omega))
  have HL := Lib.hid (show (clampL lo hi js).length = jl by rw [clampL_len]; omega)
  obtain rfl : xl = jl := by omega
  obtain rfl : yl = xl := by omega
  obtain rfl : zl = yl := by omega
  obtain ⟨b1, o1, rfl, lt1, c1⟩ := hx.some (by omega)
  obtain ⟨b2, o2, rfl, lt2, c2⟩ := hy.some (by omega)
  obtain ⟨b3, o3, rfl, lt3, c3⟩ := hz.some (by omega)
  obtain ⟨b4, o4, rfl, lt4, c4⟩ := hj.some (by omega)
  have z4 : zl ≤ 4 := by omega
  have HB := Lib.hid (below_box2 w (.cells #[.slice (some ⟨b1, o1, none⟩) zl xc, .slice (some ⟨b2, o2, none⟩) zl yc, .slice (some ⟨b3, o3, none⟩) zl zc] 25) (.cells #[] 3))
  have P := (AtA.box w (.slice (some ⟨b1, o1, none⟩) zl xc) (.slice (some ⟨b2, o2, none⟩) zl yc) (.slice (some ⟨b3, o3, none⟩) zl zc) 25).alloc (.cells #[] 3)
  have e1 : ((zl : Int) != (zl : Int)) = false := by simp
  clear m1 m2 m3 m4 hl n1 n2 n3 n4 n5 c1
  go_enter Try.func25, Try.ntmps25
  go_wp2_with fail
  refine (specArmValidY ⟨some ⟨b1, o1, none⟩, zl, xc⟩ ⟨some ⟨b2, o2, none⟩, zl, yc⟩ ⟨some ⟨b3, o3, none⟩, zl, zc⟩ ls lo hi _ (hx.next HB.out) (hy.next HB.out) (hz.next HB.out) hok).mono ?_
  have O0 : ((w.alloc (.cells #[.slice (some ⟨b1, o1, none⟩) zl xc, .slice (some ⟨b2, o2, none⟩) zl yc, .slice (some ⟨b3, o3, none⟩) zl zc] 25)).alloc (.cells #[] 3)).ownsRow (w.heap.size + 1) 3 1 (.slice (some ⟨w.heap.size + 1, 0, none⟩) 0 0) 0 (vals ((clampL lo hi js).take 0)) := by
    have := World.ownsRow_lit (base := w.heap.size + 1) (e := 3) (size := 1) (w.alloc (.cells #[.slice (some ⟨b1, o1, none⟩) zl xc, .slice (some ⟨b2, o2, none⟩) zl yc, .slice (some ⟨b3, o3, none⟩) zl zc] 25)) #[] 0 (by simp) (Nat.zero_le _) rfl
    simpa using this
  generalize ((w.alloc (.cells #[.slice (some ⟨b1, o1, none⟩) zl xc, .slice (some ⟨b2, o2, none⟩) zl yc, .slice (some ⟨b3, o3, none⟩) zl zc] 25)).alloc (.cells #[] 3)) = w0 at *
  rintro e w1 ⟨rfl, B1⟩
  have P1 := P.next B1
  have O1 := World.ownsRow.kept (row := none) O0 ⟨B1.os, B1.tape, B1.output, B1.size, fun k hk _ => B1.block k hk⟩ (.inr (by simp [Value.ownBlock]))
  have C1 := Lib.hid c4
  have C2 := Lib.hid c2
  have C3 := Lib.hid c3
  replace HB := Lib.hid (below_call HB.out B1)
  obtain ⟨_, d1, d2, d3, _, _, _⟩ := id P1
  clear c2 c3 c4 P B1 hx hy hz hj O0
  go_wp2
  clear d1 d2 d3
  go_loopw [5, 6] (fun v i wr => ∃ k : Nat, k ≤ zl ∧ i = .int .i64 (k : Int) ∧ Hid (wr.ownsRow (w.heap.size + 1) 3 1 v k (vals ((clampL lo hi js).take k))) ∧ Hid (Below w.heap.size w wr) ∧ Hid (AtA wr w.heap.size (.slice (some ⟨b1, o1, none⟩) zl xc) (.slice (some ⟨b2, o2, none⟩) zl yc) (.slice (some ⟨b3, o3, none⟩) zl zc))) (fun _ i _ => zl - (intOf i).toNat)
  case atStart => exact ⟨0, Nat.zero_le _, rfl, Lib.hid O1, Lib.hid HB.out, Lib.hid P1⟩
  case round =>
    rename_i v i
    obtain ⟨k, hk, rfl, HO, HW, HP⟩ := hrel
    by_cases hlt : k < zl
    · have i0' : (0 : Int) ≤ (k : Int) := by omega
      have i1 : (k : Int) < (zl : Int) := by omega
      have HZ := Lib.hid (take_next _ k _ (HC.out k hlt))
      obtain ⟨_, d1, d2, d3, _, _, _⟩ := HP.out.next (below_drew' wr)
      have d4 : wr.drew.cell? ⟨b4, o4 + k, none⟩ = _ := (HW.out.drew.cell (p := ⟨b4, o4 + k, none⟩) lt4).trans (C1.out k hlt)
      have d5 : wr.drew.cell? ⟨b2, o2 + k, none⟩ = _ := (HW.out.drew.cell (p := ⟨b2, o2 + k, none⟩) lt2).trans (C2.out k hlt)
      have d6 : wr.drew.cell? ⟨b3, o3 + k, none⟩ = _ := (HW.out.drew.cell (p := ⟨b3, o3 + k, none⟩) lt3).trans (C3.out k hlt)
      have HO' := Lib.hid HO.out.drew
      have HW' := Lib.hid HW.out.drew
      have HP' := Lib.hid (HP.out.next (below_drew' wr))
      have E4 := Lib.hid (C1.out k hlt)
      have E5 := Lib.hid (C2.out k hlt)
      have E6 := Lib.hid (C3.out k hlt)
      generalize js.getD k 0 = d at *
      generalize lo.getD k 0 = o at *
      generalize hi.getD k 0 = h at *
      have HQ := Lib.hid ((HP.out.alloc (.cells #[.int .i64 (clip d o h)] 3)).next (below_drew' _))
      have HV := Lib.hid ((HW.out.alloc HW.out.size (.cells #[.int .i64 (clip d o h)] 3)).drew)
      have HO2 := Lib.hid ((HO.out.alloc (.cells #[.int .i64 (clip d o h)] 3)).drew)
      have own0 := Lib.hid (World.ownsRow.lt HO.out)
      have HN := Lib.hid (cell_one_new wr (.int .i64 (clip d o h)) 3)
      have HH : Hid (w.heap.size + 1 ≤ (wr.alloc (.cells #[.int .i64 (clip d o h)] 3)).drew.heap.size) := Lib.hid (by have := HP.out.lt; show _ ≤ (wr.alloc (.cells #[.int .i64 (clip d o h)] 3)).heap.size; simp; omega)
      go_wp2
      go_region_held3 (fun u => u.cell? ⟨w.heap.size, 0, none⟩ = some (.slice (some ⟨b1, o1, none⟩) zl xc) ∧ u.cell? ⟨w.heap.size, 1, none⟩ = some (.slice (some ⟨b2, o2, none⟩) zl yc) ∧ u.cell? ⟨w.heap.size, 2, none⟩ = some (.slice (some ⟨b3, o3, none⟩) zl zc) ∧ u.cell? ⟨b4, o4 + k, none⟩ = some (.int .i64 d) ∧ u.cell? ⟨b2, o2 + k, none⟩ = some (.int .i64 o) ∧ u.cell? ⟨b3, o3 + k, none⟩ = some (.int .i64 h)) (first | exact ⟨d1, d2, d3, d4, d5, d6⟩ | exact ⟨f1, f2, f3, f4, f5, f6⟩ | exact ⟨HQ.out.c0, HQ.out.c1, HQ.out.c2, (HV.out.cell (p := ⟨b4, o4 + k, none⟩) lt4).trans E4.out, (HV.out.cell (p := ⟨b2, o2 + k, none⟩) lt2).trans E5.out, (HV.out.cell (p := ⟨b3, o3 + k, none⟩) lt3).trans E6.out⟩) (first
        | (go_at_call 44
           refine (l1Clip d o h _).mono ?_
           rintro e w' ⟨rfl, rfl⟩)
        | (refine step_append_lies _ rfl (.tmp 26) (.tmp 42) 23 rfl (w.heap.size + 1) 3 i0 (.int .i64 0) 1 8 Try.underlying23 hi0 hz0 hz1 hz2 rfl (by decide) _ k (vals ((clampL lo hi js).take k)) rfl HO2.out ⟨wr.heap.size, 0, none⟩ 1 1 [.int .i64 (clip d o h)] rfl rfl HN.out (by intro u hu; simp at hu; subst hu; rfl) (by omega) (by unfold maxLen; omega) (by omega) HH.out _ rfl ?_
           intro g cap w3 own3 grow3 at3 ltg
           have HW3 := Lib.hid (HV.out.grown grow3 HV.out.size (fun q hq => by have := (own0.out q hq).1; omega))
           have HQ3 := Lib.hid (HQ.out.kept grow3 (by intro hh; have := (own0.out _ hh.symm).1; omega))
           have f1 := HQ3.out.c0
           have f2 := HQ3.out.c1
           have f3 := HQ3.out.c2
           have f4 := (HW3.out.cell (p := ⟨b4, o4 + k, none⟩) lt4).trans E4.out
           have f5 := (HW3.out.cell (p := ⟨b2, o2 + k, none⟩) lt2).trans E5.out
           have f6 := (HW3.out.cell (p := ⟨b3, o3 + k, none⟩) lt3).trans E6.out))
      all_goals
        go_wp2
        go_roundw
        case rel => exact ⟨k + 1, by omega, by congr 1, Lib.hid (by rw [HZ.out]; exact own3), HW3, HQ3⟩
        case measure => simp [intOf]; omega
    · obtain rfl : k = zl := by omega
      go_wp2
      go_ret
      refine ⟨_, rfl, ?_, HW.out⟩
      have := HO.out
      rw [List.take_of_length_le (by rw [HL.out]; exact Nat.le_refl _)] at this
      unfold OwnI
      rw [HL.out]
      exact World.ownsRow_down this (Nat.le_succ _)
theorem specClampJointsN (x y z j : Sl) (ls lo hi js : List Int) (w : World) (hx : IntsAt w x.a x.len ls) (hy : IntsAt w y.a y.len lo) (hz : IntsAt w z.a z.len hi) (hj : IntsAt w j.a j.len js) (hv : ¬ (okArm ls lo hi ∧ js.length = ls.length))
    (bx : x.len ≤ 9223372036854775807) (b_y : y.len ≤ 9223372036854775807) (bz : z.len ≤ 9223372036854775807) (bj : j.len ≤ 9223372036854775807) :
    Calls Try.prog 25 #[av x y z, .slice j.a j.len j.cap] w fun e w' => ∃ v, e = .returned v ∧ OwnI w' w.heap.size v [] ∧ Below w.heap.size w w' := by
  obtain ⟨xa, xl, xc⟩ := x
  obtain ⟨ya, yl, yc⟩ := y
  obtain ⟨za, zl, zc⟩ := z
  obtain ⟨ja, jl, jc⟩ := j
  simp only at *
  have HB := Lib.hid (below_box2 w (.cells #[.slice xa xl xc, .slice ya yl yc, .slice za zl zc] 25) (.cells #[] 3))
  have P := (AtA.box w (.slice xa xl xc) (.slice ya yl yc) (.slice za zl zc) 25).alloc (.cells #[] 3)
  have O0 : OwnI ((w.alloc (.cells #[.slice xa xl xc, .slice ya yl yc, .slice za zl zc] 25)).alloc (.cells #[] 3)) w.heap.size (.slice (some ⟨w.heap.size + 1, 0, none⟩) 0 0) [] := by
    have := World.ownsRow_lit (base := w.heap.size) (e := 3) (size := 1) (w.alloc (.cells #[.slice xa xl xc, .slice ya yl yc, .slice za zl zc] 25)) #[] 0 (by simp) (Nat.zero_le _) rfl
    simpa [OwnI] using this
  have m1 := hx.1
  have m4 := hj.1
  by_cases hok : okArm ls lo hi
  · have e1 : ((jl : Int) != (xl : Int)) = true := by
      have : ¬ js.length = ls.length := fun h => hv ⟨hok, h⟩
      simp; omega
    clear hv m1 m4 hj
    go_enter Try.func25, Try.ntmps25
    go_wp2_with fail
    refine (specArmValidY ⟨xa, xl, xc⟩ ⟨ya, yl, yc⟩ ⟨za, zl, zc⟩ ls lo hi _ (hx.next HB.out) (hy.next HB.out) (hz.next HB.out) hok).mono ?_
    rintro e w1 ⟨rfl, B1⟩
    obtain ⟨_, d1, d2, d3, _, _, _⟩ := P.next B1
    have HB1 := Lib.hid (below_call HB.out B1)
    have HO := Lib.hid (O0.next B1)
    clear P B1 hx hy hz O0
    go_wp2
    go_ret
    exact ⟨_, rfl, HO.out, HB1.out⟩
  · clear hv m1 m4 hj
    go_enter Try.func25, Try.ntmps25
    go_wp2_with fail
    refine (specArmValidN ⟨xa, xl, xc⟩ ⟨ya, yl, yc⟩ ⟨za, zl, zc⟩ ls lo hi _ (hx.next HB.out) (hy.next HB.out) (hz.next HB.out) hok bx b_y bz).mono ?_
    rintro e w1 ⟨rfl, B1⟩
    have HB1 := Lib.hid (below_call HB.out B1)
    have HO := Lib.hid (O0.next B1)
    clear P B1 hx hy hz O0
    go_wp2
    go_ret
    exact ⟨_, rfl, HO.out, HB1.out⟩
end Go.Proofs.Ytcfiojfegiemoaa
