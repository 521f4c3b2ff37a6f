/- ArmPoints and TipOf, of the program and of the document. -/
import Derived.Test.YtolkihibjabmhaaDoorPTip
namespace Go.Proofs.YtolkihibjabmhaaDoor
set_option maxRecDepth 100000
open Go.RowKit
attribute [local go_sem ↓] Go.wp_at_zero Go.wp_at_succ
/-- What ArmPoints says: a row of the call's own. -/
def PointsOf (ls lo hi js : List Int) (w : World) (e : Ending) (w' : World) : Prop :=
  ∃ s : Sl, e = .returned (.slice s.a s.len s.cap) ∧ OwnPt w' w.heap.size (.slice s.a s.len s.cap) (pointsV ls lo hi js) ∧ s.len = (pointsV ls lo hi js).length ∧ Below w.heap.size w w'
theorem OwnPt.down {w : World} {B B' : Nat} {v : Value} {ps : List (Int × Int)} (h : OwnPt w B v ps) (hB : B' ≤ B) : OwnPt w B' v ps := World.ownsRow_down h hB
def tipX (ls lo hi js : List Int) : Int := if okJoints ls lo hi js then ptX ls js ls.length else 0
def tipY (ls lo hi js : List Int) : Int := if okJoints ls lo hi js then ptY ls js ls.length else 0
theorem tip_in {ls lo hi js : List Int} (h : okJoints ls lo hi js) : tipX ls lo hi js = ptX ls js ls.length ∧ tipY ls lo hi js = ptY ls js ls.length := by
  unfold tipX tipY; rw [if_pos h, if_pos h]; exact ⟨rfl, rfl⟩
theorem tip_out {ls lo hi js : List Int} (h : ¬ okJoints ls lo hi js) : tipX ls lo hi js = 0 ∧ tipY ls lo hi js = 0 := by
  unfold tipX tipY; rw [if_neg h, if_neg h]; exact ⟨rfl, rfl⟩
theorem implArmPoints (x y z j : Sl) (ls lo hi js : List Int) (w : World) (ht : TabAt w) (hx : IntsAt w x.a x.len ls) (hy : IntsAt w y.a y.len lo) (hz : IntsAt w z.a z.len hi) (hj : IntsAt w j.a j.len js) (bx : x.len ≤ 9223372036854775807) (b_y : y.len ≤ 9223372036854775807) (bz : z.len ≤ 9223372036854775807) (bj : j.len ≤ 9223372036854775807) :
    Calls Tryd.prog 16 #[av x y z, .slice j.a j.len j.cap] w (PointsOf ls lo hi js w) := by
  have HB := Lib.hid (below_box w (.cells #[.slice x.a x.len x.cap, .slice y.a y.len y.cap, .slice z.a z.len z.cap] 25))
  have HT := Lib.hid ht
  clear ht
  go_enter Tryd.func16, Tryd.ntmps16
  go_wp2_with fail
  refine (chainOf x y z ls lo hi _ (hx.next HB.out) (hy.next HB.out) (hz.next HB.out) bx b_y bz).mono ?_
  rintro e w1 ⟨B1, ⟨hok, b, rfl, _, hc⟩ | ⟨hok, rfl⟩⟩
  · have HB1 := Lib.hid (below_call HB.out B1)
    clear B1 hx hy hz
    by_cases hv : okJoints ls lo hi js
    · have HV := Lib.hid (pointsV_in hv)
      go_wp2_with fail
      refine (allows b _ j ls lo hi js _ hc hok (hj.next HB1.out) bj).mono ?_
      rw [decide_eq_true hv]
      rintro e w2 ⟨rfl, B2⟩
      have HB2 := Lib.hid (below_call HB1.out B2)
      replace hc := hc.next B2
      clear B2
      go_wp2_with fail
      refine (pointsC b _ j ls lo hi js _ (HT.out.below HB2.out HT.out.lt) hc hv (hj.next HB2.out) (Nat.le_refl _)).mono ?_
      rintro e w3 ⟨v, rfl, O3, B3⟩
      obtain ⟨s, rfl, es⟩ := O3.sl
      have HB3 := Lib.hid (below_call HB2.out B3)
      have HR : Hid (OwnPt w3 w.heap.size (.slice s.a s.len s.cap) (pointsV ls lo hi js) ∧ s.len = (pointsV ls lo hi js).length) := Lib.hid (by rw [HV.out]; exact ⟨O3.down HB2.out.size, es⟩)
      clear B3 hj hc hok hv O3 es
      go_wp2
      go_ret
      exact ⟨s, rfl, HR.out.1, HR.out.2, HB3.out⟩
    · have HV := Lib.hid (pointsV_out hv)
      go_wp2_with fail
      refine (allows b _ j ls lo hi js _ hc hok (hj.next HB1.out) bj).mono ?_
      rw [decide_eq_false hv]
      rintro e w2 ⟨rfl, B2⟩
      have HB2 := Lib.hid (below_call HB1.out B2)
      clear B2 hj hc hok hv
      go_wp2
      go_ret
      exact ⟨⟨none, 0, 0⟩, rfl, by rw [HV.out]; exact World.ownsRow_nil _ _ _ _, by rw [HV.out]; rfl, HB2.out⟩
  · have HV := Lib.hid (pointsV_out (show ¬ okJoints ls lo hi js from fun ho => hok ho.1))
    have HB1 := Lib.hid (below_call HB.out B1)
    clear B1 hx hy hz hok
    go_wp2_with fail
    refine (allowsNil j _).mono ?_
    rintro e w' ⟨rfl, rfl⟩
    go_wp2
    go_ret
    exact ⟨⟨none, 0, 0⟩, rfl, by rw [HV.out]; exact World.ownsRow_nil _ _ _ _, by rw [HV.out]; rfl, HB1.out⟩
theorem specArmPoints (x y z j : Sl) (ls lo hi js : List Int) (w : World) (hx : IntsAt w x.a x.len ls) (hy : IntsAt w y.a y.len lo) (hz : IntsAt w z.a z.len hi) (hj : IntsAt w j.a j.len js) (bx : x.len ≤ 9223372036854775807) (b_y : y.len ≤ 9223372036854775807) (bz : z.len ≤ 9223372036854775807) (bj : j.len ≤ 9223372036854775807) :
    Calls Tryd.prog 18 #[av x y z, .slice j.a j.len j.cap] w (PointsOf ls lo hi js w) := by
  obtain ⟨xa, xl, xc⟩ := x
  obtain ⟨ya, yl, yc⟩ := y
  obtain ⟨za, zl, zc⟩ := z
  simp only at *
  have HB := Lib.hid (below_box w (.cells #[.slice xa xl xc, .slice ya yl yc, .slice za zl zc] 25))
  have P := AtA.box w (.slice xa xl xc) (.slice ya yl yc) (.slice za zl zc) 25
  go_enter Tryd.func18, Tryd.ntmps18
  go_wp2_with fail
  refine (specJointsValid ⟨xa, xl, xc⟩ ⟨ya, yl, yc⟩ ⟨za, zl, zc⟩ j ls lo hi js _ (hx.next HB.out) (hy.next HB.out) (hz.next HB.out) (hj.next HB.out) bx b_y bz bj).mono ?_
  by_cases hv : okJoints ls lo hi js
  · rw [decide_eq_true hv]
    rintro e w1 ⟨rfl, B1⟩
    have HV := Lib.hid (pointsV_in hv)
    have HB1 := Lib.hid (below_call HB.out B1)
    obtain ⟨_, p1, p2, p3, _, _, _⟩ := P.next B1
    clear B1 P
    go_wp2_with fail
    refine (l3Points ⟨xa, xl, xc⟩ ⟨ya, yl, yc⟩ ⟨za, zl, zc⟩ j ls lo hi js _ (hx.next HB1.out) (hj.next HB1.out) hv).mono ?_
    rintro e w3 ⟨v, rfl, O3, B3⟩
    obtain ⟨s, rfl, es⟩ := O3.sl
    have HB3 := Lib.hid (below_call HB1.out B3)
    have HR : Hid (OwnPt w3 w.heap.size (.slice s.a s.len s.cap) (pointsV ls lo hi js) ∧ s.len = (pointsV ls lo hi js).length) := Lib.hid (by rw [HV.out]; exact ⟨O3.down HB1.out.size, es⟩)
    clear B3 hj hv O3 es p1 p2 p3 hx hy hz
    go_wp2
    go_ret
    exact ⟨s, rfl, HR.out.1, HR.out.2, HB3.out⟩
  · rw [decide_eq_false hv]
    rintro e w1 ⟨rfl, B1⟩
    have HV := Lib.hid (pointsV_out hv)
    have HB1 := Lib.hid (below_call HB.out B1)
    have HO : Hid (OwnPt (w1.alloc (.cells #[] 35)) w.heap.size (.slice (some ⟨w1.heap.size, 0, none⟩) 0 0) []) := Lib.hid (by
      have := World.ownsRow_lit (base := w.heap.size) (e := 35) (size := 2) w1 #[] 0 HB1.out.size (Nat.zero_le _) rfl
      simpa [OwnPt, pvals] using this)
    clear B1 P hv hx hy hz hj
    go_wp2
    go_ret
    exact ⟨⟨some ⟨w1.heap.size, 0, none⟩, 0, 0⟩, rfl, by rw [HV.out]; exact HO.out, by rw [HV.out]; rfl, below_call HB1.out (below_box _ _)⟩
theorem tip_at {ls lo hi js : List Int} (h : okJoints ls lo hi js) : (ptsL ls js).getD ls.length (0, 0) = (tipX ls lo hi js, tipY ls lo hi js) := by
  rw [ptsL_at ls js ls.length (Nat.le_refl _), (tip_in h).1, (tip_in h).2]
set_option maxHeartbeats 1000000 in
theorem implTipOf (x y z j : Sl) (ls lo hi js : List Int) (w : World) (ht : TabAt w) (hx : IntsAt w x.a x.len ls) (hy : IntsAt w y.a y.len lo) (hz : IntsAt w z.a z.len hi) (hj : IntsAt w j.a j.len js) (bx : x.len ≤ 9223372036854775807) (b_y : y.len ≤ 9223372036854775807) (bz : z.len ≤ 9223372036854775807) (bj : j.len ≤ 9223372036854775807) :
    Calls Tryd.prog 33 #[av x y z, .slice j.a j.len j.cap] w fun e w' => e = .returned (pt (tipX ls lo hi js) (tipY ls lo hi js)) ∧ Below w.heap.size w w' := by
  have HB := Lib.hid (below_box2 w (.cells #[.slice x.a x.len x.cap, .slice y.a y.len y.cap, .slice z.a z.len z.cap] 25) (.cells #[.int .i64 0, .int .i64 0] 35))
  have R := OwnP.box (w.alloc (.cells #[.slice x.a x.len x.cap, .slice y.a y.len y.cap, .slice z.a z.len z.cap] 25)) 0 0 35
  rw [show (w.alloc (.cells #[.slice x.a x.len x.cap, .slice y.a y.len y.cap, .slice z.a z.len z.cap] 25)).heap.size = w.heap.size + 1 by simp] at R
  have H0 := Lib.hid (show w.heap.size ≤ w.heap.size + 1 by omega)
  have HT := Lib.hid ht
  clear ht
  go_enter Tryd.func33, Tryd.ntmps33
  go_wp2_with fail
  refine (chainOf x y z ls lo hi _ (hx.next HB.out) (hy.next HB.out) (hz.next HB.out) bx b_y bz).mono ?_
  rintro e w1 ⟨B1, ⟨hok, b, rfl, _, hc⟩ | ⟨hok, rfl⟩⟩
  · have HB1 := Lib.hid (below_call HB.out B1)
    replace R := R.next B1
    clear B1 hx hy hz
    by_cases hv : okJoints ls lo hi js
    · have HV := Lib.hid (tip_in hv)
      go_wp2_with fail
      refine (allows b _ j ls lo hi js _ hc hok (hj.next HB1.out) bj).mono ?_
      rw [decide_eq_true hv]
      rintro e w2 ⟨rfl, B2⟩
      have HB2 := Lib.hid (below_call HB1.out B2)
      replace hc := hc.next B2
      replace R := R.next B2
      clear B2
      have hj2 := hj.next HB2.out
      have m4 := hj.1
      have e4 := hv.2.1
      have n1 := hv.1.1
      obtain ⟨b4, o4, ea, lt4, c4⟩ := hj2.some (by omega)
      have HTIP := Lib.hid (tipC b ls.length b4 o4 j.len j.cap ls.length ls lo hi js w2 (HT.out.below HB2.out HT.out.lt) hc (len_bd hok) hok.2.1 (Nat.le_refl _) (fun i hi => dir_bd hv i (by omega)) (by omega) lt4 (fun i hi => c4 i (by omega)))
      rw [← ea] at HTIP
      clear m4 e4 n1 ea hj2 c4
      go_wp2_with fail
      refine HTIP.out.mono ?_
      rintro e w3 ⟨rfl, B3⟩
      have HB3 := Lib.hid (below_call HB2.out B3)
      obtain ⟨⟨_, v8, v9⟩, z1, z2⟩ := R.next B3
      clear B3 hj hc hok hv R HTIP
      go_wp2
      exact bodyPost_ret (v := pt (ptX ls js ls.length) (ptY ls js ls.length)) (by simp [results, Tryd.results33, go_sem, v8, v9]) rfl ⟨pt_eq HV.out.1.symm HV.out.2.symm, below_set HB3.out H0.out _ _⟩
    · have HV := Lib.hid (tip_out hv)
      go_wp2_with fail
      refine (allows b _ j ls lo hi js _ hc hok (hj.next HB1.out) bj).mono ?_
      rw [decide_eq_false hv]
      rintro e w2 ⟨rfl, B2⟩
      have HB2 := Lib.hid (below_call HB1.out B2)
      obtain ⟨⟨_, v8, v9⟩, z1, z2⟩ := R.next B2
      clear B2 hj hc hok hv R
      go_wp2
      exact bodyPost_ret (v := pt 0 0) (by simp [results, Tryd.results33, go_sem, v8, v9]) rfl ⟨pt_eq HV.out.1.symm HV.out.2.symm, below_set HB2.out H0.out _ _⟩
  · have HV := Lib.hid (tip_out (show ¬ okJoints ls lo hi js from fun ho => hok ho.1))
    have HB1 := Lib.hid (below_call HB.out B1)
    obtain ⟨⟨_, v8, v9⟩, z1, z2⟩ := R.next B1
    clear B1 hx hy hz hok R
    go_wp2_with fail
    refine (allowsNil j _).mono ?_
    rintro e w' ⟨rfl, rfl⟩
    go_wp2
    exact bodyPost_ret (v := pt 0 0) (by simp [results, Tryd.results33, go_sem, v8, v9]) rfl ⟨pt_eq HV.out.1.symm HV.out.2.symm, below_set HB1.out H0.out _ _⟩
set_option maxHeartbeats 1000000 in
theorem l3Tip (x y z j : Sl) (ls lo hi js : List Int) (w : World) (hx : IntsAt w x.a x.len ls) (hj : IntsAt w j.a j.len js) (hv : okJoints ls lo hi js) :
    Calls Tryd.prog 68 #[av x y z, .slice j.a j.len j.cap] w fun e w' => e = .returned (pt (tipX ls lo hi js) (tipY ls lo hi js)) ∧ Below w.heap.size w w' := by
  have HB := Lib.hid (below_box2 w (.cells #[.slice x.a x.len x.cap, .slice y.a y.len y.cap, .slice z.a z.len z.cap] 25) (.cells #[.int .i64 0, .int .i64 0] 35))
  have R := OwnP.box (w.alloc (.cells #[.slice x.a x.len x.cap, .slice y.a y.len y.cap, .slice z.a z.len z.cap] 25)) 0 0 35
  rw [show (w.alloc (.cells #[.slice x.a x.len x.cap, .slice y.a y.len y.cap, .slice z.a z.len z.cap] 25)).heap.size = w.heap.size + 1 by simp] at R
  have H0 := Lib.hid (show w.heap.size ≤ w.heap.size + 1 by omega)
  obtain ⟨ja, jl, jc⟩ := j
  simp only at *
  have HM4 := Lib.hid hj.1
  go_enter Tryd.func68, Tryd.ntmps68
  go_wp2_with fail
  refine (l3Points x y z ⟨ja, jl, jc⟩ ls lo hi js _ (hx.next HB.out) (hj.next HB.out) hv).mono ?_
  rintro e w1 ⟨v, rfl, O1, B1⟩
  obtain ⟨⟨sa, sl, sc⟩, rfl, e1⟩ := O1.sl
  simp only at O1 e1
  have HB1 := Lib.hid (below_call HB.out B1)
  obtain ⟨⟨_, v8, v9⟩, z1, z2⟩ := R.next B1
  have n1 := hv.1.1
  have n2 := hv.1.2.1
  rw [ptsL_len] at e1
  have e5 := hv.2.1
  have HE := Lib.hid (tip_at hv)
  obtain ⟨g, rfl, hg, c⟩ := O1.ints.some (by omega)
  obtain ⟨c0, c1⟩ := c ls.length (by omega)
  rw [HE.out] at c0 c1
  simp only at c0 c1
  obtain rfl : ls.length + 1 = sl := e1.symm
  obtain rfl : ls.length = jl := by have := HM4.out; omega
  generalize ls.length = n at *
  have hne : g ≠ w.heap.size + 1 := by have := (World.ownsRow.lt O1 g rfl).1; simp at this; omega
  have j1 : (0 : Int) ≤ (n : Int) := by omega
  have j2 : (n : Int) < ((n + 1 : Nat) : Int) := by omega
  have j3 : (n : Int) < (n : Int) + 1 := by omega
  clear B1 R hx hj O1 c hv HE HM4 e1 e5
  go_wp2
  exact bodyPost_ret (v := pt (tipX ls lo hi js) (tipY ls lo hi js)) (by simp [results, Tryd.results68, go_sem, v8, v9]) rfl ⟨rfl, below_set HB1.out H0.out _ _⟩
set_option maxHeartbeats 1000000 in
theorem specTipOf (x y z j : Sl) (ls lo hi js : List Int) (w : World) (hx : IntsAt w x.a x.len ls) (hy : IntsAt w y.a y.len lo) (hz : IntsAt w z.a z.len hi) (hj : IntsAt w j.a j.len js) (bx : x.len ≤ 9223372036854775807) (b_y : y.len ≤ 9223372036854775807) (bz : z.len ≤ 9223372036854775807) (bj : j.len ≤ 9223372036854775807) :
    Calls Tryd.prog 34 #[av x y z, .slice j.a j.len j.cap] w fun e w' => e = .returned (pt (tipX ls lo hi js) (tipY ls lo hi js)) ∧ Below w.heap.size w w' := by
  obtain ⟨xa, xl, xc⟩ := x
  obtain ⟨ya, yl, yc⟩ := y
  obtain ⟨za, zl, zc⟩ := z
  simp only at *
  have HB := Lib.hid (below_box2 w (.cells #[.slice xa xl xc, .slice ya yl yc, .slice za zl zc] 25) (.cells #[.int .i64 0, .int .i64 0] 35))
  have P := (AtA.box w (.slice xa xl xc) (.slice ya yl yc) (.slice za zl zc) 25).alloc (.cells #[.int .i64 0, .int .i64 0] 35)
  have R := OwnP.box (w.alloc (.cells #[.slice xa xl xc, .slice ya yl yc, .slice za zl zc] 25)) 0 0 35
  rw [show (w.alloc (.cells #[.slice xa xl xc, .slice ya yl yc, .slice za zl zc] 25)).heap.size = w.heap.size + 1 by simp] at R
  have H0 := Lib.hid (show w.heap.size ≤ w.heap.size + 1 by omega)
  go_enter Tryd.func34, Tryd.ntmps34
  go_wp2_with fail
  refine (specJointsValid ⟨xa, xl, xc⟩ ⟨ya, yl, yc⟩ ⟨za, zl, zc⟩ j ls lo hi js _ (hx.next HB.out) (hy.next HB.out) (hz.next HB.out) (hj.next HB.out) bx b_y bz bj).mono ?_
  by_cases hv : okJoints ls lo hi js
  · rw [decide_eq_true hv]
    rintro e w1 ⟨rfl, B1⟩
    have HB1 := Lib.hid (below_call HB.out B1)
    obtain ⟨_, p1, p2, p3, _, _, _⟩ := P.next B1
    replace R := R.next B1
    clear B1 P
    go_wp2_with fail
    refine (l3Tip ⟨xa, xl, xc⟩ ⟨ya, yl, yc⟩ ⟨za, zl, zc⟩ j ls lo hi js _ (hx.next HB1.out) (hj.next HB1.out) hv).mono ?_
    rintro e w3 ⟨rfl, B3⟩
    have HB3 := Lib.hid (below_call HB1.out B3)
    obtain ⟨⟨_, v8, v9⟩, z1, z2⟩ := R.next B3
    clear B3 hj hv p1 p2 p3 hx hy hz R
    go_wp2
    exact bodyPost_ret (v := pt (tipX ls lo hi js) (tipY ls lo hi js)) (by simp [results, Tryd.results34, go_sem, v8, v9]) rfl ⟨rfl, below_set HB3.out H0.out _ _⟩
  · rw [decide_eq_false hv]
    rintro e w1 ⟨rfl, B1⟩
    have HX := Lib.hid (tip_out hv)
    have HB1 := Lib.hid (below_call HB.out B1)
    obtain ⟨⟨_, v8, v9⟩, z1, z2⟩ := R.next B1
    clear B1 P hv hx hy hz hj R
    go_wp2
    exact bodyPost_ret (v := pt 0 0) (by simp [results, Tryd.results34, go_sem, v8, v9]) rfl ⟨pt_eq HX.out.1.symm HX.out.2.symm, below_set HB1.out H0.out _ _⟩
end Go.Proofs.YtolkihibjabmhaaDoor
