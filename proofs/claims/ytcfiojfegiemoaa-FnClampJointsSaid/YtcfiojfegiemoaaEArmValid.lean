/- The walk of the law FnExactArmValid: it returns true at every arm, once the program's ArmValid answers by the document's rule. -/
import Derived.Test.YtcfiojfegiemoaaArm3
import Derived.Test.YtcfiojfegiemoaaOpen3
import Derived.Deep.RegionHeld3
namespace Go.Proofs.Ytcfiojfegiemoaa
open Go.RowKit
attribute [local go_sem ↓] Go.wp_at_zero Go.wp_at_succ
theorem specArmValid (x y z : Sl) (ls lo hi : List Int) (w : World) (hx : IntsAt w x.a x.len ls) (hy : IntsAt w y.a y.len lo) (hz : IntsAt w z.a z.len hi) (bx : x.len ≤ 9223372036854775807) (b_y : y.len ≤ 9223372036854775807) (bz : z.len ≤ 9223372036854775807) :
    Calls Try.prog 13 #[av x y z] w fun e w' => e = .returned (.bool (decide (okArm ls lo hi))) ∧ Below w.heap.size w w' := by
  by_cases h : okArm ls lo hi
  · rw [decide_eq_true h]; exact specArmValidY x y z ls lo hi w hx hy hz h
  · rw [decide_eq_false h]; exact specArmValidN x y z ls lo hi w hx hy hz h bx b_y bz
/-- What is asked of the program's ArmValid. -/
def ImplArmValid : Prop := ∀ (x y z : Sl) (ls lo hi : List Int) (w : World), IntsAt w x.a x.len ls → IntsAt w y.a y.len lo → IntsAt w z.a z.len hi → x.len ≤ 1048576 → y.len ≤ 1048576 → z.len ≤ 1048576 →
    Calls Try.prog 12 #[av x y z] w fun e w' => e = .returned (.bool (decide (okArm ls lo hi))) ∧ Below w.heap.size w w'
theorem NewArm.ints {w : World} {B : Nat} {x y z : Sl} {ls lo hi : List Int} (h : NewArm w B x y z ls lo hi) : IntsAt w x.a x.len ls ∧ IntsAt w y.a y.len lo ∧ IntsAt w z.a z.len hi := ⟨h.ox.ints, h.oy.ints, h.oz.ints⟩
theorem keepA {w u : World} {b c : Nat} {x y z x2 y2 z2 : Value} (h : Below w.heap.size w u) (A : AtA w b x y z) (B : AtA w c x2 y2 z2) :
    u.cell? ⟨b, 0, none⟩ = some x ∧ u.cell? ⟨b, 1, none⟩ = some y ∧ u.cell? ⟨b, 2, none⟩ = some z ∧ u.cell? ⟨c, 0, none⟩ = some x2 ∧ u.cell? ⟨c, 1, none⟩ = some y2 ∧ u.cell? ⟨c, 2, none⟩ = some z2 :=
  ⟨(A.next h).c0, (A.next h).c1, (A.next h).c2, (B.next h).c0, (B.next h).c1, (B.next h).c2⟩
theorem toArmR (x y z : Sl) (ls lo hi : List Int) (w0 w : World) (hw : Below w0.heap.size w0 w) (hx : IntsAt w0 x.a x.len ls) (hy : IntsAt w0 y.a y.len lo) (hz : IntsAt w0 z.a z.len hi) (lx : x.len ≤ 1048576) (ly : y.len ≤ 1048576) (lz : z.len ≤ 1048576) :
    Calls Try.prog 27 #[av x y z] w fun e w' => ∃ x2 y2 z2 : Sl, e = .returned (av x2 y2 z2) ∧ IntsAt w' x2.a x2.len ls ∧ IntsAt w' y2.a y2.len lo ∧ IntsAt w' z2.a z2.len hi ∧ Below w0.heap.size w0 w' :=
  (toArm x y z ls lo hi w (hx.next hw) (hy.next hw) (hz.next hw) lx ly lz).mono fun _ _ ⟨x2, y2, z2, he, _, _, _, hN, hb⟩ => ⟨x2, y2, z2, he, hN.ints.1, hN.ints.2.1, hN.ints.2.2, below_call hw hb⟩
theorem eqArmR (x y z x2 y2 z2 : Sl) (ls lo hi : List Int) (w0 w : World) (hw : Below w0.heap.size w0 w) (hx : IntsAt w x.a x.len ls) (hy : IntsAt w y.a y.len lo) (hz : IntsAt w z.a z.len hi) (hx2 : IntsAt w x2.a x2.len ls) (hy2 : IntsAt w y2.a y2.len lo) (hz2 : IntsAt w z2.a z2.len hi)
    (bx : x.len ≤ 9223372036854775807) (b_y : y.len ≤ 9223372036854775807) (bz : z.len ≤ 9223372036854775807) :
    Calls Try.prog 28 #[av x y z, av x2 y2 z2] w fun e w' => e = .returned (.bool true) ∧ Below w0.heap.size w0 w' :=
  (eqArm x y z x2 y2 z2 ls lo hi w hx hy hz hx2 hy2 hz2 bx b_y bz).mono fun _ _ ⟨he, hb⟩ => ⟨he, below_call hw hb⟩
set_option maxHeartbeats 1000000 in
theorem walkFnExactArmValid (HI : ImplArmValid) (x y z : Sl) (ls lo hi : List Int) (w : World) (hx : IntsAt w x.a x.len ls) (hy : IntsAt w y.a y.len lo) (hz : IntsAt w z.a z.len hi) (bx : x.len ≤ 9223372036854775807) (b_y : y.len ≤ 9223372036854775807) (bz : z.len ≤ 9223372036854775807) :
    Calls Try.prog 7 #[av x y z] w fun e w' => e = .returned (.bool true) ∧ Below w.heap.size w w' := by
  have HI' := Lib.hid HI
  have HA := Lib.hid (And.intro hx (And.intro hy hz))
  clear HI hx hy hz
  obtain ⟨xa, xl, xc⟩ := x
  obtain ⟨ya, yl, yc⟩ := y
  obtain ⟨za, zl, zc⟩ := z
  simp only at *
  have HB := Lib.hid (below_box w (.cells #[.slice xa xl xc, .slice ya yl yc, .slice za zl zc] 38))
  have P := AtA.box w (.slice xa xl xc) (.slice ya yl yc) (.slice za zl zc) 38
  have e0 : (decide (okArm ls lo hi) != decide (okArm ls lo hi)) = false := by simp
  go_enter Try.func7, Try.ntmps7
  go_wp2_with fail
  refine (szArm ⟨xa, xl, xc⟩ ⟨ya, yl, yc⟩ ⟨za, zl, zc⟩ 1048576 _ (by omega) (by omega) bx b_y bz).mono ?_
  rintro e w1 ⟨r, rfl, hr, B1⟩
  replace P := P.next B1
  replace HB := Lib.hid (below_call HB.out B1)
  clear B1
  rcases hr with rfl | ⟨r0, r1⟩
  · go_wp2
    go_ret
    exact ⟨rfl, HB.out⟩
  · have lx : xl ≤ 1048576 := by simp only at r1; omega
    have ly : yl ≤ 1048576 := by simp only at r1; omega
    have lz : zl ≤ 1048576 := by simp only at r1; omega
    clear r1
    obtain ⟨_, p1, p2, p3, _, _, _⟩ := id P
    go_wp2_with fail
    refine (toArm ⟨xa, xl, xc⟩ ⟨ya, yl, yc⟩ ⟨za, zl, zc⟩ ls lo hi _ (HA.out.1.next HB.out) (HA.out.2.1.next HB.out) (HA.out.2.2.next HB.out) lx ly lz).mono ?_
    rintro e w2 ⟨x2, y2, z2, rfl, q1, q2, q3, N2, B2⟩
    obtain ⟨xa2, xl2, xc2⟩ := x2
    obtain ⟨ya2, yl2, yc2⟩ := y2
    obtain ⟨za2, zl2, zc2⟩ := z2
    simp only at q1 q2 q3
    replace q1 := q1.symm
    replace q2 := q2.symm
    replace q3 := q3.symm
    subst q1 q2 q3
    replace P := P.next B2
    replace HB := Lib.hid (below_call HB.out B2)
    obtain ⟨I1, I2, I3⟩ := N2.ints
    clear p1 p2 p3 N2 B2
    go_wp2_with fail
    refine (specArmValid ⟨xa2, xl, xc2⟩ ⟨ya2, yl, yc2⟩ ⟨za2, zl, zc2⟩ ls lo hi _ I1 I2 I3 bx b_y bz).mono ?_
    rintro e w3 ⟨rfl, B3⟩
    replace P := P.next B3
    replace HB := Lib.hid (below_call HB.out B3)
    obtain ⟨_, p1, p2, p3, _, _, _⟩ := id P
    clear I1 I2 I3 B3
    go_wp2_with fail
    refine (toArm ⟨xa, xl, xc⟩ ⟨ya, yl, yc⟩ ⟨za, zl, zc⟩ ls lo hi _ (HA.out.1.next HB.out) (HA.out.2.1.next HB.out) (HA.out.2.2.next HB.out) lx ly lz).mono ?_
    rintro e w4 ⟨x4, y4, z4, rfl, q1, q2, q3, N4, B4⟩
    obtain ⟨xa4, xl4, xc4⟩ := x4
    obtain ⟨ya4, yl4, yc4⟩ := y4
    obtain ⟨za4, zl4, zc4⟩ := z4
    simp only at q1 q2 q3
    replace q1 := q1.symm
    replace q2 := q2.symm
    replace q3 := q3.symm
    subst q1 q2 q3
    have X := AtA.box w4 (.slice xa4 xl xc4) (.slice ya4 yl yc4) (.slice za4 zl zc4) 25
    have Bx := below_box w4 (.cells #[.slice xa4 xl xc4, .slice ya4 yl yc4, .slice za4 zl zc4] 25)
    replace N4 := N4.next Bx
    replace P := (P.next B4).next Bx
    replace HB := Lib.hid (below_call (below_call HB.out B4) Bx)
    obtain ⟨I1, I2, I3⟩ := N4.ints
    clear p1 p2 p3 B4 Bx
    go_wp2_with fail
    refine (HI'.out ⟨xa4, xl, xc4⟩ ⟨ya4, yl, yc4⟩ ⟨za4, zl, zc4⟩ ls lo hi _ I1 I2 I3 lx ly lz).mono ?_
    generalize w4.alloc (.cells #[.slice xa4 xl xc4, .slice ya4 yl yc4, .slice za4 zl zc4] 25) = w5 at *
    rintro e w6 ⟨rfl, B6⟩
    replace X := X.next B6
    replace P := P.next B6
    replace HB := Lib.hid (below_call HB.out B6)
    replace I1 := I1.next B6
    replace I2 := I2.next B6
    replace I3 := I3.next B6
    clear N4 B6
    have g0 : Below w6.heap.size w6 w6 := Below.refl _ _
    go_wp2
    go_region_held3 (fun u => u.cell? ⟨w4.heap.size, 0, none⟩ = some (.slice xa4 xl xc4) ∧ u.cell? ⟨w4.heap.size, 1, none⟩ = some (.slice ya4 yl yc4) ∧ u.cell? ⟨w4.heap.size, 2, none⟩ = some (.slice za4 zl zc4) ∧ u.cell? ⟨w.heap.size, 0, none⟩ = some (.slice xa xl xc) ∧ u.cell? ⟨w.heap.size, 1, none⟩ = some (.slice ya yl yc) ∧ u.cell? ⟨w.heap.size, 2, none⟩ = some (.slice za zl zc)) (exact keepA (by repeat (first | (with_reducible assumption) | (with_reducible apply Below.drew))) X P) (first
      | (go_at_call 27
         refine (toArmR ⟨xa, xl, xc⟩ ⟨ya, yl, yc⟩ ⟨za, zl, zc⟩ ls lo hi w6 _ (by repeat (first | (with_reducible assumption) | (with_reducible apply Below.drew))) (HA.out.1.next HB.out) (HA.out.2.1.next HB.out) (HA.out.2.2.next HB.out) lx ly lz).mono ?_
         rintro e w7 ⟨x7, y7, z7, rfl, J1, J2, J3, K7⟩)
      | (go_at_call 28
         refine (eqArmR ⟨xa4, xl, xc4⟩ ⟨ya4, yl, yc4⟩ ⟨za4, zl, zc4⟩ x7 y7 z7 ls lo hi w6 _ (by repeat (first | (with_reducible assumption) | (with_reducible apply Below.drew))) (I1.next K7) (I2.next K7) (I3.next K7) J1 J2 J3 bx b_y bz).mono ?_
         rintro e w8 ⟨rfl, K8⟩))
    replace HB := Lib.hid (below_call HB.out K8)
    go_wp2
    go_ret
    exact ⟨rfl, HB.out⟩
end Go.Proofs.Ytcfiojfegiemoaa
