/- The walk of the law FnExactGridSize: it returns true at every argument. -/
import Derived.Test.YtmdkihaiognpgaaGq11
import Derived.Test.YtmdkihaiognpgaaZbChn
import Derived.Deep.RegionHeld3
namespace Go.Proofs.Ytmdkihaiognpgaa
set_option maxRecDepth 100000
open Go.RowKit
attribute [local go_sem ↓] Go.wp_at_zero Go.wp_at_succ
set_option maxHeartbeats 4000000 in
set_option maxRecDepth 100000 in
theorem walkFnExactGridSize (x y z : Sl) (step : Int) (ls lo hi : List Int) (w : World) (hx : IntsAt w x.a x.len ls) (hy : IntsAt w y.a y.len lo) (hz : IntsAt w z.a z.len hi) (bx : x.len ≤ 9223372036854775807) (b_y : y.len ≤ 9223372036854775807) (bz : z.len ≤ 9223372036854775807) :
    Calls Try.prog 9 #[av x y z, .int .i64 step] w fun e w' => e = .returned (.bool true) ∧ Below w.heap.size w w' := by
  have HA := Lib.hid (And.intro hx (And.intro hy hz))
  clear hx hy hz 
  obtain ⟨xa, xl, xc⟩ := x
  obtain ⟨ya, yl, yc⟩ := y
  obtain ⟨za, zl, zc⟩ := z
  simp only at *
  have HB := Lib.hid (below_box w (.cells #[.slice xa xl xc, .slice ya yl yc, .slice za zl zc] 51))
  have P := AtA.box w (.slice xa xl xc) (.slice ya yl yc) (.slice za zl zc) 51
  have e0 : (gridX ls lo hi step != gridX ls lo hi step) = false := by simp
  have e1 : (gridY ls lo hi step != gridY ls lo hi step) = false := by simp
  go_enter Try.func9, Try.ntmps9
  go_wp2_with fail
  refine (szArm ⟨xa, xl, xc⟩ ⟨ya, yl, yc⟩ ⟨za, zl, zc⟩ 1048576 _ (by omega) (by omega) bx b_y bz).mono ?_
  rintro e w1 ⟨r, rfl, hr, B1⟩
  replace P := P.next B1
  replace HB := Lib.hid (below_call HB.out B1)
  clear B1
  rcases hr with rfl | ⟨r0, r1⟩
  · go_wp2
    go_ret
    exact ⟨rfl, HB.out⟩
  · have lx : xl ≤ 1048576 := by simp only at r1; omega
    have ly : yl ≤ 1048576 := by simp only at r1; omega
    have lz : zl ≤ 1048576 := by simp only at r1; omega
    clear r1
    obtain ⟨_, p1, p2, p3, _, _, _⟩ := id P
    go_wp2_with fail
    refine (toArm ⟨xa, xl, xc⟩ ⟨ya, yl, yc⟩ ⟨za, zl, zc⟩ ls lo hi _ (HA.out.1.next HB.out) (HA.out.2.1.next HB.out) (HA.out.2.2.next HB.out) lx ly lz).mono ?_
    rintro e w2 ⟨x2, y2, z2, rfl, q1, q2, q3, N2, B2⟩
    obtain ⟨xa2, xl2, xc2⟩ := x2
    obtain ⟨ya2, yl2, yc2⟩ := y2
    obtain ⟨za2, zl2, zc2⟩ := z2
    simp only at q1 q2 q3
    replace q1 := q1.symm
    replace q2 := q2.symm
    replace q3 := q3.symm
    subst q1 q2 q3
    replace P := P.next B2
    replace HB := Lib.hid (below_call HB.out B2)
    obtain ⟨I1, I2, I3⟩ := N2.ints
    clear p1 p2 p3 N2 B2
    go_wp2_with fail
    refine (specGridSize ⟨xa2, xl, xc2⟩ ⟨ya2, yl, yc2⟩ ⟨za2, zl, zc2⟩ ls lo hi step _ I1 I2 I3 bx b_y bz).mono ?_
    rintro e wB ⟨rfl, B4⟩
    replace P := P.next B4
    replace HB := Lib.hid (below_call HB.out B4)
    clear I1 I2 I3 B4
    obtain ⟨_, p1, p2, p3, _, _, _⟩ := id P
    go_wp2_with fail
    refine (toArm ⟨xa, xl, xc⟩ ⟨ya, yl, yc⟩ ⟨za, zl, zc⟩ ls lo hi _ (HA.out.1.next HB.out) (HA.out.2.1.next HB.out) (HA.out.2.2.next HB.out) lx ly lz).mono ?_
    rintro e w5 ⟨x5, y5, z5, rfl, q1, q2, q3, N5, B5⟩
    obtain ⟨xa5, xl5, xc5⟩ := x5
    obtain ⟨ya5, yl5, yc5⟩ := y5
    obtain ⟨za5, zl5, zc5⟩ := z5
    simp only at q1 q2 q3
    replace q1 := q1.symm
    replace q2 := q2.symm
    replace q3 := q3.symm
    subst q1 q2 q3
    have X := AtA.box w5 (.slice xa5 xl xc5) (.slice ya5 yl yc5) (.slice za5 zl zc5) 25
    have Bx := below_box w5 (.cells #[.slice xa5 xl xc5, .slice ya5 yl yc5, .slice za5 zl zc5] 25)
    replace N5 := N5.next Bx
    have HK := Lib.hid (below_call B5 Bx)
    have PB := Lib.hid P
    clear p1 p2 p3 B5 Bx P
    obtain ⟨x0, x1, x2, x3, _, _, _⟩ := id X
    obtain ⟨I1, I2, I3⟩ := N5.ints
    go_wp2_with fail
    refine (implGridSize ⟨xa5, xl, xc5⟩ ⟨ya5, yl, yc5⟩ ⟨za5, zl, zc5⟩ ls lo hi step _ I1 I2 I3 bx b_y bz).mono ?_
    generalize w5.alloc (.cells #[.slice xa5 xl xc5, .slice ya5 yl yc5, .slice za5 zl zc5] 25) = w7 at *
    rintro e w8 ⟨rfl, B8⟩
    replace X := X.next B8
    replace N5 := N5.next B8
    replace HK := Lib.hid (below_call HK.out B8)
    obtain ⟨I1, I2, I3⟩ := N5.ints
    clear B8 x0 x1 x2 x3
    have P := PB.out.next HK.out
    have g0 : Below w8.heap.size w8 w8 := Below.refl _ _
    go_wp2
    go_region_held3 (fun u => u.cell? ⟨w5.heap.size, 0, none⟩ = some (.slice xa5 xl xc5) ∧ u.cell? ⟨w5.heap.size, 1, none⟩ = some (.slice ya5 yl yc5) ∧ u.cell? ⟨w5.heap.size, 2, none⟩ = some (.slice za5 zl zc5) ∧ u.cell? ⟨w.heap.size, 0, none⟩ = some (.slice xa xl xc) ∧ u.cell? ⟨w.heap.size, 1, none⟩ = some (.slice ya yl yc) ∧ u.cell? ⟨w.heap.size, 2, none⟩ = some (.slice za zl zc)) (exact keepA (by repeat (first | (with_reducible assumption) | (with_reducible apply Below.drew))) X P) (first
      | (go_at_call 34
         refine (toArmR ⟨xa, xl, xc⟩ ⟨ya, yl, yc⟩ ⟨za, zl, zc⟩ ls lo hi w8 _ (by repeat (first | (with_reducible assumption) | (with_reducible apply Below.drew))) (HA.out.1.next (below_call HB.out HK.out)) (HA.out.2.1.next (below_call HB.out HK.out)) (HA.out.2.2.next (below_call HB.out HK.out)) lx ly lz).mono ?_
         rintro e wc ⟨xc7, yc7, zc7, rfl, J1, J2, J3, K7⟩)
      | (go_at_call 35
         refine (eqArmR ⟨xa5, xl, xc5⟩ ⟨ya5, yl, yc5⟩ ⟨za5, zl, zc5⟩ xc7 yc7 zc7 ls lo hi w8 _ (by repeat (first | (with_reducible assumption) | (with_reducible apply Below.drew))) (I1.next K7) (I2.next K7) (I3.next K7) J1 J2 J3 bx b_y bz).mono ?_
         rintro e wd ⟨rfl, Kd⟩))
    replace HK := Lib.hid (below_call HK.out Kd)
    go_wp2
    go_ret
    exact ⟨rfl, below_call HB.out HK.out⟩
end Go.Proofs.Ytmdkihaiognpgaa
