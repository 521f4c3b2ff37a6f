/- The walk of the law FnExactMoveTime: it returns true at every argument. -/
import Derived.Test.YtcoaahfnbgkofaaMt6
import Derived.Test.YtcoaahfnbgkofaaOpen3
import Derived.Deep.RegionHeld3
import Derived.Outline
import Derived.Deep.DeepCutAuto
namespace Go.Proofs.Ytcoaahfnbgkofaa
set_option maxRecDepth 100000
open Go.RowKit
attribute [local go_sem ↓] Go.wp_at_zero Go.wp_at_succ
set_option maxHeartbeats 8000000 in
set_option maxRecDepth 100000 in
theorem walkFnExactMoveTime (x y z a b : Sl) (ls lo hi fs ts : List Int) (t r : Int) (w : World) (hx : IntsAt w x.a x.len ls) (hy : IntsAt w y.a y.len lo) (hz : IntsAt w z.a z.len hi) (ha : IntsAt w a.a a.len fs) (hb : IntsAt w b.a b.len ts) (bx : x.len ≤ 9223372036854775807) (b_y : y.len ≤ 9223372036854775807) (bz : z.len ≤ 9223372036854775807) (ba : a.len ≤ 9223372036854775807) (bb : b.len ≤ 9223372036854775807) :
    Calls Try.prog 7 #[av x y z, .slice a.a a.len a.cap, .slice b.a b.len b.cap, .int .i64 t, .int .i64 r] w fun e w' => e = .returned (.bool true) ∧ Below w.heap.size w w' := by
  have HA := Lib.hid (And.intro hx (And.intro hy (And.intro hz (And.intro ha hb))))
  clear hx hy hz ha hb
  obtain ⟨xa, xl, xc⟩ := x
  obtain ⟨ya, yl, yc⟩ := y
  obtain ⟨za, zl, zc⟩ := z
  obtain ⟨aa, al, ac⟩ := a
  obtain ⟨ba', bl, bc⟩ := b
  simp only at *
  have HB := Lib.hid (below_box w (.cells #[.slice xa xl xc, .slice ya yl yc, .slice za zl zc] 44))
  have P := AtA.box w (.slice xa xl xc) (.slice ya yl yc) (.slice za zl zc) 44
  by_cases la : al ≤ 1048576
  rotate_left
  · clear P HA
    go_enter Try.func7, Try.ntmps7
    go_wp2
    go_ret
    exact ⟨rfl, HB.out⟩
  by_cases lb : bl ≤ 1048576
  rotate_left
  · clear P HA
    go_enter Try.func7, Try.ntmps7
    go_wp2
    go_ret
    exact ⟨rfl, HB.out⟩
  have e0 : (moveT ls lo hi fs ts t r != moveT ls lo hi fs ts t r) = false := by simp
  generalize hmv : moveT ls lo hi fs ts t r = mv at e0
  have HMV := Lib.hid hmv
  clear hmv
  go_enter Try.func7, Try.ntmps7
  go_wp2_with fail
  refine (szArm ⟨xa, xl, xc⟩ ⟨ya, yl, yc⟩ ⟨za, zl, zc⟩ 1048576 _ (by omega) (by omega) bx b_y bz).mono ?_
  rintro e w1 ⟨rr, rfl, hr, B1⟩
  replace P := P.next B1
  replace HB := Lib.hid (below_call HB.out B1)
  clear B1
  rcases hr with rfl | ⟨r0, r1⟩
  · go_wp2
    go_ret
    exact ⟨rfl, HB.out⟩
  · have lx : xl ≤ 1048576 := by simp only at r1; omega
    have ly : yl ≤ 1048576 := by simp only at r1; omega
    have lz : zl ≤ 1048576 := by simp only at r1; omega
    clear r1
    obtain ⟨_, p1, p2, p3, _, _, _⟩ := id P
    go_wp2_with fail
    refine (toArm ⟨xa, xl, xc⟩ ⟨ya, yl, yc⟩ ⟨za, zl, zc⟩ ls lo hi _ (HA.out.1.next HB.out) (HA.out.2.1.next HB.out) (HA.out.2.2.1.next HB.out) lx ly lz).mono ?_
    rintro e w2 ⟨x2, y2, z2, rfl, q1, q2, q3, N2, B2⟩
    obtain ⟨xa2, xl2, xc2⟩ := x2
    obtain ⟨ya2, yl2, yc2⟩ := y2
    obtain ⟨za2, zl2, zc2⟩ := z2
    simp only at q1 q2 q3
    replace q1 := q1.symm
    replace q2 := q2.symm
    replace q3 := q3.symm
    subst q1 q2 q3
    replace P := P.next B2
    replace HB := Lib.hid (below_call HB.out B2)
    obtain ⟨I1, I2, I3⟩ := N2.ints
    clear p1 p2 p3 N2 B2
    go_wp2_with fail
    refine (toIntS aa al ac fs _ (HA.out.2.2.2.1.next HB.out) la).mono ?_
    rintro e w3 ⟨rfl, O3, B3⟩
    replace P := P.next B3
    replace I1 := I1.next B3
    replace I2 := I2.next B3
    replace I3 := I3.next B3
    replace HB := Lib.hid (below_call HB.out B3)
    have I4 := O3.ints
    clear O3 B3
    go_wp2_with fail
    refine (toIntS ba' bl bc ts _ (HA.out.2.2.2.2.next HB.out) lb).mono ?_
    rintro e w4 ⟨rfl, O4, B4⟩
    replace P := P.next B4
    replace I1 := I1.next B4
    replace I2 := I2.next B4
    replace I3 := I3.next B4
    replace I4 := I4.next B4
    replace HB := Lib.hid (below_call HB.out B4)
    have I5 := O4.ints
    clear O4 B4
    go_wp2_with fail
    refine (specMoveTime ⟨xa2, xl, xc2⟩ ⟨ya2, yl, yc2⟩ ⟨za2, zl, zc2⟩ ⟨some ⟨w2.heap.size, 0, none⟩, al, al⟩ ⟨some ⟨w3.heap.size, 0, none⟩, bl, bl⟩ ls lo hi fs ts t r _ I1 I2 I3 I4 I5 bx b_y bz ba bb).mono ?_
    rintro e wB ⟨rfl, B9⟩
    rw [HMV.out]
    replace P := P.next B9
    replace HB := Lib.hid (below_call HB.out B9)
    clear I1 I2 I3 I4 I5 B9
    obtain ⟨_, p1, p2, p3, _, _, _⟩ := id P
    go_wp2_with fail
    refine (toArm ⟨xa, xl, xc⟩ ⟨ya, yl, yc⟩ ⟨za, zl, zc⟩ ls lo hi _ (HA.out.1.next HB.out) (HA.out.2.1.next HB.out) (HA.out.2.2.1.next HB.out) lx ly lz).mono ?_
    rintro e w5 ⟨x5, y5, z5, rfl, q1, q2, q3, N5, B5⟩
    obtain ⟨xa5, xl5, xc5⟩ := x5
    obtain ⟨ya5, yl5, yc5⟩ := y5
    obtain ⟨za5, zl5, zc5⟩ := z5
    simp only at q1 q2 q3
    replace q1 := q1.symm
    replace q2 := q2.symm
    replace q3 := q3.symm
    subst q1 q2 q3
    have X := AtA.box w5 (.slice xa5 xl xc5) (.slice ya5 yl yc5) (.slice za5 zl zc5) 25
    have Bx := below_box w5 (.cells #[.slice xa5 xl xc5, .slice ya5 yl yc5, .slice za5 zl zc5] 25)
    replace N5 := N5.next Bx
    have HK := Lib.hid (below_call B5 Bx)
    have PB := Lib.hid P
    clear p1 p2 p3 B5 Bx P
    go_upto_region 11 with fail
    generalize w5.alloc (.cells #[.slice xa5 xl xc5, .slice ya5 yl yc5, .slice za5 zl zc5] 25) = w6 at *
    go_wp2_with fail
    refine (toIntS aa al ac fs _ (HA.out.2.2.2.1.next (below_call HB.out HK.out)) la).mono ?_
    rintro e w7 ⟨rfl, O7, B7⟩
    replace X := X.next B7
    have HN := Lib.hid (And.intro (show NewArm w6 wB.heap.size _ _ _ ls lo hi from N5) HK.out.size)
    replace N5 := N5.next B7
    replace HK := Lib.hid (below_call HK.out B7)
    clear B7
    go_wp2_with fail
    refine (toIntS ba' bl bc ts _ (HA.out.2.2.2.2.next (below_call HB.out HK.out)) lb).mono ?_
    rintro e w8 ⟨rfl, O8, B8⟩
    replace X := X.next B8
    replace N5 := N5.next B8
    replace O7 := O7.next B8
    replace HK := Lib.hid (below_call HK.out B8)
    clear B8
    obtain ⟨x0, x1, x2, x3, _, _, _⟩ := id X
    obtain ⟨I1, I2, I3⟩ := N5.ints
    go_wp2_with fail
    refine (implMoveTime ⟨xa5, xl, xc5⟩ ⟨ya5, yl, yc5⟩ ⟨za5, zl, zc5⟩ ⟨some ⟨w6.heap.size, 0, none⟩, al, al⟩ ⟨some ⟨w7.heap.size, 0, none⟩, bl, bl⟩ ls lo hi fs ts t r _ I1 I2 I3 O7.ints O8.ints bx b_y bz ba bb).mono ?_
    rintro e w9 ⟨rfl, B9⟩
    rw [HMV.out]
    replace X := X.next B9
    replace N5 := N5.next B9
    replace O7 := O7.next B9
    replace O8 := O8.next B9
    replace HK := Lib.hid (below_call HK.out B9)
    obtain ⟨I1, I2, I3⟩ := N5.ints
    clear B9 x0 x1 x2 x3
    have P := PB.out.next HK.out
    have g0 : Below w9.heap.size w9 w9 := Below.refl _ _
    go_wp2
    go_region_held3 (fun u => u.cell? ⟨w5.heap.size, 0, none⟩ = some (.slice xa5 xl xc5) ∧ u.cell? ⟨w5.heap.size, 1, none⟩ = some (.slice ya5 yl yc5) ∧ u.cell? ⟨w5.heap.size, 2, none⟩ = some (.slice za5 zl zc5) ∧ u.cell? ⟨w.heap.size, 0, none⟩ = some (.slice xa xl xc) ∧ u.cell? ⟨w.heap.size, 1, none⟩ = some (.slice ya yl yc) ∧ u.cell? ⟨w.heap.size, 2, none⟩ = some (.slice za zl zc)) (exact keepA (by repeat (first | (with_reducible assumption) | (with_reducible apply Below.drew))) X P) (first
      | (go_at_call 25
         refine (toArmR ⟨xa, xl, xc⟩ ⟨ya, yl, yc⟩ ⟨za, zl, zc⟩ ls lo hi w9 _ (by repeat (first | (with_reducible assumption) | (with_reducible apply Below.drew))) (HA.out.1.next (below_call HB.out HK.out)) (HA.out.2.1.next (below_call HB.out HK.out)) (HA.out.2.2.1.next (below_call HB.out HK.out)) lx ly lz).mono ?_
         rintro e wc ⟨xc7, yc7, zc7, rfl, J1, J2, J3, K7⟩)
      | (go_at_call 28
         refine (eqArmR ⟨xa5, xl, xc5⟩ ⟨ya5, yl, yc5⟩ ⟨za5, zl, zc5⟩ xc7 yc7 zc7 ls lo hi w9 _ (by repeat (first | (with_reducible assumption) | (with_reducible apply Below.drew))) (I1.next K7) (I2.next K7) (I3.next K7) J1 J2 J3 bx b_y bz).mono ?_
         rintro e wd ⟨rfl, Kd⟩))
    replace HK := Lib.hid (below_call HK.out Kd)
    replace O7 := O7.next Kd
    replace O8 := O8.next Kd
    clear Kd g0 P I1 I2 I3 K7 J1 J2 J3 X N5
    go_wp2_with fail
    refine (toIntS aa al ac fs _ (HA.out.2.2.2.1.next (below_call HB.out HK.out)) la).mono ?_
    rintro e we ⟨rfl, Oe, Be⟩
    replace O7 := O7.next Be
    replace O8 := O8.next Be
    replace HK := Lib.hid (below_call HK.out Be)
    clear Be
    go_wp2_with fail
    refine (eqIntS _ _ al al al al fs _ O7.ints Oe.ints ba).mono ?_
    rintro e wf ⟨rfl, Bf⟩
    replace O7 := O7.next Bf
    replace O8 := O8.next Bf
    replace HK := Lib.hid (below_call HK.out Bf)
    clear Bf Oe
    go_wp2_with fail
    refine (toIntS ba' bl bc ts _ (HA.out.2.2.2.2.next (below_call HB.out HK.out)) lb).mono ?_
    rintro e wg ⟨rfl, Og, Bg⟩
    replace O7 := O7.next Bg
    replace O8 := O8.next Bg
    replace HK := Lib.hid (below_call HK.out Bg)
    clear Bg
    go_wp2_with fail
    refine (eqIntS _ _ bl bl bl bl ts _ O8.ints Og.ints bb).mono ?_
    rintro e wh ⟨rfl, Bh⟩
    replace O7 := O7.next Bh
    replace O8 := O8.next Bh
    replace HK := Lib.hid (below_call HK.out Bh)
    clear Bh Og
    go_wp2
    go_ret
    exact ⟨rfl, below_call HB.out HK.out⟩
end Go.Proofs.Ytcoaahfnbgkofaa
