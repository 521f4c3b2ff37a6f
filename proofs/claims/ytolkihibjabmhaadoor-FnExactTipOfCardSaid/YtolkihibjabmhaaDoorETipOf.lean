/- The walk of the law FnExactTipOf: it returns true at every argument. -/
import Derived.Test.YtolkihibjabmhaaDoorPRow5
import Derived.Test.YtolkihibjabmhaaDoorChain5
import Derived.Test.YtolkihibjabmhaaDoorOpen3
import Derived.Deep.RegionHeld3
namespace Go.Proofs.YtolkihibjabmhaaDoor
set_option maxRecDepth 100000
open Go.RowKit
attribute [local go_sem ↓] Go.wp_at_zero Go.wp_at_succ
set_option maxHeartbeats 4000000 in
set_option maxRecDepth 100000 in
theorem walkFnExactTipOf (x y z j : Sl) (ls lo hi js : List Int) (w : World) (ht : TabAt w) (hx : IntsAt w x.a x.len ls) (hy : IntsAt w y.a y.len lo) (hz : IntsAt w z.a z.len hi) (hj : IntsAt w j.a j.len js) (bx : x.len ≤ 9223372036854775807) (b_y : y.len ≤ 9223372036854775807) (bz : z.len ≤ 9223372036854775807) (bj : j.len ≤ 9223372036854775807) :
    Calls Tryd.prog 6 #[av x y z, .slice j.a j.len j.cap] w fun e w' => e = .returned (.bool true) ∧ Below w.heap.size w w' := by
  have HA := Lib.hid (And.intro hx (And.intro hy (And.intro hz hj)))
  clear hx hy hz hj
  obtain ⟨xa, xl, xc⟩ := x
  obtain ⟨ya, yl, yc⟩ := y
  obtain ⟨za, zl, zc⟩ := z
  obtain ⟨ja, jl, jc⟩ := j
  simp only at *
  have HT := Lib.hid ht
  clear ht
  have HB := Lib.hid (below_box w (.cells #[.slice xa xl xc, .slice ya yl yc, .slice za zl zc] 37))
  have P := AtA.box w (.slice xa xl xc) (.slice ya yl yc) (.slice za zl zc) 37
  by_cases lj : jl ≤ 1048576
  · go_enter Tryd.func6, Tryd.ntmps6
    go_wp2_with fail
    refine (szArm ⟨xa, xl, xc⟩ ⟨ya, yl, yc⟩ ⟨za, zl, zc⟩ 1048576 _ (by omega) (by omega) bx b_y bz).mono ?_
    rintro e w1 ⟨r, rfl, hr, B1⟩
    replace P := P.next B1
    replace HB := Lib.hid (below_call HB.out B1)
    clear B1
    rcases hr with rfl | ⟨r0, r1⟩
    · go_wp2
      go_ret
      exact ⟨rfl, HB.out⟩
    · have lx : xl ≤ 1048576 := by simp only at r1; omega
      have ly : yl ≤ 1048576 := by simp only at r1; omega
      have lz : zl ≤ 1048576 := by simp only at r1; omega
      clear r1
      obtain ⟨_, p1, p2, p3, _, _, _⟩ := id P
      go_wp2_with fail
      refine (toArm ⟨xa, xl, xc⟩ ⟨ya, yl, yc⟩ ⟨za, zl, zc⟩ ls lo hi _ (HA.out.1.next HB.out) (HA.out.2.1.next HB.out) (HA.out.2.2.1.next HB.out) lx ly lz).mono ?_
      rintro e w2 ⟨x2, y2, z2, rfl, q1, q2, q3, N2, B2⟩
      obtain ⟨xa2, xl2, xc2⟩ := x2
      obtain ⟨ya2, yl2, yc2⟩ := y2
      obtain ⟨za2, zl2, zc2⟩ := z2
      simp only at q1 q2 q3
      replace q1 := q1.symm
      replace q2 := q2.symm
      replace q3 := q3.symm
      subst q1 q2 q3
      replace P := P.next B2
      replace HB := Lib.hid (below_call HB.out B2)
      obtain ⟨I1, I2, I3⟩ := N2.ints
      clear p1 p2 p3 N2 B2
      go_wp2_with fail
      refine (toIntS ja jl jc js _ (HA.out.2.2.2.next HB.out) lj).mono ?_
      rintro e w3 ⟨rfl, O3, B3⟩
      replace P := P.next B3
      replace HB := Lib.hid (below_call HB.out B3)
      replace I1 := I1.next B3
      replace I2 := I2.next B3
      replace I3 := I3.next B3
      have I4 := O3.ints
      clear O3 B3
      go_wp2_with fail
      refine (specTipOf ⟨xa2, xl, xc2⟩ ⟨ya2, yl, yc2⟩ ⟨za2, zl, zc2⟩ ⟨some ⟨w2.heap.size, 0, none⟩, jl, jl⟩ ls lo hi js _ I1 I2 I3 I4 bx b_y bz bj).mono ?_
      rintro e wA ⟨rfl, B4⟩
      have Q0 := AtP.box wA (tipX ls lo hi js) (tipY ls lo hi js) 35
      have Bq := below_box wA (.cells #[.int .i64 (tipX ls lo hi js), .int .i64 (tipY ls lo hi js)] 35)
      replace P := (P.next B4).next Bq
      replace HB := Lib.hid (below_call (below_call HB.out B4) Bq)
      clear Bq
      clear I1 I2 I3 I4 B4
      obtain ⟨_, p1, p2, p3, _, _, _⟩ := id P
      go_wp2_with fail
      refine (toArm ⟨xa, xl, xc⟩ ⟨ya, yl, yc⟩ ⟨za, zl, zc⟩ ls lo hi _ (HA.out.1.next HB.out) (HA.out.2.1.next HB.out) (HA.out.2.2.1.next HB.out) lx ly lz).mono ?_
      generalize wA.alloc (.cells #[.int .i64 (tipX ls lo hi js), .int .i64 (tipY ls lo hi js)] 35) = wB at *
      rintro e w5 ⟨x5, y5, z5, rfl, q1, q2, q3, N5, B5⟩
      obtain ⟨xa5, xl5, xc5⟩ := x5
      obtain ⟨ya5, yl5, yc5⟩ := y5
      obtain ⟨za5, zl5, zc5⟩ := z5
      simp only at q1 q2 q3
      replace q1 := q1.symm
      replace q2 := q2.symm
      replace q3 := q3.symm
      subst q1 q2 q3
      have X := AtA.box w5 (.slice xa5 xl xc5) (.slice ya5 yl yc5) (.slice za5 zl zc5) 25
      have Bx := below_box w5 (.cells #[.slice xa5 xl xc5, .slice ya5 yl yc5, .slice za5 zl zc5] 25)
      replace N5 := N5.next Bx
      have HK := Lib.hid (below_call B5 Bx)
      have PB := Lib.hid P
      clear p1 p2 p3 B5 Bx P
      go_wp2_with fail
      refine (toIntS ja jl jc js _ (HA.out.2.2.2.next (below_call HB.out HK.out)) lj).mono ?_
      generalize w5.alloc (.cells #[.slice xa5 xl xc5, .slice ya5 yl yc5, .slice za5 zl zc5] 25) = w6 at *
      rintro e w7 ⟨rfl, O7, B7⟩
      replace X := X.next B7
      have HN := Lib.hid (And.intro (show NewArm w6 wB.heap.size _ _ _ ls lo hi from N5) HK.out.size)
      replace N5 := N5.next B7
      replace HK := Lib.hid (below_call HK.out B7)
      clear B7
      obtain ⟨x0, x1, x2, x3, _, _, _⟩ := id X
      obtain ⟨I1, I2, I3⟩ := N5.ints
      go_wp2_with fail
      refine (implTipOf ⟨xa5, xl, xc5⟩ ⟨ya5, yl, yc5⟩ ⟨za5, zl, zc5⟩ ⟨some ⟨w6.heap.size, 0, none⟩, jl, jl⟩ ls lo hi js _ (HT.out.below (below_call HB.out HK.out) HT.out.lt) I1 I2 I3 O7.ints bx b_y bz bj).mono ?_
      rintro e wC ⟨rfl, B8⟩
      have Q1 := AtP.box wC (tipX ls lo hi js) (tipY ls lo hi js) 35
      have Bq := below_box wC (.cells #[.int .i64 (tipX ls lo hi js), .int .i64 (tipY ls lo hi js)] 35)
      replace X := (X.next B8).next Bq
      replace N5 := (N5.next B8).next Bq
      replace O7 := (O7.next B8).next Bq
      replace HK := Lib.hid (below_call (below_call HK.out B8) Bq)
      obtain ⟨_, t0, t1⟩ := id Q1
      obtain ⟨_, t2, t3⟩ := Q0.next HK.out
      clear Bq
      obtain ⟨I1, I2, I3⟩ := N5.ints
      clear B8 x0 x1 x2 x3
      go_wp2_with fail
      refine (eqPoint (tipX ls lo hi js) (tipY ls lo hi js) _).mono ?_
      generalize wC.alloc (.cells #[.int .i64 (tipX ls lo hi js), .int .i64 (tipY ls lo hi js)] 35) = w8 at *
      rintro e w9 ⟨rfl, B9⟩
      replace X := X.next B9
      replace N5 := N5.next B9
      replace O7 := O7.next B9
      replace HK := Lib.hid (below_call HK.out B9)
      obtain ⟨I1, I2, I3⟩ := N5.ints
      clear B9 t0 t1 t2 t3 Q0 Q1
      have P := PB.out.next HK.out
      have g0 : Below w9.heap.size w9 w9 := Below.refl _ _
      go_wp2
      go_region_held3 (fun u => u.cell? ⟨w5.heap.size, 0, none⟩ = some (.slice xa5 xl xc5) ∧ u.cell? ⟨w5.heap.size, 1, none⟩ = some (.slice ya5 yl yc5) ∧ u.cell? ⟨w5.heap.size, 2, none⟩ = some (.slice za5 zl zc5) ∧ u.cell? ⟨w.heap.size, 0, none⟩ = some (.slice xa xl xc) ∧ u.cell? ⟨w.heap.size, 1, none⟩ = some (.slice ya yl yc) ∧ u.cell? ⟨w.heap.size, 2, none⟩ = some (.slice za zl zc)) (exact keepA (by repeat (first | (with_reducible assumption) | (with_reducible apply Below.drew))) X P) (first
        | (go_at_call 23
           refine (toArmR ⟨xa, xl, xc⟩ ⟨ya, yl, yc⟩ ⟨za, zl, zc⟩ ls lo hi w9 _ (by repeat (first | (with_reducible assumption) | (with_reducible apply Below.drew))) (HA.out.1.next (below_call HB.out HK.out)) (HA.out.2.1.next (below_call HB.out HK.out)) (HA.out.2.2.1.next (below_call HB.out HK.out)) lx ly lz).mono ?_
           rintro e wc ⟨xc7, yc7, zc7, rfl, J1, J2, J3, K7⟩)
        | (go_at_call 26
           refine (eqArmR ⟨xa5, xl, xc5⟩ ⟨ya5, yl, yc5⟩ ⟨za5, zl, zc5⟩ xc7 yc7 zc7 ls lo hi w9 _ (by repeat (first | (with_reducible assumption) | (with_reducible apply Below.drew))) (I1.next K7) (I2.next K7) (I3.next K7) J1 J2 J3 bx b_y bz).mono ?_
           rintro e wd ⟨rfl, Kd⟩))
      replace HK := Lib.hid (below_call HK.out Kd)
      replace O7 := O7.next Kd
      clear Kd g0 P I1 I2 I3 X N5 K7 J1 J2 J3
      go_wp2_with fail
      refine (toIntS ja jl jc js _ (HA.out.2.2.2.next (below_call HB.out HK.out)) lj).mono ?_
      rintro e we ⟨rfl, Oe, Be⟩
      replace O7 := O7.next Be
      replace HK := Lib.hid (below_call HK.out Be)
      clear Be
      go_wp2_with fail
      refine (eqIntS _ _ jl jl jl jl js _ O7.ints Oe.ints bj).mono ?_
      rintro e wf ⟨rfl, Bf⟩
      replace HK := Lib.hid (below_call HK.out Bf)
      clear Bf O7 Oe
      go_wp2
      go_ret
      exact ⟨rfl, below_call HB.out HK.out⟩
  · clear P HA
    go_enter Tryd.func6, Tryd.ntmps6
    go_wp2
    go_ret
    exact ⟨rfl, HB.out⟩
end Go.Proofs.YtolkihibjabmhaaDoor
