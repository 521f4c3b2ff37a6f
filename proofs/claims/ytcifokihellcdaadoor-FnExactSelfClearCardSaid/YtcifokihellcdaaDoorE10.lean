/- The walks of the exact laws on collisions: they return true at every argument. -/
import Derived.Test.YtcifokihellcdaaDoorZb10f
import Derived.Test.YtcifokihellcdaaDoorZbChn
import Derived.Deep.RegionHeld3
namespace Go.Proofs.YtcifokihellcdaaDoor
set_option maxRecDepth 100000
open Go.RowKit
attribute [local go_sem ↓] Go.wp_at_zero Go.wp_at_succ
set_option maxHeartbeats 8000000 in
theorem walkFnExactArmClear (x y z : Sl) (ls lo hi : List Int) (j : Sl) (js : List Int) (s : Sl) (pss : List (List P2)) (w : World) (ht : TabAt w) (hx : IntsAt w x.a x.len ls) (hy : IntsAt w y.a y.len lo) (hz : IntsAt w z.a z.len hi) (bx : x.len ≤ 9223372036854775807) (b_y : y.len ≤ 9223372036854775807) (bz : z.len ≤ 9223372036854775807) (hj : IntsAt w j.a j.len js) (bj : j.len ≤ 9223372036854775807) (hs : PssIn w s.a s.len pss) (bs : s.len ≤ 9223372036854775807) :
    Calls Tryd.prog 6 #[av x y z, .slice j.a j.len j.cap, .slice s.a s.len s.cap] w fun e w' => e = .returned (.bool true) ∧ Below w.heap.size w w' := by
  have HA := Lib.hid (And.intro hx (And.intro hy (And.intro hz (And.intro hj hs))))
  have HT := Lib.hid ht
  have HZs := Lib.hid (fun (left : Int) (h0 : 0 ≤ left) (h1 : left ≤ 1048576) => szPointSS s.a s.len s.cap left pss hs h0 h1 bs)
  clear ht hx hy hz hj hs
  obtain ⟨xa, xl, xc⟩ := x
  obtain ⟨ya, yl, yc⟩ := y
  obtain ⟨za, zl, zc⟩ := z
  obtain ⟨ja, jl, jc⟩ := j
  obtain ⟨sa, sl, sc⟩ := s
  simp only at *
  obtain ⟨rv, hrv⟩ : ∃ rv, decide (armV ls lo hi js pss) = rv := ⟨_, rfl⟩
  have e0 : (rv != rv) = false := by simp
  have HRV := Lib.hid hrv
  clear hrv
  have HB := Lib.hid (below_box w (.cells #[.slice xa xl xc, .slice ya yl yc, .slice za zl zc] 44))
  have P := AtA.box w (.slice xa xl xc) (.slice ya yl yc) (.slice za zl zc) 44
  by_cases lj : jl ≤ 1048576
  rotate_left
  · clear P HA
    go_enter Tryd.func6, Tryd.ntmps6
    go_wp2
    go_ret
    exact ⟨rfl, HB.out⟩
  go_enter Tryd.func6, Tryd.ntmps6
  go_wp2_with fail
  refine (szArm ⟨xa, xl, xc⟩ ⟨ya, yl, yc⟩ ⟨za, zl, zc⟩ 1048576 _ (by omega) (by omega) bx b_y bz).mono ?_
  rintro e w1 ⟨rr, rfl, hr, B1⟩
  replace P := P.next B1
  replace HB := Lib.hid (below_call HB.out B1)
  clear B1
  rcases hr with rfl | ⟨r0, r1⟩
  · go_wp2
    go_ret
    exact ⟨rfl, HB.out⟩
  have lx : xl ≤ 1048576 := by simp only at r1; omega
  have ly : yl ≤ 1048576 := by simp only at r1; omega
  have lz : zl ≤ 1048576 := by simp only at r1; omega
  have rr1 : rr ≤ 1048576 := by simp only at r1; omega
  have n0 : ¬ (rr < 0) := by omega
  clear r1
  obtain ⟨xs, hxs, HSs⟩ := HZs.out rr (by omega) (by omega)
  replace HSs := Lib.hid HSs
  have HXs := Lib.hid hxs
  have qs : xs = -1 ∨ (0 ≤ xs ∧ xs ≤ 1048576) := by rcases HXs.out with h | ⟨h1, h2, _, _⟩ <;> omega
  clear hxs HZs
  go_wp2_with fail
  refine (HSs.out _ HB.out).mono ?_
  rintro e w' ⟨rfl, rfl⟩
  clear HSs
  rcases qs with rfl | ⟨qas, qbs⟩
  · go_wp2
    go_ret
    exact ⟨rfl, HB.out⟩
  have HRs := Lib.hid (show sl ≤ 1048576 ∧ ∀ i, i < sl → (pss.getD i []).length ≤ 1048576 from by
    rcases HXs.out with h | ⟨_, _, h2, h3⟩
    · omega
    · exact ⟨by omega, fun i hi => by have := h3 i hi; omega⟩)
  have ns : ¬ (xs < 0) := by omega
  clear HXs
  obtain ⟨_, p1, p2, p3, _, _, _⟩ := id P
  go_wp2_with fail
  refine (toArm ⟨xa, xl, xc⟩ ⟨ya, yl, yc⟩ ⟨za, zl, zc⟩ ls lo hi _ (HA.out.1.next HB.out) (HA.out.2.1.next HB.out) (HA.out.2.2.1.next HB.out) lx ly lz).mono ?_
  rintro e w2 ⟨x2, y2, z2, rfl, q1, q2, q3, N2, B2⟩
  obtain ⟨xa2, xl2, xc2⟩ := x2
  obtain ⟨ya2, yl2, yc2⟩ := y2
  obtain ⟨za2, zl2, zc2⟩ := z2
  simp only at q1 q2 q3
  replace q1 := q1.symm
  replace q2 := q2.symm
  replace q3 := q3.symm
  subst q1 q2 q3
  replace P := P.next B2
  replace HB := Lib.hid (below_call HB.out B2)
  obtain ⟨I1, I2, I3⟩ := N2.ints
  clear p1 p2 p3 N2 B2
  go_wp2_with fail
  refine (toIntS ja jl jc js _ (HA.out.2.2.2.1.next HB.out) lj).mono ?_
  rintro e w3j ⟨rfl, Oj, Bj⟩
  replace P := P.next Bj
  replace HB := Lib.hid (below_call HB.out Bj)
  replace I1 := I1.next Bj
  replace I2 := I2.next Bj
  replace I3 := I3.next Bj
  clear Bj
  go_wp2_with fail
  refine (toPointSS sa sl sc pss _ (HA.out.2.2.2.2.next HB.out) HRs.out.1 HRs.out.2).mono ?_
  rintro e w3s ⟨rfl, Os, Bs⟩
  replace P := P.next Bs
  replace HB := Lib.hid (below_call HB.out Bs)
  replace I1 := I1.next Bs
  replace I2 := I2.next Bs
  replace I3 := I3.next Bs
  replace Oj := Oj.next Bs
  clear Bs
  go_wp2_with fail
  refine (specArmClear ⟨xa2, xl, xc2⟩ ⟨ya2, yl, yc2⟩ ⟨za2, zl, zc2⟩ ⟨some ⟨w2.heap.size, 0, none⟩, jl, jl⟩ ⟨some ⟨w3j.heap.size, 0, none⟩, sl, sl⟩ ls lo hi js pss _ I1 I2 I3 Oj.ints Os.pss bx b_y bz bj bs).mono ?_
  rw [HRV.out]
  rintro e wB ⟨rfl, B9⟩
  replace P := P.next B9
  replace HB := Lib.hid (below_call HB.out B9)
  clear B9 I1 I2 I3 Oj Os
  obtain ⟨_, p1, p2, p3, _, _, _⟩ := id P
  go_wp2_with fail
  refine (toArm ⟨xa, xl, xc⟩ ⟨ya, yl, yc⟩ ⟨za, zl, zc⟩ ls lo hi _ (HA.out.1.next HB.out) (HA.out.2.1.next HB.out) (HA.out.2.2.1.next HB.out) lx ly lz).mono ?_
  rintro e w5 ⟨x5, y5, z5, rfl, q1, q2, q3, N5, B5⟩
  obtain ⟨xa5, xl5, xc5⟩ := x5
  obtain ⟨ya5, yl5, yc5⟩ := y5
  obtain ⟨za5, zl5, zc5⟩ := z5
  simp only at q1 q2 q3
  replace q1 := q1.symm
  replace q2 := q2.symm
  replace q3 := q3.symm
  subst q1 q2 q3
  have X := AtA.box w5 (.slice xa5 xl xc5) (.slice ya5 yl yc5) (.slice za5 zl zc5) 25
  have Bx := below_box w5 (.cells #[.slice xa5 xl xc5, .slice ya5 yl yc5, .slice za5 zl zc5] 25)
  replace N5 := N5.next Bx
  have HK := Lib.hid (below_call B5 Bx)
  have PB := Lib.hid P
  clear p1 p2 p3 B5 Bx P
  go_upto_region 12 with fail
  generalize w5.alloc (.cells #[.slice xa5 xl xc5, .slice ya5 yl yc5, .slice za5 zl zc5] 25) = w6 at *
  go_wp2_with fail
  refine (toIntS ja jl jc js _ (HA.out.2.2.2.1.next (below_call HB.out HK.out)) lj).mono ?_
  rintro e w7j ⟨rfl, Oj2, Bj⟩
  replace X := X.next Bj
  replace N5 := N5.next Bj
  replace HK := Lib.hid (below_call HK.out Bj)
  clear Bj
  go_wp2_with fail
  refine (toPointSS sa sl sc pss _ (HA.out.2.2.2.2.next (below_call HB.out HK.out)) HRs.out.1 HRs.out.2).mono ?_
  rintro e w7s ⟨rfl, Os2, Bs⟩
  replace X := X.next Bs
  replace N5 := N5.next Bs
  replace Oj2 := Oj2.next Bs
  replace HK := Lib.hid (below_call HK.out Bs)
  clear Bs
  obtain ⟨x0, x1, x2, x3, _, _, _⟩ := id X
  obtain ⟨I1, I2, I3⟩ := N5.ints
  go_wp2_with fail
  refine (implArmClear ⟨xa5, xl, xc5⟩ ⟨ya5, yl, yc5⟩ ⟨za5, zl, zc5⟩ ⟨some ⟨w6.heap.size, 0, none⟩, jl, jl⟩ ⟨some ⟨w7j.heap.size, 0, none⟩, sl, sl⟩ ls lo hi js pss _ (HT.out.below (below_call HB.out HK.out) HT.out.lt) I1 I2 I3 Oj2.ints Os2.pss bx b_y bz bj bs).mono ?_
  rw [HRV.out]
  rintro e w9 ⟨rfl, B9⟩
  replace X := X.next B9
  replace N5 := N5.next B9
  replace Oj2 := Oj2.next B9
  replace Os2 := Os2.next B9
  replace HK := Lib.hid (below_call HK.out B9)
  obtain ⟨I1, I2, I3⟩ := N5.ints
  clear B9 x0 x1 x2 x3
  have P := PB.out.next HK.out
  have g0 : Below w9.heap.size w9 w9 := Below.refl _ _
  go_wp2
  go_region_held3 (fun u => u.cell? ⟨w5.heap.size, 0, none⟩ = some (.slice xa5 xl xc5) ∧ u.cell? ⟨w5.heap.size, 1, none⟩ = some (.slice ya5 yl yc5) ∧ u.cell? ⟨w5.heap.size, 2, none⟩ = some (.slice za5 zl zc5) ∧ u.cell? ⟨w.heap.size, 0, none⟩ = some (.slice xa xl xc) ∧ u.cell? ⟨w.heap.size, 1, none⟩ = some (.slice ya yl yc) ∧ u.cell? ⟨w.heap.size, 2, none⟩ = some (.slice za zl zc)) (exact keepA (by repeat (first | (with_reducible assumption) | (with_reducible apply Below.drew))) X P) (first
    | (go_at_call 25
       refine (toArmR ⟨xa, xl, xc⟩ ⟨ya, yl, yc⟩ ⟨za, zl, zc⟩ ls lo hi w9 _ (by repeat (first | (with_reducible assumption) | (with_reducible apply Below.drew))) (HA.out.1.next (below_call HB.out HK.out)) (HA.out.2.1.next (below_call HB.out HK.out)) (HA.out.2.2.1.next (below_call HB.out HK.out)) lx ly lz).mono ?_
       rintro e wc ⟨xc7, yc7, zc7, rfl, J1, J2, J3, K7⟩)
    | (go_at_call 28
       refine (eqArmR ⟨xa5, xl, xc5⟩ ⟨ya5, yl, yc5⟩ ⟨za5, zl, zc5⟩ xc7 yc7 zc7 ls lo hi w9 _ (by repeat (first | (with_reducible assumption) | (with_reducible apply Below.drew))) (I1.next K7) (I2.next K7) (I3.next K7) J1 J2 J3 bx b_y bz).mono ?_
       rintro e wd ⟨rfl, Kd⟩))
  replace HK := Lib.hid (below_call HK.out Kd)
  replace Oj2 := Oj2.next Kd
  replace Os2 := Os2.next Kd
  clear Kd g0 P I1 I2 I3 X N5 K7 J1 J2 J3
  go_wp2_with fail
  refine (toIntS ja jl jc js _ (HA.out.2.2.2.1.next (below_call HB.out HK.out)) lj).mono ?_
  rintro e wej ⟨rfl, Oe, Be⟩
  replace Oj2 := Oj2.next Be
  replace Os2 := Os2.next Be
  replace HK := Lib.hid (below_call HK.out Be)
  clear Be
  go_wp2_with fail
  refine (eqIntS _ _ jl jl jl jl js _ Oj2.ints Oe.ints bj).mono ?_
  rintro e wfj ⟨rfl, Bf⟩
  replace Os2 := Os2.next Bf
  replace HK := Lib.hid (below_call HK.out Bf)
  clear Bf Oj2 Oe
  go_wp2_with fail
  refine (toPointSS sa sl sc pss _ (HA.out.2.2.2.2.next (below_call HB.out HK.out)) HRs.out.1 HRs.out.2).mono ?_
  rintro e wes ⟨rfl, Oe, Be⟩
  replace Os2 := Os2.next Be
  replace HK := Lib.hid (below_call HK.out Be)
  clear Be
  go_wp2_with fail
  refine (eqPointSS _ _ _ _ _ _ pss _ Os2 Oe HRs.out.1 HRs.out.2).mono ?_
  rintro e wfs ⟨rfl, Bf⟩
  replace HK := Lib.hid (below_call HK.out Bf)
  clear Bf Os2 Oe
  go_wp2
  go_ret
  exact ⟨rfl, below_call HB.out HK.out⟩
set_option maxHeartbeats 8000000 in
theorem walkFnExactSelfClear (x y z : Sl) (ls lo hi : List Int) (j : Sl) (js : List Int) (w : World) (ht : TabAt w) (hx : IntsAt w x.a x.len ls) (hy : IntsAt w y.a y.len lo) (hz : IntsAt w z.a z.len hi) (bx : x.len ≤ 9223372036854775807) (b_y : y.len ≤ 9223372036854775807) (bz : z.len ≤ 9223372036854775807) (hj : IntsAt w j.a j.len js) (bj : j.len ≤ 9223372036854775807) :
    Calls Tryd.prog 7 #[av x y z, .slice j.a j.len j.cap] w fun e w' => e = .returned (.bool true) ∧ Below w.heap.size w w' := by
  have HA := Lib.hid (And.intro hx (And.intro hy (And.intro hz (hj))))
  have HT := Lib.hid ht
  clear ht hx hy hz hj
  obtain ⟨xa, xl, xc⟩ := x
  obtain ⟨ya, yl, yc⟩ := y
  obtain ⟨za, zl, zc⟩ := z
  obtain ⟨ja, jl, jc⟩ := j
  simp only at *
  obtain ⟨rv, hrv⟩ : ∃ rv, decide (selV ls lo hi js) = rv := ⟨_, rfl⟩
  have e0 : (rv != rv) = false := by simp
  have HRV := Lib.hid hrv
  clear hrv
  have HB := Lib.hid (below_box w (.cells #[.slice xa xl xc, .slice ya yl yc, .slice za zl zc] 44))
  have P := AtA.box w (.slice xa xl xc) (.slice ya yl yc) (.slice za zl zc) 44
  by_cases lj : jl ≤ 1048576
  rotate_left
  · clear P HA
    go_enter Tryd.func7, Tryd.ntmps7
    go_wp2
    go_ret
    exact ⟨rfl, HB.out⟩
  go_enter Tryd.func7, Tryd.ntmps7
  go_wp2_with fail
  refine (szArm ⟨xa, xl, xc⟩ ⟨ya, yl, yc⟩ ⟨za, zl, zc⟩ 1048576 _ (by omega) (by omega) bx b_y bz).mono ?_
  rintro e w1 ⟨rr, rfl, hr, B1⟩
  replace P := P.next B1
  replace HB := Lib.hid (below_call HB.out B1)
  clear B1
  rcases hr with rfl | ⟨r0, r1⟩
  · go_wp2
    go_ret
    exact ⟨rfl, HB.out⟩
  have lx : xl ≤ 1048576 := by simp only at r1; omega
  have ly : yl ≤ 1048576 := by simp only at r1; omega
  have lz : zl ≤ 1048576 := by simp only at r1; omega
  have rr1 : rr ≤ 1048576 := by simp only at r1; omega
  have n0 : ¬ (rr < 0) := by omega
  clear r1
  obtain ⟨_, p1, p2, p3, _, _, _⟩ := id P
  go_wp2_with fail
  refine (toArm ⟨xa, xl, xc⟩ ⟨ya, yl, yc⟩ ⟨za, zl, zc⟩ ls lo hi _ (HA.out.1.next HB.out) (HA.out.2.1.next HB.out) (HA.out.2.2.1.next HB.out) lx ly lz).mono ?_
  rintro e w2 ⟨x2, y2, z2, rfl, q1, q2, q3, N2, B2⟩
  obtain ⟨xa2, xl2, xc2⟩ := x2
  obtain ⟨ya2, yl2, yc2⟩ := y2
  obtain ⟨za2, zl2, zc2⟩ := z2
  simp only at q1 q2 q3
  replace q1 := q1.symm
  replace q2 := q2.symm
  replace q3 := q3.symm
  subst q1 q2 q3
  replace P := P.next B2
  replace HB := Lib.hid (below_call HB.out B2)
  obtain ⟨I1, I2, I3⟩ := N2.ints
  clear p1 p2 p3 N2 B2
  go_wp2_with fail
  refine (toIntS ja jl jc js _ (HA.out.2.2.2.next HB.out) lj).mono ?_
  rintro e w3j ⟨rfl, Oj, Bj⟩
  replace P := P.next Bj
  replace HB := Lib.hid (below_call HB.out Bj)
  replace I1 := I1.next Bj
  replace I2 := I2.next Bj
  replace I3 := I3.next Bj
  clear Bj
  go_wp2_with fail
  refine (specSelfClear ⟨xa2, xl, xc2⟩ ⟨ya2, yl, yc2⟩ ⟨za2, zl, zc2⟩ ⟨some ⟨w2.heap.size, 0, none⟩, jl, jl⟩ ls lo hi js _ I1 I2 I3 Oj.ints bx b_y bz bj).mono ?_
  rw [HRV.out]
  rintro e wB ⟨rfl, B9⟩
  replace P := P.next B9
  replace HB := Lib.hid (below_call HB.out B9)
  clear B9 I1 I2 I3 Oj
  obtain ⟨_, p1, p2, p3, _, _, _⟩ := id P
  go_wp2_with fail
  refine (toArm ⟨xa, xl, xc⟩ ⟨ya, yl, yc⟩ ⟨za, zl, zc⟩ ls lo hi _ (HA.out.1.next HB.out) (HA.out.2.1.next HB.out) (HA.out.2.2.1.next HB.out) lx ly lz).mono ?_
  rintro e w5 ⟨x5, y5, z5, rfl, q1, q2, q3, N5, B5⟩
  obtain ⟨xa5, xl5, xc5⟩ := x5
  obtain ⟨ya5, yl5, yc5⟩ := y5
  obtain ⟨za5, zl5, zc5⟩ := z5
  simp only at q1 q2 q3
  replace q1 := q1.symm
  replace q2 := q2.symm
  replace q3 := q3.symm
  subst q1 q2 q3
  have X := AtA.box w5 (.slice xa5 xl xc5) (.slice ya5 yl yc5) (.slice za5 zl zc5) 25
  have Bx := below_box w5 (.cells #[.slice xa5 xl xc5, .slice ya5 yl yc5, .slice za5 zl zc5] 25)
  replace N5 := N5.next Bx
  have HK := Lib.hid (below_call B5 Bx)
  have PB := Lib.hid P
  clear p1 p2 p3 B5 Bx P
  go_upto_region 9 with fail
  generalize w5.alloc (.cells #[.slice xa5 xl xc5, .slice ya5 yl yc5, .slice za5 zl zc5] 25) = w6 at *
  go_wp2_with fail
  refine (toIntS ja jl jc js _ (HA.out.2.2.2.next (below_call HB.out HK.out)) lj).mono ?_
  rintro e w7j ⟨rfl, Oj2, Bj⟩
  replace X := X.next Bj
  replace N5 := N5.next Bj
  replace HK := Lib.hid (below_call HK.out Bj)
  clear Bj
  obtain ⟨x0, x1, x2, x3, _, _, _⟩ := id X
  obtain ⟨I1, I2, I3⟩ := N5.ints
  go_wp2_with fail
  refine (implSelfClear ⟨xa5, xl, xc5⟩ ⟨ya5, yl, yc5⟩ ⟨za5, zl, zc5⟩ ⟨some ⟨w6.heap.size, 0, none⟩, jl, jl⟩ ls lo hi js _ (HT.out.below (below_call HB.out HK.out) HT.out.lt) I1 I2 I3 Oj2.ints bx b_y bz bj).mono ?_
  rw [HRV.out]
  rintro e w9 ⟨rfl, B9⟩
  replace X := X.next B9
  replace N5 := N5.next B9
  replace Oj2 := Oj2.next B9
  replace HK := Lib.hid (below_call HK.out B9)
  obtain ⟨I1, I2, I3⟩ := N5.ints
  clear B9 x0 x1 x2 x3
  have P := PB.out.next HK.out
  have g0 : Below w9.heap.size w9 w9 := Below.refl _ _
  go_wp2
  go_region_held3 (fun u => u.cell? ⟨w5.heap.size, 0, none⟩ = some (.slice xa5 xl xc5) ∧ u.cell? ⟨w5.heap.size, 1, none⟩ = some (.slice ya5 yl yc5) ∧ u.cell? ⟨w5.heap.size, 2, none⟩ = some (.slice za5 zl zc5) ∧ u.cell? ⟨w.heap.size, 0, none⟩ = some (.slice xa xl xc) ∧ u.cell? ⟨w.heap.size, 1, none⟩ = some (.slice ya yl yc) ∧ u.cell? ⟨w.heap.size, 2, none⟩ = some (.slice za zl zc)) (exact keepA (by repeat (first | (with_reducible assumption) | (with_reducible apply Below.drew))) X P) (first
    | (go_at_call 25
       refine (toArmR ⟨xa, xl, xc⟩ ⟨ya, yl, yc⟩ ⟨za, zl, zc⟩ ls lo hi w9 _ (by repeat (first | (with_reducible assumption) | (with_reducible apply Below.drew))) (HA.out.1.next (below_call HB.out HK.out)) (HA.out.2.1.next (below_call HB.out HK.out)) (HA.out.2.2.1.next (below_call HB.out HK.out)) lx ly lz).mono ?_
       rintro e wc ⟨xc7, yc7, zc7, rfl, J1, J2, J3, K7⟩)
    | (go_at_call 28
       refine (eqArmR ⟨xa5, xl, xc5⟩ ⟨ya5, yl, yc5⟩ ⟨za5, zl, zc5⟩ xc7 yc7 zc7 ls lo hi w9 _ (by repeat (first | (with_reducible assumption) | (with_reducible apply Below.drew))) (I1.next K7) (I2.next K7) (I3.next K7) J1 J2 J3 bx b_y bz).mono ?_
       rintro e wd ⟨rfl, Kd⟩))
  replace HK := Lib.hid (below_call HK.out Kd)
  replace Oj2 := Oj2.next Kd
  clear Kd g0 P I1 I2 I3 X N5 K7 J1 J2 J3
  go_wp2_with fail
  refine (toIntS ja jl jc js _ (HA.out.2.2.2.next (below_call HB.out HK.out)) lj).mono ?_
  rintro e wej ⟨rfl, Oe, Be⟩
  replace Oj2 := Oj2.next Be
  replace HK := Lib.hid (below_call HK.out Be)
  clear Be
  go_wp2_with fail
  refine (eqIntS _ _ jl jl jl jl js _ Oj2.ints Oe.ints bj).mono ?_
  rintro e wfj ⟨rfl, Bf⟩
  replace HK := Lib.hid (below_call HK.out Bf)
  clear Bf Oj2 Oe
  go_wp2
  go_ret
  exact ⟨rfl, below_call HB.out HK.out⟩
set_option maxHeartbeats 8000000 in
theorem walkFnExactFirstContact (x y z : Sl) (ls lo hi : List Int) (r : Sl) (rows : List (List Int)) (s : Sl) (pss : List (List P2)) (w : World) (ht : TabAt w) (hx : IntsAt w x.a x.len ls) (hy : IntsAt w y.a y.len lo) (hz : IntsAt w z.a z.len hi) (bx : x.len ≤ 9223372036854775807) (b_y : y.len ≤ 9223372036854775807) (bz : z.len ≤ 9223372036854775807) (hr : RowIn10 w r.a r.len rows) (br : r.len ≤ 9223372036854775807) (hs : PssIn w s.a s.len pss) (bs : s.len ≤ 9223372036854775807) :
    Calls Tryd.prog 8 #[av x y z, .slice r.a r.len r.cap, .slice s.a s.len s.cap] w fun e w' => e = .returned (.bool true) ∧ Below w.heap.size w w' := by
  have HA := Lib.hid (And.intro hx (And.intro hy (And.intro hz (And.intro hr hs))))
  have HT := Lib.hid ht
  have HZr := Lib.hid (fun (left : Int) (h0 : 0 ≤ left) (h1 : left ≤ 1048576) => szIntSS r.a r.len r.cap left rows hr h0 h1 br)
  have HZs := Lib.hid (fun (left : Int) (h0 : 0 ≤ left) (h1 : left ≤ 1048576) => szPointSS s.a s.len s.cap left pss hs h0 h1 bs)
  clear ht hx hy hz hr hs
  obtain ⟨xa, xl, xc⟩ := x
  obtain ⟨ya, yl, yc⟩ := y
  obtain ⟨za, zl, zc⟩ := z
  obtain ⟨ra, rl, rc⟩ := r
  obtain ⟨sa, sl, sc⟩ := s
  simp only at *
  obtain ⟨rv, hrv⟩ : ∃ rv, fcV ls lo hi rows pss = rv := ⟨_, rfl⟩
  have e0 : (rv != rv) = false := by simp
  have HRV := Lib.hid hrv
  clear hrv
  have HB := Lib.hid (below_box w (.cells #[.slice xa xl xc, .slice ya yl yc, .slice za zl zc] 44))
  have P := AtA.box w (.slice xa xl xc) (.slice ya yl yc) (.slice za zl zc) 44
  go_enter Tryd.func8, Tryd.ntmps8
  go_wp2_with fail
  refine (szArm ⟨xa, xl, xc⟩ ⟨ya, yl, yc⟩ ⟨za, zl, zc⟩ 1048576 _ (by omega) (by omega) bx b_y bz).mono ?_
  rintro e w1 ⟨rr, rfl, hr, B1⟩
  replace P := P.next B1
  replace HB := Lib.hid (below_call HB.out B1)
  clear B1
  rcases hr with rfl | ⟨r0, r1⟩
  · go_wp2
    go_ret
    exact ⟨rfl, HB.out⟩
  have lx : xl ≤ 1048576 := by simp only at r1; omega
  have ly : yl ≤ 1048576 := by simp only at r1; omega
  have lz : zl ≤ 1048576 := by simp only at r1; omega
  have rr1 : rr ≤ 1048576 := by simp only at r1; omega
  have n0 : ¬ (rr < 0) := by omega
  clear r1
  obtain ⟨xr, hxr, HSr⟩ := HZr.out rr (by omega) (by omega)
  replace HSr := Lib.hid HSr
  have HXr := Lib.hid hxr
  have qr : xr = -1 ∨ (0 ≤ xr ∧ xr ≤ 1048576) := by rcases HXr.out with h | ⟨h1, h2, _, _⟩ <;> omega
  clear hxr HZr
  go_wp2_with fail
  refine (HSr.out _ HB.out).mono ?_
  rintro e w' ⟨rfl, rfl⟩
  clear HSr
  rcases qr with rfl | ⟨qar, qbr⟩
  · go_wp2
    go_ret
    exact ⟨rfl, HB.out⟩
  have HRr := Lib.hid (show rl ≤ 1048576 ∧ ∀ i, i < rl → (rows.getD i []).length ≤ 1048576 from by
    rcases HXr.out with h | ⟨_, _, h2, h3⟩
    · omega
    · exact ⟨by omega, fun i hi => by have := h3 i hi; omega⟩)
  have nr : ¬ (xr < 0) := by omega
  clear HXr
  obtain ⟨xs, hxs, HSs⟩ := HZs.out xr (by omega) (by omega)
  replace HSs := Lib.hid HSs
  have HXs := Lib.hid hxs
  have qs : xs = -1 ∨ (0 ≤ xs ∧ xs ≤ 1048576) := by rcases HXs.out with h | ⟨h1, h2, _, _⟩ <;> omega
  clear hxs HZs
  go_wp2_with fail
  refine (HSs.out _ HB.out).mono ?_
  rintro e w' ⟨rfl, rfl⟩
  clear HSs
  rcases qs with rfl | ⟨qas, qbs⟩
  · go_wp2
    go_ret
    exact ⟨rfl, HB.out⟩
  have HRs := Lib.hid (show sl ≤ 1048576 ∧ ∀ i, i < sl → (pss.getD i []).length ≤ 1048576 from by
    rcases HXs.out with h | ⟨_, _, h2, h3⟩
    · omega
    · exact ⟨by omega, fun i hi => by have := h3 i hi; omega⟩)
  have ns : ¬ (xs < 0) := by omega
  clear HXs
  obtain ⟨_, p1, p2, p3, _, _, _⟩ := id P
  go_wp2_with fail
  refine (toArm ⟨xa, xl, xc⟩ ⟨ya, yl, yc⟩ ⟨za, zl, zc⟩ ls lo hi _ (HA.out.1.next HB.out) (HA.out.2.1.next HB.out) (HA.out.2.2.1.next HB.out) lx ly lz).mono ?_
  rintro e w2 ⟨x2, y2, z2, rfl, q1, q2, q3, N2, B2⟩
  obtain ⟨xa2, xl2, xc2⟩ := x2
  obtain ⟨ya2, yl2, yc2⟩ := y2
  obtain ⟨za2, zl2, zc2⟩ := z2
  simp only at q1 q2 q3
  replace q1 := q1.symm
  replace q2 := q2.symm
  replace q3 := q3.symm
  subst q1 q2 q3
  replace P := P.next B2
  replace HB := Lib.hid (below_call HB.out B2)
  obtain ⟨I1, I2, I3⟩ := N2.ints
  clear p1 p2 p3 N2 B2
  go_wp2_with fail
  refine (toIntSS ra rl rc rows _ (HA.out.2.2.2.1.next HB.out) HRr.out.1 HRr.out.2).mono ?_
  rintro e w3r ⟨rfl, Or, Br⟩
  replace P := P.next Br
  replace HB := Lib.hid (below_call HB.out Br)
  replace I1 := I1.next Br
  replace I2 := I2.next Br
  replace I3 := I3.next Br
  clear Br
  go_wp2_with fail
  refine (toPointSS sa sl sc pss _ (HA.out.2.2.2.2.next HB.out) HRs.out.1 HRs.out.2).mono ?_
  rintro e w3s ⟨rfl, Os, Bs⟩
  replace P := P.next Bs
  replace HB := Lib.hid (below_call HB.out Bs)
  replace I1 := I1.next Bs
  replace I2 := I2.next Bs
  replace I3 := I3.next Bs
  replace Or := Or.next Bs
  clear Bs
  go_wp2_with fail
  refine (specFirstContact ⟨xa2, xl, xc2⟩ ⟨ya2, yl, yc2⟩ ⟨za2, zl, zc2⟩ ⟨some ⟨w2.heap.size, 0, none⟩, rl, rl⟩ ⟨some ⟨w3r.heap.size, 0, none⟩, sl, sl⟩ ls lo hi rows pss _ I1 I2 I3 Or Os.pss bx b_y bz br bs).mono ?_
  rw [HRV.out]
  rintro e wB ⟨rfl, B9⟩
  replace P := P.next B9
  replace HB := Lib.hid (below_call HB.out B9)
  clear B9 I1 I2 I3 Or Os
  obtain ⟨_, p1, p2, p3, _, _, _⟩ := id P
  go_wp2_with fail
  refine (toArm ⟨xa, xl, xc⟩ ⟨ya, yl, yc⟩ ⟨za, zl, zc⟩ ls lo hi _ (HA.out.1.next HB.out) (HA.out.2.1.next HB.out) (HA.out.2.2.1.next HB.out) lx ly lz).mono ?_
  rintro e w5 ⟨x5, y5, z5, rfl, q1, q2, q3, N5, B5⟩
  obtain ⟨xa5, xl5, xc5⟩ := x5
  obtain ⟨ya5, yl5, yc5⟩ := y5
  obtain ⟨za5, zl5, zc5⟩ := z5
  simp only at q1 q2 q3
  replace q1 := q1.symm
  replace q2 := q2.symm
  replace q3 := q3.symm
  subst q1 q2 q3
  have X := AtA.box w5 (.slice xa5 xl xc5) (.slice ya5 yl yc5) (.slice za5 zl zc5) 25
  have Bx := below_box w5 (.cells #[.slice xa5 xl xc5, .slice ya5 yl yc5, .slice za5 zl zc5] 25)
  replace N5 := N5.next Bx
  have HK := Lib.hid (below_call B5 Bx)
  have PB := Lib.hid P
  clear p1 p2 p3 B5 Bx P
  go_upto_region 13 with fail
  generalize w5.alloc (.cells #[.slice xa5 xl xc5, .slice ya5 yl yc5, .slice za5 zl zc5] 25) = w6 at *
  go_wp2_with fail
  refine (toIntSS ra rl rc rows _ (HA.out.2.2.2.1.next (below_call HB.out HK.out)) HRr.out.1 HRr.out.2).mono ?_
  rintro e w7r ⟨rfl, Or2, Br⟩
  replace X := X.next Br
  replace N5 := N5.next Br
  replace HK := Lib.hid (below_call HK.out Br)
  clear Br
  go_wp2_with fail
  refine (toPointSS sa sl sc pss _ (HA.out.2.2.2.2.next (below_call HB.out HK.out)) HRs.out.1 HRs.out.2).mono ?_
  rintro e w7s ⟨rfl, Os2, Bs⟩
  replace X := X.next Bs
  replace N5 := N5.next Bs
  replace Or2 := Or2.next Bs
  replace HK := Lib.hid (below_call HK.out Bs)
  clear Bs
  obtain ⟨x0, x1, x2, x3, _, _, _⟩ := id X
  obtain ⟨I1, I2, I3⟩ := N5.ints
  go_wp2_with fail
  refine (implFirstContact ⟨xa5, xl, xc5⟩ ⟨ya5, yl, yc5⟩ ⟨za5, zl, zc5⟩ ⟨some ⟨w6.heap.size, 0, none⟩, rl, rl⟩ ⟨some ⟨w7r.heap.size, 0, none⟩, sl, sl⟩ ls lo hi rows pss _ (HT.out.below (below_call HB.out HK.out) HT.out.lt) I1 I2 I3 Or2 Os2.pss bx b_y bz br bs).mono ?_
  rw [HRV.out]
  rintro e w9 ⟨rfl, B9⟩
  replace X := X.next B9
  replace N5 := N5.next B9
  replace Or2 := Or2.next B9
  replace Os2 := Os2.next B9
  replace HK := Lib.hid (below_call HK.out B9)
  obtain ⟨I1, I2, I3⟩ := N5.ints
  clear B9 x0 x1 x2 x3
  have P := PB.out.next HK.out
  have g0 : Below w9.heap.size w9 w9 := Below.refl _ _
  go_wp2
  go_region_held3 (fun u => u.cell? ⟨w5.heap.size, 0, none⟩ = some (.slice xa5 xl xc5) ∧ u.cell? ⟨w5.heap.size, 1, none⟩ = some (.slice ya5 yl yc5) ∧ u.cell? ⟨w5.heap.size, 2, none⟩ = some (.slice za5 zl zc5) ∧ u.cell? ⟨w.heap.size, 0, none⟩ = some (.slice xa xl xc) ∧ u.cell? ⟨w.heap.size, 1, none⟩ = some (.slice ya yl yc) ∧ u.cell? ⟨w.heap.size, 2, none⟩ = some (.slice za zl zc)) (exact keepA (by repeat (first | (with_reducible assumption) | (with_reducible apply Below.drew))) X P) (first
    | (go_at_call 25
       refine (toArmR ⟨xa, xl, xc⟩ ⟨ya, yl, yc⟩ ⟨za, zl, zc⟩ ls lo hi w9 _ (by repeat (first | (with_reducible assumption) | (with_reducible apply Below.drew))) (HA.out.1.next (below_call HB.out HK.out)) (HA.out.2.1.next (below_call HB.out HK.out)) (HA.out.2.2.1.next (below_call HB.out HK.out)) lx ly lz).mono ?_
       rintro e wc ⟨xc7, yc7, zc7, rfl, J1, J2, J3, K7⟩)
    | (go_at_call 28
       refine (eqArmR ⟨xa5, xl, xc5⟩ ⟨ya5, yl, yc5⟩ ⟨za5, zl, zc5⟩ xc7 yc7 zc7 ls lo hi w9 _ (by repeat (first | (with_reducible assumption) | (with_reducible apply Below.drew))) (I1.next K7) (I2.next K7) (I3.next K7) J1 J2 J3 bx b_y bz).mono ?_
       rintro e wd ⟨rfl, Kd⟩))
  replace HK := Lib.hid (below_call HK.out Kd)
  replace Or2 := Or2.next Kd
  replace Os2 := Os2.next Kd
  clear Kd g0 P I1 I2 I3 X N5 K7 J1 J2 J3
  go_wp2_with fail
  refine (toIntSS ra rl rc rows _ (HA.out.2.2.2.1.next (below_call HB.out HK.out)) HRr.out.1 HRr.out.2).mono ?_
  rintro e wer ⟨rfl, Oe, Be⟩
  replace Or2 := Or2.next Be
  replace Os2 := Os2.next Be
  replace HK := Lib.hid (below_call HK.out Be)
  clear Be
  go_wp2_with fail
  refine (eqIntSSW _ _ _ _ _ _ rows _ Or2 Oe HRr.out.1 HRr.out.2).mono ?_
  rintro e wfr ⟨rfl, Bf⟩
  replace Os2 := Os2.next Bf
  replace HK := Lib.hid (below_call HK.out Bf)
  clear Bf Or2 Oe
  go_wp2_with fail
  refine (toPointSS sa sl sc pss _ (HA.out.2.2.2.2.next (below_call HB.out HK.out)) HRs.out.1 HRs.out.2).mono ?_
  rintro e wes ⟨rfl, Oe, Be⟩
  replace Os2 := Os2.next Be
  replace HK := Lib.hid (below_call HK.out Be)
  clear Be
  go_wp2_with fail
  refine (eqPointSS _ _ _ _ _ _ pss _ Os2 Oe HRs.out.1 HRs.out.2).mono ?_
  rintro e wfs ⟨rfl, Bf⟩
  replace HK := Lib.hid (below_call HK.out Bf)
  clear Bf Os2 Oe
  go_wp2
  go_ret
  exact ⟨rfl, below_call HB.out HK.out⟩
end Go.Proofs.YtcifokihellcdaaDoor
