/- The walk of the law FnExactArmPoints: it returns true at every argument. -/
import Derived.Test.YtolkihibjabmhaaDoorPRow5
import Derived.Test.YtolkihibjabmhaaDoorChain5
import Derived.Test.YtolkihibjabmhaaDoorOpen3
import Derived.Deep.RegionHeld3
namespace Go.Proofs.YtolkihibjabmhaaDoor
set_option maxRecDepth 100000
open Go.RowKit
attribute [local go_sem ↓] Go.wp_at_zero Go.wp_at_succ
set_option maxHeartbeats 4000000 in
set_option maxRecDepth 100000 in
theorem walkFnExactArmPoints (x y z j : Sl) (ls lo hi js : List Int) (w : World) (ht : TabAt w) (hx : IntsAt w x.a x.len ls) (hy : IntsAt w y.a y.len lo) (hz : IntsAt w z.a z.len hi) (hj : IntsAt w j.a j.len js) (bx : x.len ≤ 9223372036854775807) (b_y : y.len ≤ 9223372036854775807) (bz : z.len ≤ 9223372036854775807) (bj : j.len ≤ 9223372036854775807) :
    Calls Tryd.prog 4 #[av x y z, .slice j.a j.len j.cap] w fun e w' => e = .returned (.bool true) ∧ Below w.heap.size w w' := by
  have HA := Lib.hid (And.intro hx (And.intro hy (And.intro hz hj)))
  clear hx hy hz hj
  obtain ⟨xa, xl, xc⟩ := x
  obtain ⟨ya, yl, yc⟩ := y
  obtain ⟨za, zl, zc⟩ := z
  obtain ⟨ja, jl, jc⟩ := j
  simp only at *
  have HT := Lib.hid ht
  clear ht
  have HB := Lib.hid (below_box w (.cells #[.slice xa xl xc, .slice ya yl yc, .slice za zl zc] 37))
  have P := AtA.box w (.slice xa xl xc) (.slice ya yl yc) (.slice za zl zc) 37
  by_cases lj : jl ≤ 1048576
  · go_enter Tryd.func4, Tryd.ntmps4
    go_wp2_with fail
    refine (szArm ⟨xa, xl, xc⟩ ⟨ya, yl, yc⟩ ⟨za, zl, zc⟩ 1048576 _ (by omega) (by omega) bx b_y bz).mono ?_
    rintro e w1 ⟨r, rfl, hr, B1⟩
    replace P := P.next B1
    replace HB := Lib.hid (below_call HB.out B1)
    clear B1
    rcases hr with rfl | ⟨r0, r1⟩
    · go_wp2
      go_ret
      exact ⟨rfl, HB.out⟩
    · have lx : xl ≤ 1048576 := by simp only at r1; omega
      have ly : yl ≤ 1048576 := by simp only at r1; omega
      have lz : zl ≤ 1048576 := by simp only at r1; omega
      clear r1
      obtain ⟨_, p1, p2, p3, _, _, _⟩ := id P
      go_wp2_with fail
      refine (toArm ⟨xa, xl, xc⟩ ⟨ya, yl, yc⟩ ⟨za, zl, zc⟩ ls lo hi _ (HA.out.1.next HB.out) (HA.out.2.1.next HB.out) (HA.out.2.2.1.next HB.out) lx ly lz).mono ?_
      rintro e w2 ⟨x2, y2, z2, rfl, q1, q2, q3, N2, B2⟩
      obtain ⟨xa2, xl2, xc2⟩ := x2
      obtain ⟨ya2, yl2, yc2⟩ := y2
      obtain ⟨za2, zl2, zc2⟩ := z2
      simp only at q1 q2 q3
      replace q1 := q1.symm
      replace q2 := q2.symm
      replace q3 := q3.symm
      subst q1 q2 q3
      replace P := P.next B2
      replace HB := Lib.hid (below_call HB.out B2)
      obtain ⟨I1, I2, I3⟩ := N2.ints
      clear p1 p2 p3 N2 B2
      go_wp2_with fail
      refine (toIntS ja jl jc js _ (HA.out.2.2.2.next HB.out) lj).mono ?_
      rintro e w3 ⟨rfl, O3, B3⟩
      replace P := P.next B3
      replace HB := Lib.hid (below_call HB.out B3)
      replace I1 := I1.next B3
      replace I2 := I2.next B3
      replace I3 := I3.next B3
      have I4 := O3.ints
      clear O3 B3
      go_wp2_with fail
      refine (specArmPoints ⟨xa2, xl, xc2⟩ ⟨ya2, yl, yc2⟩ ⟨za2, zl, zc2⟩ ⟨some ⟨w2.heap.size, 0, none⟩, jl, jl⟩ ls lo hi js _ I1 I2 I3 I4 bx b_y bz bj).mono ?_
      rintro e wB ⟨s0, rfl, O0, e0, B4⟩
      replace P := P.next B4
      replace HB := Lib.hid (below_call HB.out B4)
      have W0 := Lib.hid O0.ints
      have E0 := Lib.hid e0
      obtain ⟨sa0, sl0, sc0⟩ := s0
      simp only at *
      clear O0 e0
      clear I1 I2 I3 I4 B4
      obtain ⟨_, p1, p2, p3, _, _, _⟩ := id P
      go_wp2_with fail
      refine (toArm ⟨xa, xl, xc⟩ ⟨ya, yl, yc⟩ ⟨za, zl, zc⟩ ls lo hi _ (HA.out.1.next HB.out) (HA.out.2.1.next HB.out) (HA.out.2.2.1.next HB.out) lx ly lz).mono ?_
      rintro e w5 ⟨x5, y5, z5, rfl, q1, q2, q3, N5, B5⟩
      obtain ⟨xa5, xl5, xc5⟩ := x5
      obtain ⟨ya5, yl5, yc5⟩ := y5
      obtain ⟨za5, zl5, zc5⟩ := z5
      simp only at q1 q2 q3
      replace q1 := q1.symm
      replace q2 := q2.symm
      replace q3 := q3.symm
      subst q1 q2 q3
      have X := AtA.box w5 (.slice xa5 xl xc5) (.slice ya5 yl yc5) (.slice za5 zl zc5) 25
      have Bx := below_box w5 (.cells #[.slice xa5 xl xc5, .slice ya5 yl yc5, .slice za5 zl zc5] 25)
      replace N5 := N5.next Bx
      have HK := Lib.hid (below_call B5 Bx)
      have PB := Lib.hid P
      clear p1 p2 p3 B5 Bx P
      go_wp2_with fail
      refine (toIntS ja jl jc js _ (HA.out.2.2.2.next (below_call HB.out HK.out)) lj).mono ?_
      generalize w5.alloc (.cells #[.slice xa5 xl xc5, .slice ya5 yl yc5, .slice za5 zl zc5] 25) = w6 at *
      rintro e w7 ⟨rfl, O7, B7⟩
      replace X := X.next B7
      have HN := Lib.hid (And.intro (show NewArm w6 wB.heap.size _ _ _ ls lo hi from N5) HK.out.size)
      replace N5 := N5.next B7
      replace HK := Lib.hid (below_call HK.out B7)
      clear B7
      obtain ⟨x0, x1, x2, x3, _, _, _⟩ := id X
      obtain ⟨I1, I2, I3⟩ := N5.ints
      go_wp2_with fail
      refine (implArmPoints ⟨xa5, xl, xc5⟩ ⟨ya5, yl, yc5⟩ ⟨za5, zl, zc5⟩ ⟨some ⟨w6.heap.size, 0, none⟩, jl, jl⟩ ls lo hi js _ (HT.out.below (below_call HB.out HK.out) HT.out.lt) I1 I2 I3 O7.ints bx b_y bz bj).mono ?_
      rintro e w8 ⟨s1, rfl, O1, e1, B8⟩
      have GB := Lib.hid (And.intro (show w6.heap.size < w7.heap.size from (World.ownsRow.lt O7 _ rfl).2) (And.intro (fun q hq => (World.ownsRow.lt O1 q hq).1) HN.out.2))
      replace HN := Lib.hid HN.out.1
      obtain ⟨sa1, sl1, sc1⟩ := s1
      simp only at *
      obtain rfl : sl1 = sl0 := by rw [e1, E0.out]
      clear e1
      replace X := X.next B8
      replace N5 := N5.next B8
      replace O7 := O7.next B8
      replace HK := Lib.hid (below_call HK.out B8)
      obtain ⟨I1, I2, I3⟩ := N5.ints
      clear B8 x0 x1 x2 x3
      go_wp2_with fail
      refine (eqPointS sa1 sa0 sl1 sl1 sc1 sc0 (pointsV ls lo hi js) _ O1.ints (W0.out.next HK.out) (by rw [E0.out]; exact Nat.le_trans (pointsV_len ls lo hi js) (by decide))).mono ?_
      rintro e w9 ⟨rfl, B9⟩
      replace X := X.next B9
      replace N5 := N5.next B9
      replace O7 := O7.next B9
      replace O1 := O1.next B9
      replace HK := Lib.hid (below_call HK.out B9)
      obtain ⟨I1, I2, I3⟩ := N5.ints
      clear B9
      have P := PB.out.next HK.out
      have g0 : Below w9.heap.size w9 w9 := Below.refl _ _
      go_wp2
      go_region_held3 (fun u => u.cell? ⟨w5.heap.size, 0, none⟩ = some (.slice xa5 xl xc5) ∧ u.cell? ⟨w5.heap.size, 1, none⟩ = some (.slice ya5 yl yc5) ∧ u.cell? ⟨w5.heap.size, 2, none⟩ = some (.slice za5 zl zc5) ∧ u.cell? ⟨w.heap.size, 0, none⟩ = some (.slice xa xl xc) ∧ u.cell? ⟨w.heap.size, 1, none⟩ = some (.slice ya yl yc) ∧ u.cell? ⟨w.heap.size, 2, none⟩ = some (.slice za zl zc)) (exact keepA (by repeat (first | (with_reducible assumption) | (with_reducible apply Below.drew))) X P) (first
        | (go_at_call 23
           refine (toArmR ⟨xa, xl, xc⟩ ⟨ya, yl, yc⟩ ⟨za, zl, zc⟩ ls lo hi w9 _ (by repeat (first | (with_reducible assumption) | (with_reducible apply Below.drew))) (HA.out.1.next (below_call HB.out HK.out)) (HA.out.2.1.next (below_call HB.out HK.out)) (HA.out.2.2.1.next (below_call HB.out HK.out)) lx ly lz).mono ?_
           rintro e wc ⟨xc7, yc7, zc7, rfl, J1, J2, J3, K7⟩)
        | (go_at_call 26
           refine (eqArmR ⟨xa5, xl, xc5⟩ ⟨ya5, yl, yc5⟩ ⟨za5, zl, zc5⟩ xc7 yc7 zc7 ls lo hi w9 _ (by repeat (first | (with_reducible assumption) | (with_reducible apply Below.drew))) (I1.next K7) (I2.next K7) (I3.next K7) J1 J2 J3 bx b_y bz).mono ?_
           rintro e wd ⟨rfl, Kd⟩))
      replace HK := Lib.hid (below_call HK.out Kd)
      replace O7 := O7.next Kd
      replace O1 := O1.next Kd
      replace X := X.next Kd
      replace N5 := N5.next Kd
      clear Kd g0 P I1 I2 I3 K7 J1 J2 J3
      go_wp2_with fail
      refine (toIntS ja jl jc js _ (HA.out.2.2.2.next (below_call HB.out HK.out)) lj).mono ?_
      rintro e we ⟨rfl, Oe, Be⟩
      replace O7 := O7.next Be
      replace O1 := O1.next Be
      replace X := X.next Be
      replace N5 := N5.next Be
      replace HK := Lib.hid (below_call HK.out Be)
      clear Be
      go_wp2_with fail
      refine (eqIntS _ _ jl jl jl jl js _ O7.ints Oe.ints bj).mono ?_
      rintro e wf ⟨rfl, Bf⟩
      replace HK := Lib.hid (below_call HK.out Bf)
      replace O7 := O7.next Bf
      replace O1 := O1.next Bf
      replace X := X.next Bf
      replace N5 := N5.next Bf
      clear Bf Oe
      obtain ⟨_, x1, x2, x3, _, _, _⟩ := id X
      go_wp2_with fail
      refine (markArm ⟨xa5, xl, xc5⟩ ⟨ya5, yl, yc5⟩ ⟨za5, zl, zc5⟩ wB.heap.size ls lo hi 1 _ N5 (by omega) (by omega) lx ly lz).mono ?_
      rintro e wg ⟨rfl, Bg, Fg⟩
      replace HK := Lib.hid (HK.out.trans Bg)
      have HO7 := Lib.hid (O7.same (fun g hg => Fg g (World.ownsRow.lt O7 g hg).2 (HN.out.apart (by simp [Value.ownBlock] at hg; omega))))
      have HO1 := Lib.hid (O1.same (fun g hg => Fg g (World.ownsRow.lt O1 g hg).2 (HN.out.apart (by have := GB.out.2.1 g hg; have := GB.out.1; omega))))
      clear x1 x2 x3 X N5 O7 O1 Bg Fg HN
      go_wp2_with fail
      refine (markIntS _ jl jl _ js _ _ HO7.out (by omega) (by omega) (by omega)).mono ?_
      rintro e wh ⟨rfl, _, Gh, Sh⟩
      replace HK := Lib.hid (HK.out.grown Gh HK.out.size (fun q hq => by have := GB.out.2.2; simp [Value.ownBlock] at hq; omega))
      have O1 := HO1.out.same (fun g hg => Gh.block g (World.ownsRow.lt HO1.out g hg).2 (by have := GB.out.2.1 g hg; have := GB.out.1; simp [Value.ownBlock]; omega))
      clear HO1 HO7 Gh Sh
      go_wp2_with fail
      refine (eqPointS sa1 sa0 sl1 sl1 sc1 sc0 (pointsV ls lo hi js) _ O1.ints (W0.out.next HK.out) (by rw [E0.out]; exact Nat.le_trans (pointsV_len ls lo hi js) (by decide))).mono ?_
      rintro e wi ⟨rfl, Bi⟩
      replace HK := Lib.hid (below_call HK.out Bi)
      replace O1 := O1.next Bi
      have hl4 : sl1 ≤ 5 := by rw [E0.out]; exact Nat.le_trans (pointsV_len ls lo hi js) (by decide)
      clear Bi
      go_wp2_with fail
      refine (markPointS sa1 sl1 sc1 _ (pointsV ls lo hi js) 1 _ O1 (by omega) (by omega) (by omega)).mono ?_
      rintro e wj ⟨rfl, Oj, Gj, Sj⟩
      replace HK := Lib.hid (HK.out.grown Gj HK.out.size (fun q hq => by have := GB.out.2.1 q hq; have := GB.out.1; have := GB.out.2.2; omega))
      have e2 : ((1 + 2 * (sl1 : Int)) != (1 + 2 * (sl1 : Int))) = false := by simp
      clear O1 Gj Sj
      go_wp2_with fail
      refine (heldPointS sa1 sl1 sc1 1 _ Oj.ints (by omega) (by omega) (by omega)).mono ?_
      rintro e w' ⟨rfl, rfl⟩
      have P := PB.out.next HK.out
      obtain ⟨_, p1, p2, p3, _, _, _⟩ := id P
      go_wp2_with fail
      refine (toArm ⟨xa, xl, xc⟩ ⟨ya, yl, yc⟩ ⟨za, zl, zc⟩ ls lo hi _ (HA.out.1.next (below_call HB.out HK.out)) (HA.out.2.1.next (below_call HB.out HK.out)) (HA.out.2.2.1.next (below_call HB.out HK.out)) lx ly lz).mono ?_
      rintro e wk ⟨xk, yk, zk, rfl, q1, q2, q3, Nk, Bk⟩
      obtain ⟨xak, xlk, xck⟩ := xk
      obtain ⟨yak, ylk, yck⟩ := yk
      obtain ⟨zak, zlk, zck⟩ := zk
      simp only at q1 q2 q3
      replace q1 := q1.symm
      replace q2 := q2.symm
      replace q3 := q3.symm
      subst q1 q2 q3
      replace HK := Lib.hid (below_call HK.out Bk)
      replace Oj := Oj.next Bk
      obtain ⟨I1, I2, I3⟩ := Nk.ints
      clear p1 p2 p3 Nk Bk P
      go_wp2_with fail
      refine (toIntS ja jl jc js _ (HA.out.2.2.2.next (below_call HB.out HK.out)) lj).mono ?_
      rintro e wl ⟨rfl, Ol, Bl⟩
      replace HK := Lib.hid (below_call HK.out Bl)
      replace Oj := Oj.next Bl
      replace I1 := I1.next Bl
      replace I2 := I2.next Bl
      replace I3 := I3.next Bl
      clear Bl
      go_wp2_with fail
      refine (implArmPoints ⟨xak, xl, xck⟩ ⟨yak, yl, yck⟩ ⟨zak, zl, zck⟩ ⟨some ⟨wk.heap.size, 0, none⟩, jl, jl⟩ ls lo hi js _ (HT.out.below (below_call HB.out HK.out) HT.out.lt) I1 I2 I3 Ol.ints bx b_y bz bj).mono ?_
      rintro e wm ⟨sm, rfl, Om, em, Bm⟩
      obtain ⟨sam, slm, scm⟩ := sm
      simp only at *
      obtain rfl : sl1 = slm := by rw [em, E0.out]
      replace HK := Lib.hid (below_call HK.out Bm)
      replace Oj := Oj.next Bm
      clear em Bm I1 I2 I3 Ol
      go_wp2_with fail
      refine (eqPointS sam sa0 sl1 sl1 scm sc0 (pointsV ls lo hi js) _ Om.ints (W0.out.next HK.out) (by omega)).mono ?_
      rintro e wn ⟨rfl, Bn⟩
      replace HK := Lib.hid (below_call HK.out Bn)
      replace Oj := Oj.next Bn
      clear Om Bn
      go_wp2_with fail
      refine (heldPointS sa1 sl1 sc1 1 _ Oj.ints (by omega) (by omega) (by omega)).mono ?_
      rintro e w' ⟨rfl, rfl⟩
      go_wp2
      go_ret
      exact ⟨rfl, below_call HB.out HK.out⟩
  · clear P HA
    go_enter Tryd.func4, Tryd.ntmps4
    go_wp2
    go_ret
    exact ⟨rfl, HB.out⟩
end Go.Proofs.YtolkihibjabmhaaDoor
