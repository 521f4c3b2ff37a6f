/- The walk of the law FnExactMoveJoints: it returns true at every argument. -/
import Derived.Test.YtcoaahfnbgkofaaMs6
import Derived.Test.YtcoaahfnbgkofaaMk6
import Derived.Test.YtcoaahfnbgkofaaChain5
import Derived.Test.YtcoaahfnbgkofaaOpen3
import Derived.Deep.RegionHeld3
import Derived.Outline
import Derived.Deep.DeepCutAuto
namespace Go.Proofs.Ytcoaahfnbgkofaa
set_option maxRecDepth 100000
open Go.RowKit
attribute [local go_sem ↓] Go.wp_at_zero Go.wp_at_succ
set_option maxHeartbeats 8000000 in
set_option maxRecDepth 100000 in
theorem walkFnExactMoveJoints (x y z a b : Sl) (ls lo hi fs ts : List Int) (t r : Int) (w : World) (hx : IntsAt w x.a x.len ls) (hy : IntsAt w y.a y.len lo) (hz : IntsAt w z.a z.len hi) (ha : IntsAt w a.a a.len fs) (hb : IntsAt w b.a b.len ts) (bx : x.len ≤ 9223372036854775807) (b_y : y.len ≤ 9223372036854775807) (bz : z.len ≤ 9223372036854775807) (ba : a.len ≤ 9223372036854775807) (bb : b.len ≤ 9223372036854775807) :
    Calls Try.prog 6 #[av x y z, .slice a.a a.len a.cap, .slice b.a b.len b.cap, .int .i64 t, .int .i64 r] w fun e w' => e = .returned (.bool true) ∧ Below w.heap.size w w' := by
  have HA := Lib.hid (And.intro hx (And.intro hy (And.intro hz (And.intro ha hb))))
  clear hx hy hz ha hb
  obtain ⟨xa, xl, xc⟩ := x
  obtain ⟨ya, yl, yc⟩ := y
  obtain ⟨za, zl, zc⟩ := z
  obtain ⟨aa, al, ac⟩ := a
  obtain ⟨ba', bl, bc⟩ := b
  simp only at *
  have HB := Lib.hid (below_box w (.cells #[.slice xa xl xc, .slice ya yl yc, .slice za zl zc] 44))
  have P := AtA.box w (.slice xa xl xc) (.slice ya yl yc) (.slice za zl zc) 44
  by_cases la : al ≤ 1048576
  rotate_left
  · clear P HA
    go_enter Try.func6, Try.ntmps6
    go_wp2
    go_ret
    exact ⟨rfl, HB.out⟩
  by_cases lb : bl ≤ 1048576
  rotate_left
  · clear P HA
    go_enter Try.func6, Try.ntmps6
    go_wp2
    go_ret
    exact ⟨rfl, HB.out⟩
  have HMR := Lib.hid (fun i => Nat.le_trans (moveV_rl ls lo hi fs ts t r i) (show 4 ≤ 1000000 by decide))
  have HML := Lib.hid (moveV_len ls lo hi fs ts t r)
  have HMF := Lib.hid (moveV_flat ls lo hi fs ts t r)
  generalize hmv : moveV ls lo hi fs ts t r = mv at HMR HML HMF
  have HMV := Lib.hid hmv
  clear hmv
  go_enter Try.func6, Try.ntmps6
  go_wp2_with fail
  refine (szArm ⟨xa, xl, xc⟩ ⟨ya, yl, yc⟩ ⟨za, zl, zc⟩ 1048576 _ (by omega) (by omega) bx b_y bz).mono ?_
  rintro e w1 ⟨rr, rfl, hr, B1⟩
  replace P := P.next B1
  replace HB := Lib.hid (below_call HB.out B1)
  clear B1
  rcases hr with rfl | ⟨r0, r1⟩
  · go_wp2
    go_ret
    exact ⟨rfl, HB.out⟩
  · have lx : xl ≤ 1048576 := by simp only at r1; omega
    have ly : yl ≤ 1048576 := by simp only at r1; omega
    have lz : zl ≤ 1048576 := by simp only at r1; omega
    clear r1
    obtain ⟨_, p1, p2, p3, _, _, _⟩ := id P
    go_wp2_with fail
    refine (toArm ⟨xa, xl, xc⟩ ⟨ya, yl, yc⟩ ⟨za, zl, zc⟩ ls lo hi _ (HA.out.1.next HB.out) (HA.out.2.1.next HB.out) (HA.out.2.2.1.next HB.out) lx ly lz).mono ?_
    rintro e w2 ⟨x2, y2, z2, rfl, q1, q2, q3, N2, B2⟩
    obtain ⟨xa2, xl2, xc2⟩ := x2
    obtain ⟨ya2, yl2, yc2⟩ := y2
    obtain ⟨za2, zl2, zc2⟩ := z2
    simp only at q1 q2 q3
    replace q1 := q1.symm
    replace q2 := q2.symm
    replace q3 := q3.symm
    subst q1 q2 q3
    replace P := P.next B2
    replace HB := Lib.hid (below_call HB.out B2)
    obtain ⟨I1, I2, I3⟩ := N2.ints
    clear p1 p2 p3 N2 B2
    go_wp2_with fail
    refine (toIntS aa al ac fs _ (HA.out.2.2.2.1.next HB.out) la).mono ?_
    rintro e w3 ⟨rfl, O3, B3⟩
    replace P := P.next B3
    replace I1 := I1.next B3
    replace I2 := I2.next B3
    replace I3 := I3.next B3
    replace HB := Lib.hid (below_call HB.out B3)
    have I4 := O3.ints
    clear O3 B3
    go_wp2_with fail
    refine (toIntS ba' bl bc ts _ (HA.out.2.2.2.2.next HB.out) lb).mono ?_
    rintro e w4 ⟨rfl, O4, B4⟩
    replace P := P.next B4
    replace I1 := I1.next B4
    replace I2 := I2.next B4
    replace I3 := I3.next B4
    replace I4 := I4.next B4
    replace HB := Lib.hid (below_call HB.out B4)
    have I5 := O4.ints
    clear O4 B4
    go_wp2_with fail
    refine (specMoveJoints ⟨xa2, xl, xc2⟩ ⟨ya2, yl, yc2⟩ ⟨za2, zl, zc2⟩ ⟨some ⟨w2.heap.size, 0, none⟩, al, al⟩ ⟨some ⟨w3.heap.size, 0, none⟩, bl, bl⟩ ls lo hi fs ts t r _ I1 I2 I3 I4 I5 bx b_y bz ba bb).mono ?_
    rintro e wB ⟨⟨sa0, sl0, sc0⟩, rfl, e0, R0, B9⟩
    rw [HMV.out] at e0 R0
    simp only at e0 R0
    have W0 := Lib.hid R0
    have E0 := Lib.hid e0
    clear R0 e0
    replace P := P.next B9
    replace HB := Lib.hid (below_call HB.out B9)
    clear I1 I2 I3 I4 I5 B9
    obtain ⟨_, p1, p2, p3, _, _, _⟩ := id P
    go_wp2_with fail
    refine (toArm ⟨xa, xl, xc⟩ ⟨ya, yl, yc⟩ ⟨za, zl, zc⟩ ls lo hi _ (HA.out.1.next HB.out) (HA.out.2.1.next HB.out) (HA.out.2.2.1.next HB.out) lx ly lz).mono ?_
    rintro e w5 ⟨x5, y5, z5, rfl, q1, q2, q3, N5, B5⟩
    obtain ⟨xa5, xl5, xc5⟩ := x5
    obtain ⟨ya5, yl5, yc5⟩ := y5
    obtain ⟨za5, zl5, zc5⟩ := z5
    simp only at q1 q2 q3
    replace q1 := q1.symm
    replace q2 := q2.symm
    replace q3 := q3.symm
    subst q1 q2 q3
    have X := AtA.box w5 (.slice xa5 xl xc5) (.slice ya5 yl yc5) (.slice za5 zl zc5) 25
    have Bx := below_box w5 (.cells #[.slice xa5 xl xc5, .slice ya5 yl yc5, .slice za5 zl zc5] 25)
    replace N5 := N5.next Bx
    have HK := Lib.hid (below_call B5 Bx)
    have PB := Lib.hid P
    clear p1 p2 p3 B5 Bx P
    go_upto_region 11 with fail
    generalize w5.alloc (.cells #[.slice xa5 xl xc5, .slice ya5 yl yc5, .slice za5 zl zc5] 25) = w6 at *
    go_wp2_with fail
    refine (toIntS aa al ac fs _ (HA.out.2.2.2.1.next (below_call HB.out HK.out)) la).mono ?_
    rintro e w7 ⟨rfl, O7, B7⟩
    have H67 := Lib.hid (show w6.heap.size < w7.heap.size from (World.ownsRow.lt O7 _ rfl).2)
    replace X := X.next B7
    have HN := Lib.hid (And.intro (show NewArm w6 wB.heap.size _ _ _ ls lo hi from N5) HK.out.size)
    replace N5 := N5.next B7
    replace HK := Lib.hid (below_call HK.out B7)
    clear B7
    go_wp2_with fail
    refine (toIntS ba' bl bc ts _ (HA.out.2.2.2.2.next (below_call HB.out HK.out)) lb).mono ?_
    rintro e w8 ⟨rfl, O8, B8⟩
    replace X := X.next B8
    replace N5 := N5.next B8
    replace O7 := O7.next B8
    replace HK := Lib.hid (below_call HK.out B8)
    clear B8
    obtain ⟨x0, x1, x2, x3, _, _, _⟩ := id X
    obtain ⟨I1, I2, I3⟩ := N5.ints
    go_wp2_with fail
    refine (implMoveJoints ⟨xa5, xl, xc5⟩ ⟨ya5, yl, yc5⟩ ⟨za5, zl, zc5⟩ ⟨some ⟨w6.heap.size, 0, none⟩, al, al⟩ ⟨some ⟨w7.heap.size, 0, none⟩, bl, bl⟩ ls lo hi fs ts t r _ I1 I2 I3 O7.ints O8.ints bx b_y bz ba bb).mono ?_
    rintro e w9 ⟨⟨sa1, sl1, sc1⟩, rfl, e1, OG, _, B9⟩
    have GB := Lib.hid (And.intro H67.out (And.intro HN.out.2 (show w7.heap.size < w8.heap.size from (World.ownsRow.lt O8 _ rfl).2)))
    replace HN := Lib.hid HN.out.1
    have E1 := Lib.hid e1
    rw [HMV.out] at e1
    simp only at e1 OG
    obtain rfl : sl1 = sl0 := by rw [e1, E0.out]
    clear e1
    replace X := X.next B9
    replace N5 := N5.next B9
    replace O7 := O7.next B9
    replace O8 := O8.next B9
    replace HK := Lib.hid (below_call HK.out B9)
    clear B9 x0 x1 x2 x3
    have hl4 : sl1 ≤ 360 := by rw [E0.out]; exact HML.out
    have HRD := Lib.hid (fun (u : World) (B : Nat) (o : OwnRows u B (.slice sa1 sl1 sc1) fs.length sl1 (flatC fs ts (profV (mostV fs ts) t r) (mostV fs ts) fs.length)) => (OwnRows.read (s := ⟨sa1, sl1, sc1⟩) o E1.out))
    rw [HMV.out] at HRD
    have HFL : Hid (sl1 * fs.length ≤ 1440 ∧ (1 ≤ sl1 → fs.length ≤ 1000)) := Lib.hid (by rw [E0.out]; exact HMF.out)
    go_wp2_with fail
    refine (eqIntSS sa1 sa0 sl1 sl1 sc1 sc0 mv _ (HRD.out _ _ OG) (W0.out.next HK.out) (by omega) (fun i _ => HMR.out i)).mono ?_
    rintro e w10 ⟨rfl, B10⟩
    replace X := X.next B10
    replace N5 := N5.next B10
    replace O7 := O7.next B10
    replace O8 := O8.next B10
    replace OG := OG.next B10
    replace HK := Lib.hid (below_call HK.out B10)
    obtain ⟨I1, I2, I3⟩ := N5.ints
    clear B10
    have P := PB.out.next HK.out
    have g0 : Below w10.heap.size w10 w10 := Below.refl _ _
    go_wp2
    go_region_held3 (fun u => u.cell? ⟨w5.heap.size, 0, none⟩ = some (.slice xa5 xl xc5) ∧ u.cell? ⟨w5.heap.size, 1, none⟩ = some (.slice ya5 yl yc5) ∧ u.cell? ⟨w5.heap.size, 2, none⟩ = some (.slice za5 zl zc5) ∧ u.cell? ⟨w.heap.size, 0, none⟩ = some (.slice xa xl xc) ∧ u.cell? ⟨w.heap.size, 1, none⟩ = some (.slice ya yl yc) ∧ u.cell? ⟨w.heap.size, 2, none⟩ = some (.slice za zl zc)) (exact keepA (by repeat (first | (with_reducible assumption) | (with_reducible apply Below.drew))) X P) (first
      | (go_at_call 25
         refine (toArmR ⟨xa, xl, xc⟩ ⟨ya, yl, yc⟩ ⟨za, zl, zc⟩ ls lo hi w10 _ (by repeat (first | (with_reducible assumption) | (with_reducible apply Below.drew))) (HA.out.1.next (below_call HB.out HK.out)) (HA.out.2.1.next (below_call HB.out HK.out)) (HA.out.2.2.1.next (below_call HB.out HK.out)) lx ly lz).mono ?_
         rintro e wc ⟨xc7, yc7, zc7, rfl, J1, J2, J3, K7⟩)
      | (go_at_call 28
         refine (eqArmR ⟨xa5, xl, xc5⟩ ⟨ya5, yl, yc5⟩ ⟨za5, zl, zc5⟩ xc7 yc7 zc7 ls lo hi w10 _ (by repeat (first | (with_reducible assumption) | (with_reducible apply Below.drew))) (I1.next K7) (I2.next K7) (I3.next K7) J1 J2 J3 bx b_y bz).mono ?_
         rintro e wd ⟨rfl, Kd⟩))
    replace HK := Lib.hid (below_call HK.out Kd)
    replace O7 := O7.next Kd
    replace O8 := O8.next Kd
    replace X := X.next Kd
    replace N5 := N5.next Kd
    replace OG := OG.next Kd
    clear Kd g0 P I1 I2 I3 K7 J1 J2 J3
    go_wp2_with fail
    refine (toIntS aa al ac fs _ (HA.out.2.2.2.1.next (below_call HB.out HK.out)) la).mono ?_
    rintro e we ⟨rfl, Oe, Be⟩
    replace O7 := O7.next Be
    replace O8 := O8.next Be
    replace X := X.next Be
    replace N5 := N5.next Be
    replace OG := OG.next Be
    replace HK := Lib.hid (below_call HK.out Be)
    clear Be
    go_wp2_with fail
    refine (eqIntS _ _ al al al al fs _ O7.ints Oe.ints ba).mono ?_
    rintro e wf ⟨rfl, Bf⟩
    replace O7 := O7.next Bf
    replace O8 := O8.next Bf
    replace X := X.next Bf
    replace N5 := N5.next Bf
    replace OG := OG.next Bf
    replace HK := Lib.hid (below_call HK.out Bf)
    clear Bf Oe
    go_wp2_with fail
    refine (toIntS ba' bl bc ts _ (HA.out.2.2.2.2.next (below_call HB.out HK.out)) lb).mono ?_
    rintro e wg ⟨rfl, Og, Bg⟩
    replace O7 := O7.next Bg
    replace O8 := O8.next Bg
    replace X := X.next Bg
    replace N5 := N5.next Bg
    replace OG := OG.next Bg
    replace HK := Lib.hid (below_call HK.out Bg)
    clear Bg
    go_wp2_with fail
    refine (eqIntS _ _ bl bl bl bl ts _ O8.ints Og.ints bb).mono ?_
    rintro e wh ⟨rfl, Bh⟩
    replace O7 := O7.next Bh
    replace O8 := O8.next Bh
    replace X := X.next Bh
    replace N5 := N5.next Bh
    replace OG := OG.next Bh
    replace HK := Lib.hid (below_call HK.out Bh)
    clear Bh Og
    obtain ⟨_, x1, x2, x3, _, _, _⟩ := id X
    go_wp2_with fail
    refine (markArm ⟨xa5, xl, xc5⟩ ⟨ya5, yl, yc5⟩ ⟨za5, zl, zc5⟩ wB.heap.size ls lo hi 1 _ N5 (by omega) (by omega) lx ly lz).mono ?_
    rintro e wi ⟨rfl, Bg, Fg⟩
    replace HK := Lib.hid (HK.out.trans Bg)
    have HO7 := Lib.hid (show OwnI wi w6.heap.size _ fs from sameRow O7 (fun g h1 h2 => Fg g h2 (HN.out.apart h1)))
    have HO8 := Lib.hid (show OwnI wi w7.heap.size _ ts from sameRow O8 (fun g h1 h2 => Fg g h2 (HN.out.apart (by have := GB.out.1; omega))))
    have HOG := Lib.hid (OG.same (fun g h1 h2 => Fg g h2 (HN.out.apart (by have := GB.out.1; have := GB.out.2.2; omega))))
    clear x1 x2 x3 X N5 O7 O8 OG Bg Fg HN
    go_wp2_with fail
    refine (markIntS _ al al _ fs _ _ HO7.out (by omega) (by omega) (by omega)).mono ?_
    rintro e wj ⟨rfl, _, Gh, Sh⟩
    replace HK := Lib.hid (HK.out.grown Gh HK.out.size (fun q hq => by have := GB.out.2.1; simp [Value.ownBlock] at hq; omega))
    replace HO8 := Lib.hid (show OwnI wj w7.heap.size _ ts from sameRow HO8.out (fun g h1 h2 => Gh.block g h2 (by have := GB.out.1; simp [Value.ownBlock]; omega)))
    replace HOG := Lib.hid (HOG.out.same (fun g h1 h2 => Gh.block g h2 (by have := GB.out.1; have := GB.out.2.2; simp [Value.ownBlock]; omega)))
    clear HO7 Gh Sh
    go_wp2_with fail
    refine (markIntS _ bl bl _ ts _ _ HO8.out (by omega) (by omega) (by omega)).mono ?_
    rintro e wk ⟨rfl, _, Gh, Sh⟩
    replace HK := Lib.hid (HK.out.grown Gh HK.out.size (fun q hq => by have := GB.out.2.1; have := GB.out.1; simp [Value.ownBlock] at hq; omega))
    have OG := HOG.out.same (fun g h1 h2 => Gh.block g h2 (by have := GB.out.2.2; simp [Value.ownBlock]; omega))
    clear HO8 HOG Gh Sh
    go_wp2_with fail
    refine (eqIntSS sa1 sa0 sl1 sl1 sc1 sc0 mv _ (HRD.out _ _ OG) (W0.out.next HK.out) (by omega) (fun i _ => HMR.out i)).mono ?_
    rintro e wl ⟨rfl, Bl⟩
    replace HK := Lib.hid (below_call HK.out Bl)
    replace OG := OG.next Bl
    clear Bl
    go_wp2_with fail
    refine (markIntSS sa1 sl1 sc1 _ fs.length _ _ OG (by have := HFL.out; omega) (by omega)).mono ?_
    rintro e wm ⟨rfl, OM, row, Gm, hrow⟩
    replace HK := Lib.hid (HK.out.grown Gm HK.out.size (fun q hq => by have := hrow q hq; have := GB.out; omega))
    obtain ⟨NN, hNN⟩ : ∃ NN : Nat, sl1 * fs.length = NN := ⟨_, rfl⟩
    have hN4 : NN ≤ 1440 := by rw [← hNN]; exact HFL.out.1
    have HHD := Lib.hid (fun (u : World) (o : OwnRows u w8.heap.size (.slice sa1 sl1 sc1) fs.length sl1 mk1) => heldIntSS sa1 sl1 sc1 w8.heap.size fs.length u o (by have := HFL.out; omega) (by omega) HFL.out.2)
    rw [hNN] at HHD ⊢
    have HNN := Lib.hid hNN
    have e2 : ((1 + (NN : Int)) != (1 + (NN : Int))) = false := by simp
    have e3 : ¬ (1 + (NN : Int) < 0) := by omega
    clear OG Gm hrow hNN
    go_wp2_with fail
    refine (HHD.out _ OM).mono ?_
    rintro e w' ⟨rfl, rfl⟩
    have P := PB.out.next HK.out
    obtain ⟨_, p1, p2, p3, _, _, _⟩ := id P
    go_wp2_with fail
    refine (toArm ⟨xa, xl, xc⟩ ⟨ya, yl, yc⟩ ⟨za, zl, zc⟩ ls lo hi _ (HA.out.1.next (below_call HB.out HK.out)) (HA.out.2.1.next (below_call HB.out HK.out)) (HA.out.2.2.1.next (below_call HB.out HK.out)) lx ly lz).mono ?_
    rintro e w12 ⟨x12, y12, z12, rfl, q1, q2, q3, N12, B12⟩
    obtain ⟨xa12, xl12, xc12⟩ := x12
    obtain ⟨ya12, yl12, yc12⟩ := y12
    obtain ⟨za12, zl12, zc12⟩ := z12
    simp only at q1 q2 q3
    replace q1 := q1.symm
    replace q2 := q2.symm
    replace q3 := q3.symm
    subst q1 q2 q3
    replace HK := Lib.hid (below_call HK.out B12)
    replace OM := OM.next B12
    obtain ⟨I1, I2, I3⟩ := N12.ints
    clear p1 p2 p3 N12 B12 P
    go_wp2_with fail
    refine (toIntS aa al ac fs _ (HA.out.2.2.2.1.next (below_call HB.out HK.out)) la).mono ?_
    rintro e w13 ⟨rfl, O13, B13⟩
    replace HK := Lib.hid (below_call HK.out B13)
    replace OM := OM.next B13
    replace I1 := I1.next B13
    replace I2 := I2.next B13
    replace I3 := I3.next B13
    have I4 := O13.ints
    clear O13 B13
    go_wp2_with fail
    refine (toIntS ba' bl bc ts _ (HA.out.2.2.2.2.next (below_call HB.out HK.out)) lb).mono ?_
    rintro e w14 ⟨rfl, O14, B14⟩
    replace HK := Lib.hid (below_call HK.out B14)
    replace OM := OM.next B14
    replace I1 := I1.next B14
    replace I2 := I2.next B14
    replace I3 := I3.next B14
    replace I4 := I4.next B14
    have I5 := O14.ints
    clear O14 B14
    go_wp2_with fail
    refine (implMoveJoints ⟨xa12, xl, xc12⟩ ⟨ya12, yl, yc12⟩ ⟨za12, zl, zc12⟩ ⟨some ⟨w12.heap.size, 0, none⟩, al, al⟩ ⟨some ⟨w13.heap.size, 0, none⟩, bl, bl⟩ ls lo hi fs ts t r _ I1 I2 I3 I4 I5 bx b_y bz ba bb).mono ?_
    rintro e w15 ⟨⟨sa2, sl2, sc2⟩, rfl, e15, _, R15, B15⟩
    rw [HMV.out] at e15 R15
    simp only at e15 R15
    obtain rfl : sl1 = sl2 := by rw [e15, E0.out]
    replace HK := Lib.hid (below_call HK.out B15)
    replace OM := OM.next B15
    clear e15 B15 I1 I2 I3 I4 I5
    go_wp2_with fail
    refine (eqIntSS sa2 sa0 sl1 sl1 sc2 sc0 mv _ R15 (W0.out.next HK.out) (by omega) (fun i _ => HMR.out i)).mono ?_
    rintro e w16 ⟨rfl, B16⟩
    replace HK := Lib.hid (below_call HK.out B16)
    replace OM := OM.next B16
    clear B16 R15
    go_wp2_with fail
    refine (HHD.out _ OM).mono ?_
    rintro e w' ⟨rfl, rfl⟩
    go_wp2
    go_ret
    exact ⟨rfl, below_call HB.out HK.out⟩
end Go.Proofs.Ytcoaahfnbgkofaa
