/- The walk of the law FnExactFollowPoint: it returns true at every argument. -/
import Derived.Test.YtolkihibjabmhaaDoorE4
import Derived.Test.YtolkihibjabmhaaDoorIm10
import Derived.Deep.RegionHeld3
namespace Go.Proofs.YtolkihibjabmhaaDoor
set_option maxRecDepth 100000
open Go.RowKit
attribute [local go_sem ↓] Go.wp_at_zero Go.wp_at_succ
set_option maxHeartbeats 8000000 in
theorem walkFnExactFollowPoint (x y z j : Sl) (ls lo hi js : List Int) (tx ty st : Int) (w : World) (ht : TabAt w) (hx : IntsAt w x.a x.len ls) (hy : IntsAt w y.a y.len lo) (hz : IntsAt w z.a z.len hi) (hj : IntsAt w j.a j.len js) (bx : x.len ≤ 9223372036854775807) (b_y : y.len ≤ 9223372036854775807) (bz : z.len ≤ 9223372036854775807) (bj : j.len ≤ 9223372036854775807) :
    Calls Tryd.prog 12 #[av x y z, .slice j.a j.len j.cap, pt tx ty, .int .i64 st] w fun e w' => e = .returned (.bool true) ∧ Below w.heap.size w w' := by
  have HA := Lib.hid (And.intro hx (And.intro hy (And.intro hz hj)))
  clear hx hy hz hj
  obtain ⟨xa, xl, xc⟩ := x
  obtain ⟨ya, yl, yc⟩ := y
  obtain ⟨za, zl, zc⟩ := z
  obtain ⟨ja, jl, jc⟩ := j
  simp only at *
  have HT := Lib.hid ht
  clear ht
  have HVL := Lib.hid (show (followV ls lo hi js tx ty st).length ≤ 4 from followV_len ls lo hi js tx ty st)
  have HB := Lib.hid (below_box2 w (.cells #[.slice xa xl xc, .slice ya yl yc, .slice za zl zc] 37) (.cells #[.int .i64 tx, .int .i64 ty] 55))
  have P := (AtA.box w (.slice xa xl xc) (.slice ya yl yc) (.slice za zl zc) 37).alloc (.cells #[.int .i64 tx, .int .i64 ty] 55)
  have Q := AtP.box (w.alloc (.cells #[.slice xa xl xc, .slice ya yl yc, .slice za zl zc] 37)) tx ty 55
  rw [show (w.alloc (.cells #[.slice xa xl xc, .slice ya yl yc, .slice za zl zc] 37)).heap.size = w.heap.size + 1 by simp] at Q
  obtain ⟨vv, hvv⟩ : ∃ vv, followV ls lo hi js tx ty st = vv := ⟨_, rfl⟩
  have HVV := Lib.hid hvv
  rw [hvv] at HVL
  clear hvv
  by_cases lj : jl ≤ 1048576
  · go_enter Tryd.func12, Tryd.ntmps12
    go_wp2_with fail
    refine (szArm ⟨xa, xl, xc⟩ ⟨ya, yl, yc⟩ ⟨za, zl, zc⟩ 1048576 _ (by omega) (by omega) bx b_y bz).mono ?_
    rintro e w1 ⟨r, rfl, hr, B1⟩
    replace P := P.next B1
    replace Q := Q.next B1
    replace HB := Lib.hid (below_call HB.out B1)
    clear B1
    rcases hr with rfl | ⟨r0, r1⟩
    · go_wp2
      go_ret
      exact ⟨rfl, HB.out⟩
    · have lx : xl ≤ 1048576 := by simp only at r1; omega
      have ly : yl ≤ 1048576 := by simp only at r1; omega
      have lz : zl ≤ 1048576 := by simp only at r1; omega
      clear r1
      have g0 : Below w1.heap.size w1 w1 := Below.refl _ _
      go_wp2
      go_region_held3 (fun u => u.cell? ⟨w.heap.size, 0, none⟩ = some (.slice xa xl xc) ∧ u.cell? ⟨w.heap.size, 1, none⟩ = some (.slice ya yl yc) ∧ u.cell? ⟨w.heap.size, 2, none⟩ = some (.slice za zl zc) ∧ u.cell? ⟨w.heap.size + 1, 0, none⟩ = some (.int .i64 tx) ∧ u.cell? ⟨w.heap.size + 1, 1, none⟩ = some (.int .i64 ty)) (exact keepE (by repeat (first | (with_reducible assumption) | (with_reducible apply Below.drew))) P Q) (first
        | (go_at_call 23
           refine (toArmR ⟨xa, xl, xc⟩ ⟨ya, yl, yc⟩ ⟨za, zl, zc⟩ ls lo hi w1 _ (by repeat (first | (with_reducible assumption) | (with_reducible apply Below.drew))) (HA.out.1.next HB.out) (HA.out.2.1.next HB.out) (HA.out.2.2.1.next HB.out) lx ly lz).mono ?_
           rintro e w2 ⟨⟨xa2, xl2, xc2⟩, ⟨ya2, yl2, yc2⟩, ⟨za2, zl2, zc2⟩, rfl, J1, J2, J3, K2⟩)
        | (go_at_call 24
           refine (toIntS ja jl jc js _ (HA.out.2.2.2.next (below_call HB.out K2)) lj).mono ?_
           rintro e w3 ⟨rfl, O3, B3⟩
           have K3 := below_call K2 B3
           replace J1 := J1.next B3
           replace J2 := J2.next B3
           replace J3 := J3.next B3
           have J4 := O3.ints)
        | (go_at_call 42
           refine (toPoint tx ty _).mono ?_
           rintro e w4 ⟨rfl, B4⟩
           have K4 := below_call K3 B4
           replace J1 := J1.next B4
           replace J2 := J2.next B4
           replace J3 := J3.next B4
           replace J4 := J4.next B4)
        | (go_at_call 50
           refine (specFollowPoint ⟨xa2, xl2, xc2⟩ ⟨ya2, yl2, yc2⟩ ⟨za2, zl2, zc2⟩ ⟨some ⟨w2.heap.size, 0, none⟩, jl, jl⟩ ls lo hi js tx ty st _ J1 J2 J3 J4 (by have h1 : xl2 = ls.length := J1.1; have h2 : xl = ls.length := HA.out.1.1; show xl2 ≤ _; omega) (by have h1 : yl2 = lo.length := J2.1; have h2 : yl = lo.length := HA.out.2.1.1; show yl2 ≤ _; omega) (by have h1 : zl2 = hi.length := J3.1; have h2 : zl = hi.length := HA.out.2.2.1.1; show zl2 ≤ _; omega) bj).mono ?_
           rw [HVV.out]
           rintro e wB ⟨⟨sa0, sl0, sc0⟩, rfl, O0, e0, B5⟩
           have E0 : Hid (sl0 = vv.length) := Lib.hid e0
           clear e0
           have K5 := below_call K4 B5)
        | fail)
      replace P := P.next K5
      replace Q := Q.next K5
      replace HB := Lib.hid (below_call HB.out K5)
      have W0 : Hid (IntsAt wB sa0 sl0 vv) := Lib.hid O0.ints
      clear O0 J1 J2 J3 J4 O3 B3 K3 B4 B5 K2 K4 K5 g0
      obtain ⟨_, p1, p2, p3, _, _, _⟩ := id P
      go_wp2_with fail
      refine (toArm ⟨xa, xl, xc⟩ ⟨ya, yl, yc⟩ ⟨za, zl, zc⟩ ls lo hi _ (HA.out.1.next HB.out) (HA.out.2.1.next HB.out) (HA.out.2.2.1.next HB.out) lx ly lz).mono ?_
      rintro e w5 ⟨x5, y5, z5, rfl, q1, q2, q3, N5, B5⟩
      obtain ⟨xa5, xl5, xc5⟩ := x5
      obtain ⟨ya5, yl5, yc5⟩ := y5
      obtain ⟨za5, zl5, zc5⟩ := z5
      simp only at q1 q2 q3
      replace q1 := q1.symm
      replace q2 := q2.symm
      replace q3 := q3.symm
      subst q1 q2 q3
      have X := AtA.box w5 (.slice xa5 xl xc5) (.slice ya5 yl yc5) (.slice za5 zl zc5) 25
      have Bx := below_box w5 (.cells #[.slice xa5 xl xc5, .slice ya5 yl yc5, .slice za5 zl zc5] 25)
      replace N5 := N5.next Bx
      have HK := Lib.hid (below_call B5 Bx)
      have PB := Lib.hid P
      have QB := Lib.hid Q
      clear p1 p2 p3 B5 Bx P Q
      go_wp2_with fail
      refine (toIntS ja jl jc js _ (HA.out.2.2.2.next (below_call HB.out HK.out)) lj).mono ?_
      generalize w5.alloc (.cells #[.slice xa5 xl xc5, .slice ya5 yl yc5, .slice za5 zl zc5] 25) = w6 at *
      rintro e w7 ⟨rfl, O7, B7⟩
      replace X := X.next B7
      have HN := Lib.hid (And.intro (show NewArm w6 wB.heap.size _ _ _ ls lo hi from N5) HK.out.size)
      replace N5 := N5.next B7
      replace HK := Lib.hid (below_call HK.out B7)
      clear B7
      have GB := Lib.hid (And.intro (show w6.heap.size < w7.heap.size from (World.ownsRow.lt O7 _ rfl).2) HN.out.2)
      replace HN := Lib.hid HN.out.1
      have Q := QB.out.next HK.out
      obtain ⟨I1, I2, I3⟩ := N5.ints
      have I4 := O7.ints
      go_wp2
      have g7 : Below w7.heap.size w7 w7 := Below.refl _ _
      have HT7 := Lib.hid (HT.out.below (below_call HB.out HK.out) HT.out.lt)
      go_region_held3 (fun u => u.cell? ⟨w5.heap.size, 0, none⟩ = some (.slice xa5 xl xc5) ∧ u.cell? ⟨w5.heap.size, 1, none⟩ = some (.slice ya5 yl yc5) ∧ u.cell? ⟨w5.heap.size, 2, none⟩ = some (.slice za5 zl zc5) ∧ u.cell? ⟨w.heap.size + 1, 0, none⟩ = some (.int .i64 tx) ∧ u.cell? ⟨w.heap.size + 1, 1, none⟩ = some (.int .i64 ty)) (exact keepE (by repeat (first | (with_reducible assumption) | (with_reducible apply Below.drew))) X Q) (first
        | (go_at_call 42
           refine (toPointR tx ty w7 _ (by repeat (first | (with_reducible assumption) | (with_reducible apply Below.drew)))).mono ?_
           rintro e wp ⟨rfl, Kp⟩)
        | (go_at_call 49
           refine (implFollowPoint ⟨xa5, xl, xc5⟩ ⟨ya5, yl, yc5⟩ ⟨za5, zl, zc5⟩ ⟨some ⟨w6.heap.size, 0, none⟩, jl, jl⟩ ls lo hi js tx ty st _ (HT7.out.below Kp HT7.out.lt) (I1.next Kp) (I2.next Kp) (I3.next Kp) (I4.next Kp) bx b_y bz bj).mono ?_
           rw [HVV.out]
           rintro e w8 ⟨⟨sa1, sl1, sc1⟩, rfl, O1, e1, B8⟩
           have E1 : Hid (sl1 = vv.length) := Lib.hid e1
           clear e1
           have K8 := below_call Kp B8)
        | fail)
      replace O1 : OwnI w8 w7.heap.size (.slice sa1 sl1 sc1) vv := O1.mono Kp.size
      have HO1L := Lib.hid (fun q hq => (World.ownsRow.lt O1 q hq).1)
      obtain rfl : sl1 = sl0 := by rw [E1.out, E0.out]
      clear E1 B8 Kp g7 Q
      replace X := X.next K8
      replace N5 := N5.next K8
      replace O7 := O7.next K8
      replace HK := Lib.hid (below_call HK.out K8)
      have hl4 : sl1 ≤ 4 := by rw [E0.out]; exact HVL.out
      clear K8 I1 I2 I3 I4
      go_wp2_with fail
      refine (eqIntS sa1 sa0 sl1 sl1 sc1 sc0 vv _ O1.ints (W0.out.next HK.out) (by omega)).mono ?_
      rintro e w9 ⟨rfl, B9⟩
      replace X := X.next B9
      replace N5 := N5.next B9
      replace O7 := O7.next B9
      replace O1 := O1.next B9
      replace HK := Lib.hid (below_call HK.out B9)
      obtain ⟨I1, I2, I3⟩ := N5.ints
      clear B9
      have P := PB.out.next HK.out
      have g0 : Below w9.heap.size w9 w9 := Below.refl _ _
      go_wp2
      go_region_held3 (fun u => u.cell? ⟨w5.heap.size, 0, none⟩ = some (.slice xa5 xl xc5) ∧ u.cell? ⟨w5.heap.size, 1, none⟩ = some (.slice ya5 yl yc5) ∧ u.cell? ⟨w5.heap.size, 2, none⟩ = some (.slice za5 zl zc5) ∧ u.cell? ⟨w.heap.size, 0, none⟩ = some (.slice xa xl xc) ∧ u.cell? ⟨w.heap.size, 1, none⟩ = some (.slice ya yl yc) ∧ u.cell? ⟨w.heap.size, 2, none⟩ = some (.slice za zl zc)) (exact keepA (by repeat (first | (with_reducible assumption) | (with_reducible apply Below.drew))) X P) (first
        | (go_at_call 23
           refine (toArmR ⟨xa, xl, xc⟩ ⟨ya, yl, yc⟩ ⟨za, zl, zc⟩ ls lo hi w9 _ (by repeat (first | (with_reducible assumption) | (with_reducible apply Below.drew))) (HA.out.1.next (below_call HB.out HK.out)) (HA.out.2.1.next (below_call HB.out HK.out)) (HA.out.2.2.1.next (below_call HB.out HK.out)) lx ly lz).mono ?_
           rintro e wc ⟨xc7, yc7, zc7, rfl, J1, J2, J3, K7⟩)
        | (go_at_call 26
           refine (eqArmR ⟨xa5, xl, xc5⟩ ⟨ya5, yl, yc5⟩ ⟨za5, zl, zc5⟩ xc7 yc7 zc7 ls lo hi w9 _ (by repeat (first | (with_reducible assumption) | (with_reducible apply Below.drew))) (I1.next K7) (I2.next K7) (I3.next K7) J1 J2 J3 bx b_y bz).mono ?_
           rintro e wd ⟨rfl, Kd⟩)
        | fail)
      replace HK := Lib.hid (below_call HK.out Kd)
      replace O7 := O7.next Kd
      replace O1 := O1.next Kd
      replace X := X.next Kd
      replace N5 := N5.next Kd
      clear Kd g0 P I1 I2 I3 K7 J1 J2 J3
      go_wp2_with fail
      refine (toIntS ja jl jc js _ (HA.out.2.2.2.next (below_call HB.out HK.out)) lj).mono ?_
      rintro e we ⟨rfl, Oe, Be⟩
      replace O7 := O7.next Be
      replace O1 := O1.next Be
      replace X := X.next Be
      replace N5 := N5.next Be
      replace HK := Lib.hid (below_call HK.out Be)
      clear Be
      go_wp2_with fail
      refine (eqIntS _ _ jl jl jl jl js _ O7.ints Oe.ints bj).mono ?_
      rintro e wf ⟨rfl, Bf⟩
      replace HK := Lib.hid (below_call HK.out Bf)
      replace O7 := O7.next Bf
      replace O1 := O1.next Bf
      replace X := X.next Bf
      replace N5 := N5.next Bf
      clear Bf Oe
      obtain ⟨_, x1, x2, x3, _, _, _⟩ := id X
      go_wp2_with fail
      refine (markArm ⟨xa5, xl, xc5⟩ ⟨ya5, yl, yc5⟩ ⟨za5, zl, zc5⟩ wB.heap.size ls lo hi 1 _ N5 (by omega) (by omega) lx ly lz).mono ?_
      rintro e wg ⟨rfl, Bg, Fg⟩
      replace HK := Lib.hid (HK.out.trans Bg)
      have HO7 := Lib.hid (O7.same (fun g hg => Fg g (World.ownsRow.lt O7 g hg).2 (HN.out.apart (by simp [Value.ownBlock] at hg; omega))))
      have HO1 := Lib.hid (O1.same (fun g hg => Fg g (World.ownsRow.lt O1 g hg).2 (HN.out.apart (by have := HO1L.out g hg; have := GB.out.1; omega))))
      clear x1 x2 x3 X N5 O7 O1 Bg Fg HN
      go_wp2_with fail
      refine (markIntS _ jl jl _ js _ _ HO7.out (by omega) (by omega) (by omega)).mono ?_
      rintro e wh ⟨rfl, _, Gh, Sh⟩
      replace HK := Lib.hid (HK.out.grown Gh HK.out.size (fun q hq => by have := GB.out.2; simp [Value.ownBlock] at hq; omega))
      have O1 := HO1.out.same (fun g hg => Gh.block g (World.ownsRow.lt HO1.out g hg).2 (by have := HO1L.out g hg; have := GB.out.1; simp [Value.ownBlock]; omega))
      clear HO1 HO7 Gh Sh
      go_wp2_with fail
      refine (eqIntS sa1 sa0 sl1 sl1 sc1 sc0 vv _ O1.ints (W0.out.next HK.out) (by omega)).mono ?_
      rintro e wi ⟨rfl, Bi⟩
      replace HK := Lib.hid (below_call HK.out Bi)
      replace O1 := O1.next Bi
      clear Bi
      go_wp2_with fail
      refine (markIntS sa1 sl1 sc1 _ vv 1 _ O1 (by omega) (by omega) (by omega)).mono ?_
      rintro e wj ⟨rfl, Oj, Gj, Sj⟩
      replace HK := Lib.hid (HK.out.grown Gj HK.out.size (fun q hq => by have := HO1L.out q hq; have := GB.out.1; have := GB.out.2; omega))
      have e2 : ((1 + (sl1 : Int)) != (1 + (sl1 : Int))) = false := by simp
      clear O1 Gj Sj
      go_wp2_with fail
      refine (heldIntS sa1 sl1 sc1 1 _ Oj.ints (by omega) (by omega) (by omega)).mono ?_
      rintro e w' ⟨rfl, rfl⟩
      have P := PB.out.next HK.out
      have Q := QB.out.next HK.out
      have g0 : Below wj.heap.size wj wj := Below.refl _ _
      have HTj := Lib.hid (HT.out.below (below_call HB.out HK.out) HT.out.lt)
      go_wp2
      go_region_held3 (fun u => u.cell? ⟨w.heap.size, 0, none⟩ = some (.slice xa xl xc) ∧ u.cell? ⟨w.heap.size, 1, none⟩ = some (.slice ya yl yc) ∧ u.cell? ⟨w.heap.size, 2, none⟩ = some (.slice za zl zc) ∧ u.cell? ⟨w.heap.size + 1, 0, none⟩ = some (.int .i64 tx) ∧ u.cell? ⟨w.heap.size + 1, 1, none⟩ = some (.int .i64 ty)) (exact keepE (by repeat (first | (with_reducible assumption) | (with_reducible apply Below.drew))) P Q) (first
        | (go_at_call 23
           refine (toArmR ⟨xa, xl, xc⟩ ⟨ya, yl, yc⟩ ⟨za, zl, zc⟩ ls lo hi wj _ (by repeat (first | (with_reducible assumption) | (with_reducible apply Below.drew))) (HA.out.1.next (below_call HB.out HK.out)) (HA.out.2.1.next (below_call HB.out HK.out)) (HA.out.2.2.1.next (below_call HB.out HK.out)) lx ly lz).mono ?_
           rintro e wk ⟨⟨xa2, xl2, xc2⟩, ⟨ya2, yl2, yc2⟩, ⟨za2, zl2, zc2⟩, rfl, J1, J2, J3, K2⟩)
        | (go_at_call 24
           refine (toIntS ja jl jc js _ (HA.out.2.2.2.next (below_call (below_call HB.out HK.out) K2)) lj).mono ?_
           rintro e wl ⟨rfl, O3, B3⟩
           have K3 := below_call K2 B3
           replace J1 := J1.next B3
           replace J2 := J2.next B3
           replace J3 := J3.next B3
           have J4 := O3.ints)
        | (go_at_call 42
           refine (toPoint tx ty _).mono ?_
           rintro e w4 ⟨rfl, B4⟩
           have K4 := below_call K3 B4
           replace J1 := J1.next B4
           replace J2 := J2.next B4
           replace J3 := J3.next B4
           replace J4 := J4.next B4)
        | (go_at_call 49
           refine (implFollowPoint ⟨xa2, xl2, xc2⟩ ⟨ya2, yl2, yc2⟩ ⟨za2, zl2, zc2⟩ ⟨some ⟨wk.heap.size, 0, none⟩, jl, jl⟩ ls lo hi js tx ty st _ (HTj.out.below K4 HTj.out.lt) J1 J2 J3 J4 (by have h1 : xl2 = ls.length := J1.1; have h2 : xl = ls.length := HA.out.1.1; show xl2 ≤ _; omega) (by have h1 : yl2 = lo.length := J2.1; have h2 : yl = lo.length := HA.out.2.1.1; show yl2 ≤ _; omega) (by have h1 : zl2 = hi.length := J3.1; have h2 : zl = hi.length := HA.out.2.2.1.1; show zl2 ≤ _; omega) bj).mono ?_
           rw [HVV.out]
           rintro e wm ⟨⟨sam, slm, scm⟩, rfl, Om, em, B5⟩
           have Em : Hid (slm = vv.length) := Lib.hid em
           clear em
           have K5 := below_call K4 B5)
        | fail)
      replace Om : OwnI wm w4.heap.size (.slice sam slm scm) vv := Om
      obtain rfl : sl1 = slm := by rw [Em.out, E0.out]
      replace HK := Lib.hid (below_call HK.out K5)
      replace Oj := Oj.next K5
      clear Em B4 B5 K2 K4 K5 J1 J2 J3 g0 P Q J4 O3 B3 K3
      go_wp2_with fail
      refine (eqIntS sam sa0 sl1 sl1 scm sc0 vv _ Om.ints (W0.out.next HK.out) (by omega)).mono ?_
      rintro e wn ⟨rfl, Bn⟩
      replace HK := Lib.hid (below_call HK.out Bn)
      replace Oj := Oj.next Bn
      clear Om Bn
      go_wp2_with fail
      refine (heldIntS sa1 sl1 sc1 1 _ Oj.ints (by omega) (by omega) (by omega)).mono ?_
      rintro e w' ⟨rfl, rfl⟩
      go_wp2
      go_ret
      exact ⟨rfl, below_call HB.out HK.out⟩
  · clear P HA
    go_enter Tryd.func12, Tryd.ntmps12
    go_wp2
    go_ret
    exact ⟨rfl, HB.out⟩
end Go.Proofs.YtolkihibjabmhaaDoor
