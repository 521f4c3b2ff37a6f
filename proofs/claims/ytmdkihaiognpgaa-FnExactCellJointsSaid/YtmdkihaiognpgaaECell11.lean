/- The walk of the law FnExactCellJoints: it returns true at every argument. -/
import Derived.Test.YtmdkihaiognpgaaGq11
import Derived.Test.YtmdkihaiognpgaaCe11
import Derived.Test.YtmdkihaiognpgaaZbChn
import Derived.Deep.RegionHeld3
namespace Go.Proofs.Ytmdkihaiognpgaa
set_option maxRecDepth 100000
open Go.RowKit
attribute [local go_sem ↓] Go.wp_at_zero Go.wp_at_succ
theorem keepC {w u : World} {b c : Nat} {x y z : Value} {p q : Int} (h : Below w.heap.size w u) (A : AtA w b x y z) (B : AtP w c p q) :
    u.cell? ⟨b, 0, none⟩ = some x ∧ u.cell? ⟨b, 1, none⟩ = some y ∧ u.cell? ⟨b, 2, none⟩ = some z ∧ u.cell? ⟨c, 0, none⟩ = some (.int .i64 p) ∧ u.cell? ⟨c, 1, none⟩ = some (.int .i64 q) :=
  ⟨(A.next h).c0, (A.next h).c1, (A.next h).c2, (B.next h).c0, (B.next h).c1⟩
theorem toCellR (x y : Int) (w0 w : World) (hw : Below w0.heap.size w0 w) :
    Calls Try.prog 36 #[pt x y] w fun e w' => e = .returned (pt x y) ∧ Below w0.heap.size w0 w' :=
  (Cel.toCell x y w).mono fun _ _ ⟨he, hb⟩ => ⟨he, below_call hw hb⟩
/-- Numbers of the call's own, seen from an earlier world. -/
def IntRowR (zs : List Int) (w0 : World) (e : Ending) (w' : World) : Prop :=
  ∃ s : Sl, e = .returned (.slice s.a s.len s.cap) ∧ Hid (s.len = zs.length) ∧ Hid (OwnI w' w0.heap.size (.slice s.a s.len s.cap) zs) ∧ Below w0.heap.size w0 w'
theorem IntRow.r {zs : List Int} {w0 w w' : World} {e : Ending} (hw : Below w0.heap.size w0 w) (h : IntRow zs w e w') : IntRowR zs w0 e w' := by
  obtain ⟨s, h1, h2, h3, h4⟩ := h
  exact ⟨s, h1, Lib.hid h2, Lib.hid (World.ownsRow_down h3 hw.size), below_call hw h4⟩
theorem jointsV_len (ls lo hi : List Int) (step : Int) (c : C2) : (jointsV ls lo hi step c).length ≤ 2 := by
  unfold jointsV; split
  · exact Nat.le_refl _
  · exact Nat.zero_le _
set_option maxHeartbeats 8000000 in
set_option maxRecDepth 100000 in
theorem walkFnExactCellJoints (x y z : Sl) (step cx cy : Int) (ls lo hi : List Int) (w : World) (hx : IntsAt w x.a x.len ls) (hy : IntsAt w y.a y.len lo) (hz : IntsAt w z.a z.len hi) (bx : x.len ≤ 9223372036854775807) (b_y : y.len ≤ 9223372036854775807) (bz : z.len ≤ 9223372036854775807) (f1 : -9223372036854775808 ≤ cx ∧ cx ≤ 9223372036854775807) (f2 : -9223372036854775808 ≤ cy ∧ cy ≤ 9223372036854775807) :
    Calls Try.prog 10 #[av x y z, .int .i64 step, pt cx cy] w fun e w' => e = .returned (.bool true) ∧ Below w.heap.size w w' := by
  have HA := Lib.hid (And.intro hx (And.intro hy hz))
  clear hx hy hz
  obtain ⟨xa, xl, xc⟩ := x
  obtain ⟨ya, yl, yc⟩ := y
  obtain ⟨za, zl, zc⟩ := z
  simp only at *
  have HB := Lib.hid (below_box2 w (.cells #[.slice xa xl xc, .slice ya yl yc, .slice za zl zc] 51) (.cells #[.int .i64 cx, .int .i64 cy] 56))
  have P := (AtA.box w (.slice xa xl xc) (.slice ya yl yc) (.slice za zl zc) 51).alloc (.cells #[.int .i64 cx, .int .i64 cy] 56)
  have Q := AtP.box (w.alloc (.cells #[.slice xa xl xc, .slice ya yl yc, .slice za zl zc] 51)) cx cy 56
  rw [show (w.alloc (.cells #[.slice xa xl xc, .slice ya yl yc, .slice za zl zc] 51)).heap.size = w.heap.size + 1 by simp] at Q
  go_enter Try.func10, Try.ntmps10
  go_wp2_with fail
  refine (szArm ⟨xa, xl, xc⟩ ⟨ya, yl, yc⟩ ⟨za, zl, zc⟩ 1048576 _ (by omega) (by omega) bx b_y bz).mono ?_
  generalize (w.alloc (.cells #[.slice xa xl xc, .slice ya yl yc, .slice za zl zc] 51)).alloc (.cells #[.int .i64 cx, .int .i64 cy] 56) = w0 at *
  rintro e w1 ⟨r, rfl, hr, B1⟩
  replace P := P.next B1
  replace Q := Q.next B1
  replace HB := Lib.hid (below_call HB.out B1)
  clear B1
  rcases hr with rfl | ⟨r0, r1⟩
  · go_wp2
    go_ret
    exact ⟨rfl, HB.out⟩
  · have lx : xl ≤ 1048576 := by simp only at r1; omega
    have ly : yl ≤ 1048576 := by simp only at r1; omega
    have lz : zl ≤ 1048576 := by simp only at r1; omega
    clear r1
    have g0 : Below w1.heap.size w1 w1 := Below.refl _ _
    go_wp2
    go_region_held3 (fun u => u.cell? ⟨w.heap.size, 0, none⟩ = some (.slice xa xl xc) ∧ u.cell? ⟨w.heap.size, 1, none⟩ = some (.slice ya yl yc) ∧ u.cell? ⟨w.heap.size, 2, none⟩ = some (.slice za zl zc) ∧ u.cell? ⟨w.heap.size + 1, 0, none⟩ = some (.int .i64 cx) ∧ u.cell? ⟨w.heap.size + 1, 1, none⟩ = some (.int .i64 cy)) (exact keepC (by repeat (first | (with_reducible assumption) | (with_reducible exact Below.refl _ _) | (with_reducible apply Below.drew))) P Q) (first
      | (go_at_call 34
         refine (toArmR ⟨xa, xl, xc⟩ ⟨ya, yl, yc⟩ ⟨za, zl, zc⟩ ls lo hi w1 _ (by repeat (first | (with_reducible assumption) | (with_reducible exact Below.refl _ _) | (with_reducible apply Below.drew))) (HA.out.1.next HB.out) (HA.out.2.1.next HB.out) (HA.out.2.2.next HB.out) lx ly lz).mono ?_
         rintro e wa ⟨xa7, ya7, za7, rfl, J1, J2, J3, K7⟩
         have Ka : Below wa.heap.size wa wa := Below.refl _ _)
      | (go_at_call 36
         refine (toCellR cx cy wa _ (by repeat (first | (with_reducible assumption) | (with_reducible exact Below.refl _ _) | (with_reducible apply Below.drew)))).mono ?_
         rintro e wb ⟨rfl, K8⟩
         have Kb := below_call K7 K8)
      | (go_at_call 21
         refine (specCellJoints xa7 ya7 za7 ls lo hi step (cx, cy) _ (J1.next K8) (J2.next K8) (J3.next K8) (by have q := J1.1; have r := HA.out.1.1; (try simp only at r); omega) (by have q := J2.1; have r := HA.out.2.1.1; (try simp only at r); omega) (by have q := J3.1; have r := HA.out.2.2.1; (try simp only at r); omega) f1 f2).mono ?_
         rintro e wd hIR
         obtain ⟨⟨sa0, sl0, sc0⟩, rfl, e0, O0, Kd⟩ := hIR.r Kb)
      | fail)
    have W0 := Lib.hid (OwnI.ints O0.out)
    have E0 := Lib.hid (show sl0 = (jointsV ls lo hi step (cx, cy)).length from e0.out)
    replace P := P.next Kd
    replace Q := Q.next Kd
    replace HB := Lib.hid (below_call HB.out Kd)
    clear O0 e0 g0 J1 J2 J3 K7 K8 Ka Kb
    obtain ⟨_, p1, p2, p3, _, _, _⟩ := id P
    clear Kd
    go_wp2_with fail
    refine (toArm ⟨xa, xl, xc⟩ ⟨ya, yl, yc⟩ ⟨za, zl, zc⟩ ls lo hi _ (HA.out.1.next HB.out) (HA.out.2.1.next HB.out) (HA.out.2.2.next HB.out) lx ly lz).mono ?_
    rintro e w5 ⟨x5, y5, z5, rfl, q1, q2, q3, N5, B5⟩
    obtain ⟨xa5, xl5, xc5⟩ := x5
    obtain ⟨ya5, yl5, yc5⟩ := y5
    obtain ⟨za5, zl5, zc5⟩ := z5
    simp only at q1 q2 q3
    replace q1 := q1.symm
    replace q2 := q2.symm
    replace q3 := q3.symm
    subst q1 q2 q3
    have X := AtA.box w5 (.slice xa5 xl xc5) (.slice ya5 yl yc5) (.slice za5 zl zc5) 25
    have Bx := below_box w5 (.cells #[.slice xa5 xl xc5, .slice ya5 yl yc5, .slice za5 zl zc5] 25)
    replace N5 := N5.next Bx
    have HK := Lib.hid (below_call B5 Bx)
    have PB := Lib.hid (And.intro P Q)
    clear p1 p2 p3 B5 Bx P Q
    go_upto_region 7 with fail
    generalize w5.alloc (.cells #[.slice xa5 xl xc5, .slice ya5 yl yc5, .slice za5 zl zc5] 25) = w6 at *
    have HN := Lib.hid (And.intro (show NewArm w6 wd.heap.size _ _ _ ls lo hi from N5) HK.out.size)
    obtain ⟨I1, I2, I3⟩ := N5.ints
    have Q := PB.out.2.next HK.out
    have g0 : Below w6.heap.size w6 w6 := Below.refl _ _
    go_region_held3 (fun u => u.cell? ⟨w5.heap.size, 0, none⟩ = some (.slice xa5 xl xc5) ∧ u.cell? ⟨w5.heap.size, 1, none⟩ = some (.slice ya5 yl yc5) ∧ u.cell? ⟨w5.heap.size, 2, none⟩ = some (.slice za5 zl zc5) ∧ u.cell? ⟨w.heap.size + 1, 0, none⟩ = some (.int .i64 cx) ∧ u.cell? ⟨w.heap.size + 1, 1, none⟩ = some (.int .i64 cy)) (exact keepC (by repeat (first | (with_reducible assumption) | (with_reducible exact Below.refl _ _) | (with_reducible apply Below.drew))) X Q) (first
      | (go_at_call 36
         refine (toCellR cx cy w6 _ (by repeat (first | (with_reducible assumption) | (with_reducible exact Below.refl _ _) | (with_reducible apply Below.drew)))).mono ?_
         rintro e wb ⟨rfl, Kb⟩)
      | (go_at_call 19
         refine (implCellJoints ⟨xa5, xl, xc5⟩ ⟨ya5, yl, yc5⟩ ⟨za5, zl, zc5⟩ ls lo hi step (cx, cy) _ (I1.next Kb) (I2.next Kb) (I3.next Kb) bx b_y bz).mono ?_
         rintro e w8 hIR
         obtain ⟨⟨sa1, sl1, sc1⟩, rfl, e1, O1, Kd⟩ := hIR.r Kb)
      | fail)
    replace O1 := O1.out
    have GB := Lib.hid (And.intro (fun q hq => (World.ownsRow.lt O1 q hq).1) HN.out.2)
    replace HN := Lib.hid HN.out.1
    obtain rfl : sl1 = sl0 := by rw [show sl1 = (jointsV ls lo hi step (cx, cy)).length from e1.out, E0.out]
    clear e1
    replace X := X.next Kd
    replace N5 := N5.next Kd
    replace HK := Lib.hid (below_call HK.out Kd)
    obtain ⟨I1, I2, I3⟩ := N5.ints
    clear Kd Kb g0 Q
    go_wp2_with fail
    refine (eqIntS sa1 sa0 sl1 sl1 sc1 sc0 (jointsV ls lo hi step (cx, cy)) _ (OwnI.ints O1) (W0.out.next HK.out) (by rw [E0.out]; exact Nat.le_trans (jointsV_len ls lo hi step (cx, cy)) (by decide))).mono ?_
    rintro e w9 ⟨rfl, B9⟩
    replace X := X.next B9
    replace N5 := N5.next B9
    replace O1 := OwnI.next O1 B9
    replace HK := Lib.hid (below_call HK.out B9)
    obtain ⟨I1, I2, I3⟩ := N5.ints
    clear B9
    have P := PB.out.1.next HK.out
    have g0 : Below w9.heap.size w9 w9 := Below.refl _ _
    go_wp2
    go_region_held3 (fun u => u.cell? ⟨w5.heap.size, 0, none⟩ = some (.slice xa5 xl xc5) ∧ u.cell? ⟨w5.heap.size, 1, none⟩ = some (.slice ya5 yl yc5) ∧ u.cell? ⟨w5.heap.size, 2, none⟩ = some (.slice za5 zl zc5) ∧ u.cell? ⟨w.heap.size, 0, none⟩ = some (.slice xa xl xc) ∧ u.cell? ⟨w.heap.size, 1, none⟩ = some (.slice ya yl yc) ∧ u.cell? ⟨w.heap.size, 2, none⟩ = some (.slice za zl zc)) (exact keepA (by repeat (first | (with_reducible assumption) | (with_reducible apply Below.drew))) X P) (first
      | (go_at_call 34
         refine (toArmR ⟨xa, xl, xc⟩ ⟨ya, yl, yc⟩ ⟨za, zl, zc⟩ ls lo hi w9 _ (by repeat (first | (with_reducible assumption) | (with_reducible apply Below.drew))) (HA.out.1.next (below_call HB.out HK.out)) (HA.out.2.1.next (below_call HB.out HK.out)) (HA.out.2.2.next (below_call HB.out HK.out)) lx ly lz).mono ?_
         rintro e wc ⟨xc7, yc7, zc7, rfl, J1, J2, J3, K7⟩)
      | (go_at_call 35
         refine (eqArmR ⟨xa5, xl, xc5⟩ ⟨ya5, yl, yc5⟩ ⟨za5, zl, zc5⟩ xc7 yc7 zc7 ls lo hi w9 _ (by repeat (first | (with_reducible assumption) | (with_reducible apply Below.drew))) (I1.next K7) (I2.next K7) (I3.next K7) J1 J2 J3 bx b_y bz).mono ?_
         rintro e wd2 ⟨rfl, Kd⟩))
    replace HK := Lib.hid (below_call HK.out Kd)
    replace O1 := OwnI.next O1 Kd
    replace X := X.next Kd
    replace N5 := N5.next Kd
    clear Kd g0 P I1 I2 I3 K7 J1 J2 J3
    obtain ⟨_, x1, x2, x3, _, _, _⟩ := id X
    go_wp2_with fail
    refine (markArm ⟨xa5, xl, xc5⟩ ⟨ya5, yl, yc5⟩ ⟨za5, zl, zc5⟩ wd.heap.size ls lo hi 1 _ N5 (by omega) (by omega) lx ly lz).mono ?_
    rintro e wg ⟨rfl, Bg, Fg⟩
    replace HK := Lib.hid (HK.out.trans Bg)
    have HO1 := Lib.hid (OwnI.same O1 (fun g hg => Fg g (World.ownsRow.lt O1 g hg).2 (HN.out.apart (by have := GB.out.1 g hg; omega))))
    clear x1 x2 x3 X N5 O1 Bg Fg HN
    go_wp2_with fail
    refine (eqIntS sa1 sa0 sl1 sl1 sc1 sc0 (jointsV ls lo hi step (cx, cy)) _ (OwnI.ints HO1.out) (W0.out.next HK.out) (by rw [E0.out]; exact Nat.le_trans (jointsV_len ls lo hi step (cx, cy)) (by decide))).mono ?_
    rintro e wi ⟨rfl, Bi⟩
    replace HK := Lib.hid (below_call HK.out Bi)
    have O1 := OwnI.next HO1.out Bi
    have hl4 : sl1 ≤ 5 := by rw [E0.out]; exact Nat.le_trans (jointsV_len ls lo hi step (cx, cy)) (by decide)
    clear Bi HO1
    go_wp2_with fail
    refine (markIntS sa1 sl1 sc1 _ (jointsV ls lo hi step (cx, cy)) 1 _ O1 (by omega) (by omega) (by omega)).mono ?_
    rintro e wj ⟨rfl, Oj, Gj, Sj⟩
    replace HK := Lib.hid (HK.out.grown Gj HK.out.size (fun q hq => by have := GB.out.1 q hq; have := GB.out.2; omega))
    have e2 : ((1 + (sl1 : Int)) != (1 + (sl1 : Int))) = false := by simp
    clear O1 Gj Sj
    go_wp2_with fail
    refine (heldIntS sa1 sl1 sc1 1 _ Oj.ints (by omega) (by omega) (by omega)).mono ?_
    rintro e w' ⟨rfl, rfl⟩
    have P := PB.out.1.next HK.out
    have Q := PB.out.2.next HK.out
    have g0 : Below wj.heap.size wj wj := Below.refl _ _
    go_wp2
    go_region_held3 (fun u => u.cell? ⟨w.heap.size, 0, none⟩ = some (.slice xa xl xc) ∧ u.cell? ⟨w.heap.size, 1, none⟩ = some (.slice ya yl yc) ∧ u.cell? ⟨w.heap.size, 2, none⟩ = some (.slice za zl zc) ∧ u.cell? ⟨w.heap.size + 1, 0, none⟩ = some (.int .i64 cx) ∧ u.cell? ⟨w.heap.size + 1, 1, none⟩ = some (.int .i64 cy)) (exact keepC (by repeat (first | (with_reducible assumption) | (with_reducible exact Below.refl _ _) | (with_reducible apply Below.drew))) P Q) (first
      | (go_at_call 34
         refine (toArmR ⟨xa, xl, xc⟩ ⟨ya, yl, yc⟩ ⟨za, zl, zc⟩ ls lo hi wj _ (by repeat (first | (with_reducible assumption) | (with_reducible exact Below.refl _ _) | (with_reducible apply Below.drew))) (HA.out.1.next (below_call HB.out HK.out)) (HA.out.2.1.next (below_call HB.out HK.out)) (HA.out.2.2.next (below_call HB.out HK.out)) lx ly lz).mono ?_
         rintro e wa ⟨xa7, ya7, za7, rfl, J1, J2, J3, K7⟩
         have Ka : Below wa.heap.size wa wa := Below.refl _ _)
      | (go_at_call 36
         refine (toCellR cx cy wa _ (by repeat (first | (with_reducible assumption) | (with_reducible exact Below.refl _ _) | (with_reducible apply Below.drew)))).mono ?_
         rintro e wb ⟨rfl, K8⟩
         have Kb := below_call K7 K8)
      | (go_at_call 19
         refine (implCellJoints xa7 ya7 za7 ls lo hi step (cx, cy) _ (J1.next K8) (J2.next K8) (J3.next K8) (by have q := J1.1; have r := HA.out.1.1; (try simp only at r); omega) (by have q := J2.1; have r := HA.out.2.1.1; (try simp only at r); omega) (by have q := J3.1; have r := HA.out.2.2.1; (try simp only at r); omega)).mono ?_
         rintro e wm hIR
         obtain ⟨⟨sam, slm, scm⟩, rfl, em, Om, Kd⟩ := hIR.r Kb)
      | fail)
    replace Om := Om.out
    obtain rfl : sl1 = slm := by rw [show slm = (jointsV ls lo hi step (cx, cy)).length from em.out, E0.out]
    replace HK := Lib.hid (below_call HK.out Kd)
    replace Oj := OwnI.next Oj Kd
    clear em Kd Kb Ka K7 K8 J1 J2 J3 g0 P Q
    go_wp2_with fail
    refine (eqIntS sam sa0 sl1 sl1 scm sc0 (jointsV ls lo hi step (cx, cy)) _ (OwnI.ints Om) (W0.out.next HK.out) (by omega)).mono ?_
    rintro e wn ⟨rfl, Bn⟩
    replace HK := Lib.hid (below_call HK.out Bn)
    replace Oj := OwnI.next Oj Bn
    clear Om Bn
    go_wp2_with fail
    refine (heldIntS sa1 sl1 sc1 1 _ Oj.ints (by omega) (by omega) (by omega)).mono ?_
    rintro e w' ⟨rfl, rfl⟩
    go_wp2
    go_ret
    exact ⟨rfl, below_call HB.out HK.out⟩
end Go.Proofs.Ytmdkihaiognpgaa
