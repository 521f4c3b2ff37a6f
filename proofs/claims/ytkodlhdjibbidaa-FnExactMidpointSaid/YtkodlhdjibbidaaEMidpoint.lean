/- The walk of the law FnExactMidpoint: it returns true at every argument. -/
import Derived.Test.YtkodlhdjibbidaaPts3
import Derived.Deep.RegionHeld3
import Derived.OpenShut
namespace Go.Proofs.Ytkodlhdjibbidaa
open Go.RowKit
attribute [local go_sem ↓] Go.wp_at_zero Go.wp_at_succ
theorem below_more {w u : World} (h : Below w.heap.size w u) (o : Obj) : Below w.heap.size w (u.alloc o) := h.alloc h.size o
theorem toPointR (x y : Int) (w0 w : World) (hw : Below w0.heap.size w0 w) :
    Calls Try.prog 24 #[pt x y] w fun e w' => e = .returned (pt x y) ∧ Below w0.heap.size w0 w' :=
  (toPoint x y w).mono fun _ _ ⟨he, hb⟩ => ⟨he, below_call hw hb⟩
theorem keepN {w u : World} {b0 : Nat} {x0 y0 : Int} {b1 : Nat} {x1 y1 : Int} (h : Below w.heap.size w u) (A0 : AtP w b0 x0 y0) (A1 : AtP w b1 x1 y1) :
    u.cell? ⟨b0, 0, none⟩ = some (.int .i64 x0) ∧ u.cell? ⟨b0, 1, none⟩ = some (.int .i64 y0) ∧ u.cell? ⟨b1, 0, none⟩ = some (.int .i64 x1) ∧ u.cell? ⟨b1, 1, none⟩ = some (.int .i64 y1) :=
  ⟨(A0.next h).c0, (A0.next h).c1, (A1.next h).c0, (A1.next h).c1⟩
theorem specMidpointR (ax ay bx b_y : Int) (w0 w : World) (hw : Below w0.heap.size w0 w) :
    Calls Try.prog 23 #[pt ax ay, pt bx b_y] w fun e w' => e = .returned (pt (midX ax ay bx b_y) (midY ax ay bx b_y)) ∧ Below w0.heap.size w0 w' :=
  (specMidpoint ax ay bx b_y w).mono fun _ _ ⟨he, hb⟩ => ⟨he, below_call hw hb⟩
theorem implMidpointR (ax ay bx b_y : Int) (w0 w : World) (hw : Below w0.heap.size w0 w) :
    Calls Try.prog 22 #[pt ax ay, pt bx b_y] w fun e w' => e = .returned (pt (midX ax ay bx b_y) (midY ax ay bx b_y)) ∧ Below w0.heap.size w0 w' :=
  (implMidpoint ax ay bx b_y w).mono fun _ _ ⟨he, hb⟩ => ⟨he, below_call hw hb⟩
theorem moreOf {P : Program} {f : FuncId} {args : Array Value} {w : World} {v : Value} (h : Calls P f args w fun e w' => e = .returned v ∧ Below w.heap.size w w') (w0 : World) (hw : Below w0.heap.size w0 w) :
    Calls P f args w fun e w' => e = .returned v ∧ Below w0.heap.size w0 w' ∧ (∀ b o, b < w.heap.size → w'.cell? ⟨b, o, none⟩ = w.cell? ⟨b, o, none⟩) ∧ (∀ b o, b < w.heap.size → w'.frozen? ⟨b, o, none⟩ = w.frozen? ⟨b, o, none⟩) ∧ (∀ b, b < w.heap.size → b < w'.heap.size) ∧ Hid (Below w.heap.size w w') :=
  h.mono fun _ _ ⟨he, hb⟩ => ⟨he, below_call hw hb, fun b o hlt => hb.cell (p := ⟨b, o, none⟩) hlt, fun b o hlt => hb.frozen (p := ⟨b, o, none⟩) hlt, fun _ hlt => Nat.lt_of_lt_of_le hlt hb.size, Lib.hid hb⟩
theorem AtP.put {w : World} {b : Nat} {x y : Int} (h : AtP w b x y) (u v : Int) : AtP ((w.setCell ⟨b, 0, none⟩ (.int .i64 u)).setCell ⟨b, 1, none⟩ (.int .i64 v)) b u v :=
  ⟨by simpa [World.setCell] using h.lt, (World.cell?_setCell_other _ _ _ _ (by simp)).trans (World.cell?_setCell_same _ _ _ h.c0), World.cell?_setCell_same _ _ _ ((World.cell?_setCell_other _ _ _ _ (by simp)).trans h.c1)⟩
set_option maxHeartbeats 2000000 in
theorem walkFnExactMidpoint (ax ay bx b_y : Int) (w : World) :
    Calls Try.prog 10 #[pt ax ay, pt bx b_y] w fun e w' => e = .returned (.bool true) ∧ Below w.heap.size w w' := by
  have HB0 := Lib.hid (below_box2 w (.cells #[.int .i64 ax, .int .i64 ay] 36) (.cells #[.int .i64 bx, .int .i64 b_y] 36))
  obtain ⟨P, Q⟩ := at2 w ax ay bx b_y 36
  go_enter Try.func10, Try.ntmps10
  go_wp2
  have g0 := Below.refl ((w.alloc (.cells #[.int .i64 ax, .int .i64 ay] 36)).alloc (.cells #[.int .i64 bx, .int .i64 b_y] 36)).heap.size ((w.alloc (.cells #[.int .i64 ax, .int .i64 ay] 36)).alloc (.cells #[.int .i64 bx, .int .i64 b_y] 36))
  generalize ((w.alloc (.cells #[.int .i64 ax, .int .i64 ay] 36)).alloc (.cells #[.int .i64 bx, .int .i64 b_y] 36)) = w0 at *
  have t1 : ∀ o : Obj, w0.heap.size < (w0.alloc o).drew.heap.size := fun o => by show w0.heap.size < (w0.alloc o).heap.size; simp
  have t2 : ∀ (u : World) (a : Addr), u.drew.frozen? a = u.frozen? a := fun _ _ => rfl
  go_region_held3 (fun u => u.cell? ⟨w.heap.size, 0, none⟩ = some (.int .i64 ax) ∧ u.cell? ⟨w.heap.size, 1, none⟩ = some (.int .i64 ay) ∧ u.cell? ⟨w.heap.size + 1, 0, none⟩ = some (.int .i64 bx) ∧ u.cell? ⟨w.heap.size + 1, 1, none⟩ = some (.int .i64 b_y)) (exact keepN (by repeat (first | (with_reducible assumption) | (with_reducible apply Below.drew) | (with_reducible apply below_more) | (with_reducible refine Below.setCell ?_ (by first | exact Nat.le_refl _ | exact K0.size | exact K1.size | exact K10.size | exact K11.size) _))) P Q) (first
    | (go_at_call_of 24 ax
       refine (moreOf (toPoint ax ay _) w0 (by repeat (first | (with_reducible assumption) | (with_reducible apply Below.drew) | (with_reducible apply below_more) | (with_reducible refine Below.setCell ?_ (by first | exact Nat.le_refl _ | exact K0.size | exact K1.size | exact K10.size | exact K11.size) _)))).mono ?_
       rintro e k0 ⟨rfl, K0, c0, z0, g0, N0⟩
       try (have s0 : w0.heap.size < k0.heap.size := g0 _ (by first | exact s0 | exact t1 _)))
    | (go_at_call_of 24 bx
       refine (moreOf (toPoint bx b_y _) w0 (by repeat (first | (with_reducible assumption) | (with_reducible apply Below.drew) | (with_reducible apply below_more) | (with_reducible refine Below.setCell ?_ (by first | exact Nat.le_refl _ | exact K0.size | exact K1.size | exact K10.size | exact K11.size) _)))).mono ?_
       rintro e k1 ⟨rfl, K1, c1, z1, g1, N1⟩
       try (have s1 : w0.heap.size < k1.heap.size := g1 _ (by first | exact s0 | exact t1 _)))
    | (go_at_call 23
       refine (moreOf (specMidpoint ax ay bx b_y _) w0 (by repeat (first | (with_reducible assumption) | (with_reducible apply Below.drew) | (with_reducible apply below_more) | (with_reducible refine Below.setCell ?_ (by first | exact Nat.le_refl _ | exact K0.size | exact K1.size | exact K10.size | exact K11.size) _)))).mono ?_
       rintro e k9 ⟨rfl, K9, c9, z9, g9, N9⟩))
  · have V : AtP (k9.alloc (.cells #[.int .i64 (midX ax ay bx b_y), .int .i64 (midY ax ay bx b_y)] 24)) (k9.heap.size) (midX ax ay bx b_y) (midY ax ay bx b_y) := AtP.box k9 _ _ 24
    have BU : Below w0.heap.size w0 (k9.alloc (.cells #[.int .i64 (midX ax ay bx b_y), .int .i64 (midY ax ay bx b_y)] 24)) := below_more K9 _
    generalize (k9.alloc (.cells #[.int .i64 (midX ax ay bx b_y), .int .i64 (midY ax ay bx b_y)] 24)) = u at *
    have HB1 := Lib.hid (below_call HB0.out BU)
    replace P := P.next BU
    replace Q := Q.next BU
    clear BU
    have g0 := Below.refl u.heap.size u
    have t1 : ∀ o : Obj, u.heap.size < (u.alloc o).drew.heap.size := fun o => by show u.heap.size < (u.alloc o).heap.size; simp
    go_wp2
    go_region_held3 (fun u => u.cell? ⟨w.heap.size, 0, none⟩ = some (.int .i64 ax) ∧ u.cell? ⟨w.heap.size, 1, none⟩ = some (.int .i64 ay) ∧ u.cell? ⟨w.heap.size + 1, 0, none⟩ = some (.int .i64 bx) ∧ u.cell? ⟨w.heap.size + 1, 1, none⟩ = some (.int .i64 b_y)) (exact keepN (by repeat (first | (with_reducible assumption) | (with_reducible apply Below.drew) | (with_reducible apply below_more) | (with_reducible refine Below.setCell ?_ (by first | exact Nat.le_refl _ | exact K0.size | exact K1.size | exact K10.size | exact K11.size) _))) P Q) (first
      | (go_at_call_of 24 ax
         refine (moreOf (toPoint ax ay _) u (by repeat (first | (with_reducible assumption) | (with_reducible apply Below.drew) | (with_reducible apply below_more) | (with_reducible refine Below.setCell ?_ (by first | exact Nat.le_refl _ | exact K0.size | exact K1.size | exact K10.size | exact K11.size) _)))).mono ?_
         rintro e k10 ⟨rfl, K10, c10, z10, g10, N10⟩
         try (have s10 : u.heap.size < k10.heap.size := g10 _ (by first | exact s10 | exact t1 _)))
      | (go_at_call_of 24 bx
         refine (moreOf (toPoint bx b_y _) u (by repeat (first | (with_reducible assumption) | (with_reducible apply Below.drew) | (with_reducible apply below_more) | (with_reducible refine Below.setCell ?_ (by first | exact Nat.le_refl _ | exact K0.size | exact K1.size | exact K10.size | exact K11.size) _)))).mono ?_
         rintro e k11 ⟨rfl, K11, c11, z11, g11, N11⟩
         try (have s11 : u.heap.size < k11.heap.size := g11 _ (by first | exact s10 | exact t1 _)))
      | (go_at_call 22
         refine (moreOf (implMidpoint ax ay bx b_y _) u (by repeat (first | (with_reducible assumption) | (with_reducible apply Below.drew) | (with_reducible apply below_more) | (with_reducible refine Below.setCell ?_ (by first | exact Nat.le_refl _ | exact K0.size | exact K1.size | exact K10.size | exact K11.size) _)))).mono ?_
         rintro e k19 ⟨rfl, K19, c19, z19, g19, N19⟩))
    · have V2 : AtP (k19.alloc (.cells #[.int .i64 (midX ax ay bx b_y), .int .i64 (midY ax ay bx b_y)] 24)) (k19.heap.size) (midX ax ay bx b_y) (midY ax ay bx b_y) := AtP.box k19 _ _ 24
      have BU2 : Below u.heap.size u (k19.alloc (.cells #[.int .i64 (midX ax ay bx b_y), .int .i64 (midY ax ay bx b_y)] 24)) := below_more K19 _
      generalize (k19.alloc (.cells #[.int .i64 (midX ax ay bx b_y), .int .i64 (midY ax ay bx b_y)] 24)) = u2 at *
      have HB2 := Lib.hid (below_call HB1.out BU2)
      obtain ⟨i1, i2, i3⟩ := V.next BU2
      obtain ⟨j1, j2, j3⟩ := V2
      clear BU2
      go_wp2_with fail
      refine (eqPoint _ _ _).mono ?_
      rintro e w5 ⟨rfl, B5⟩
      have HB5 := Lib.hid (below_call HB2.out B5)
      go_wp2
      go_ret
      exact ⟨rfl, HB5.out⟩
    · have V2 : AtP ((k19.setCell ⟨k11.heap.size, 0, none⟩ (.int .i64 (midX ax ay bx b_y))).setCell ⟨k11.heap.size, 1, none⟩ (.int .i64 (midY ax ay bx b_y))) (k11.heap.size) (midX ax ay bx b_y) (midY ax ay bx b_y) := ((AtP.box k11 0 0 24).next N19.out).put _ _
      have BU2 : Below u.heap.size u ((k19.setCell ⟨k11.heap.size, 0, none⟩ (.int .i64 (midX ax ay bx b_y))).setCell ⟨k11.heap.size, 1, none⟩ (.int .i64 (midY ax ay bx b_y))) := below_set K19 K11.size _ _
      generalize ((k19.setCell ⟨k11.heap.size, 0, none⟩ (.int .i64 (midX ax ay bx b_y))).setCell ⟨k11.heap.size, 1, none⟩ (.int .i64 (midY ax ay bx b_y))) = u2 at *
      have HB2 := Lib.hid (below_call HB1.out BU2)
      obtain ⟨i1, i2, i3⟩ := V.next BU2
      obtain ⟨j1, j2, j3⟩ := V2
      clear BU2
      go_wp2_with fail
      refine (eqPoint _ _ _).mono ?_
      rintro e w5 ⟨rfl, B5⟩
      have HB5 := Lib.hid (below_call HB2.out B5)
      go_wp2
      go_ret
      exact ⟨rfl, HB5.out⟩
    · have V2 : AtP ((k19.setCell ⟨k10.heap.size, 0, none⟩ (.int .i64 (midX ax ay bx b_y))).setCell ⟨k10.heap.size, 1, none⟩ (.int .i64 (midY ax ay bx b_y))) (k10.heap.size) (midX ax ay bx b_y) (midY ax ay bx b_y) := (((AtP.box k10 0 0 24).next N11.out).next N19.out).put _ _
      have BU2 : Below u.heap.size u ((k19.setCell ⟨k10.heap.size, 0, none⟩ (.int .i64 (midX ax ay bx b_y))).setCell ⟨k10.heap.size, 1, none⟩ (.int .i64 (midY ax ay bx b_y))) := below_set K19 K10.size _ _
      generalize ((k19.setCell ⟨k10.heap.size, 0, none⟩ (.int .i64 (midX ax ay bx b_y))).setCell ⟨k10.heap.size, 1, none⟩ (.int .i64 (midY ax ay bx b_y))) = u2 at *
      have HB2 := Lib.hid (below_call HB1.out BU2)
      obtain ⟨i1, i2, i3⟩ := V.next BU2
      obtain ⟨j1, j2, j3⟩ := V2
      clear BU2
      go_wp2_with fail
      refine (eqPoint _ _ _).mono ?_
      rintro e w5 ⟨rfl, B5⟩
      have HB5 := Lib.hid (below_call HB2.out B5)
      go_wp2
      go_ret
      exact ⟨rfl, HB5.out⟩
    · have V2 : AtP ((k19.setCell ⟨u.heap.size, 0, none⟩ (.int .i64 (midX ax ay bx b_y))).setCell ⟨u.heap.size, 1, none⟩ (.int .i64 (midY ax ay bx b_y))) (u.heap.size) (midX ax ay bx b_y) (midY ax ay bx b_y) := (((((AtP.box u 0 0 24).next (below_drew _)).next N10.out).next N11.out).next N19.out).put _ _
      have BU2 : Below u.heap.size u ((k19.setCell ⟨u.heap.size, 0, none⟩ (.int .i64 (midX ax ay bx b_y))).setCell ⟨u.heap.size, 1, none⟩ (.int .i64 (midY ax ay bx b_y))) := below_set K19 (Nat.le_refl _) _ _
      generalize ((k19.setCell ⟨u.heap.size, 0, none⟩ (.int .i64 (midX ax ay bx b_y))).setCell ⟨u.heap.size, 1, none⟩ (.int .i64 (midY ax ay bx b_y))) = u2 at *
      have HB2 := Lib.hid (below_call HB1.out BU2)
      obtain ⟨i1, i2, i3⟩ := V.next BU2
      obtain ⟨j1, j2, j3⟩ := V2
      clear BU2
      go_wp2_with fail
      refine (eqPoint _ _ _).mono ?_
      rintro e w5 ⟨rfl, B5⟩
      have HB5 := Lib.hid (below_call HB2.out B5)
      go_wp2
      go_ret
      exact ⟨rfl, HB5.out⟩
  · have V : AtP ((k9.setCell ⟨k1.heap.size, 0, none⟩ (.int .i64 (midX ax ay bx b_y))).setCell ⟨k1.heap.size, 1, none⟩ (.int .i64 (midY ax ay bx b_y))) (k1.heap.size) (midX ax ay bx b_y) (midY ax ay bx b_y) := ((AtP.box k1 0 0 24).next N9.out).put _ _
    have BU : Below w0.heap.size w0 ((k9.setCell ⟨k1.heap.size, 0, none⟩ (.int .i64 (midX ax ay bx b_y))).setCell ⟨k1.heap.size, 1, none⟩ (.int .i64 (midY ax ay bx b_y))) := below_set K9 K1.size _ _
    generalize ((k9.setCell ⟨k1.heap.size, 0, none⟩ (.int .i64 (midX ax ay bx b_y))).setCell ⟨k1.heap.size, 1, none⟩ (.int .i64 (midY ax ay bx b_y))) = u at *
    have HB1 := Lib.hid (below_call HB0.out BU)
    replace P := P.next BU
    replace Q := Q.next BU
    clear BU
    have g0 := Below.refl u.heap.size u
    have t1 : ∀ o : Obj, u.heap.size < (u.alloc o).drew.heap.size := fun o => by show u.heap.size < (u.alloc o).heap.size; simp
    go_wp2
    go_region_held3 (fun u => u.cell? ⟨w.heap.size, 0, none⟩ = some (.int .i64 ax) ∧ u.cell? ⟨w.heap.size, 1, none⟩ = some (.int .i64 ay) ∧ u.cell? ⟨w.heap.size + 1, 0, none⟩ = some (.int .i64 bx) ∧ u.cell? ⟨w.heap.size + 1, 1, none⟩ = some (.int .i64 b_y)) (exact keepN (by repeat (first | (with_reducible assumption) | (with_reducible apply Below.drew) | (with_reducible apply below_more) | (with_reducible refine Below.setCell ?_ (by first | exact Nat.le_refl _ | exact K0.size | exact K1.size | exact K10.size | exact K11.size) _))) P Q) (first
      | (go_at_call_of 24 ax
         refine (moreOf (toPoint ax ay _) u (by repeat (first | (with_reducible assumption) | (with_reducible apply Below.drew) | (with_reducible apply below_more) | (with_reducible refine Below.setCell ?_ (by first | exact Nat.le_refl _ | exact K0.size | exact K1.size | exact K10.size | exact K11.size) _)))).mono ?_
         rintro e k10 ⟨rfl, K10, c10, z10, g10, N10⟩
         try (have s10 : u.heap.size < k10.heap.size := g10 _ (by first | exact s10 | exact t1 _)))
      | (go_at_call_of 24 bx
         refine (moreOf (toPoint bx b_y _) u (by repeat (first | (with_reducible assumption) | (with_reducible apply Below.drew) | (with_reducible apply below_more) | (with_reducible refine Below.setCell ?_ (by first | exact Nat.le_refl _ | exact K0.size | exact K1.size | exact K10.size | exact K11.size) _)))).mono ?_
         rintro e k11 ⟨rfl, K11, c11, z11, g11, N11⟩
         try (have s11 : u.heap.size < k11.heap.size := g11 _ (by first | exact s10 | exact t1 _)))
      | (go_at_call 22
         refine (moreOf (implMidpoint ax ay bx b_y _) u (by repeat (first | (with_reducible assumption) | (with_reducible apply Below.drew) | (with_reducible apply below_more) | (with_reducible refine Below.setCell ?_ (by first | exact Nat.le_refl _ | exact K0.size | exact K1.size | exact K10.size | exact K11.size) _)))).mono ?_
         rintro e k19 ⟨rfl, K19, c19, z19, g19, N19⟩))
    · have V2 : AtP (k19.alloc (.cells #[.int .i64 (midX ax ay bx b_y), .int .i64 (midY ax ay bx b_y)] 24)) (k19.heap.size) (midX ax ay bx b_y) (midY ax ay bx b_y) := AtP.box k19 _ _ 24
      have BU2 : Below u.heap.size u (k19.alloc (.cells #[.int .i64 (midX ax ay bx b_y), .int .i64 (midY ax ay bx b_y)] 24)) := below_more K19 _
      generalize (k19.alloc (.cells #[.int .i64 (midX ax ay bx b_y), .int .i64 (midY ax ay bx b_y)] 24)) = u2 at *
      have HB2 := Lib.hid (below_call HB1.out BU2)
      obtain ⟨i1, i2, i3⟩ := V.next BU2
      obtain ⟨j1, j2, j3⟩ := V2
      clear BU2
      go_wp2_with fail
      refine (eqPoint _ _ _).mono ?_
      rintro e w5 ⟨rfl, B5⟩
      have HB5 := Lib.hid (below_call HB2.out B5)
      go_wp2
      go_ret
      exact ⟨rfl, HB5.out⟩
    · have V2 : AtP ((k19.setCell ⟨k11.heap.size, 0, none⟩ (.int .i64 (midX ax ay bx b_y))).setCell ⟨k11.heap.size, 1, none⟩ (.int .i64 (midY ax ay bx b_y))) (k11.heap.size) (midX ax ay bx b_y) (midY ax ay bx b_y) := ((AtP.box k11 0 0 24).next N19.out).put _ _
      have BU2 : Below u.heap.size u ((k19.setCell ⟨k11.heap.size, 0, none⟩ (.int .i64 (midX ax ay bx b_y))).setCell ⟨k11.heap.size, 1, none⟩ (.int .i64 (midY ax ay bx b_y))) := below_set K19 K11.size _ _
      generalize ((k19.setCell ⟨k11.heap.size, 0, none⟩ (.int .i64 (midX ax ay bx b_y))).setCell ⟨k11.heap.size, 1, none⟩ (.int .i64 (midY ax ay bx b_y))) = u2 at *
      have HB2 := Lib.hid (below_call HB1.out BU2)
      obtain ⟨i1, i2, i3⟩ := V.next BU2
      obtain ⟨j1, j2, j3⟩ := V2
      clear BU2
      go_wp2_with fail
      refine (eqPoint _ _ _).mono ?_
      rintro e w5 ⟨rfl, B5⟩
      have HB5 := Lib.hid (below_call HB2.out B5)
      go_wp2
      go_ret
      exact ⟨rfl, HB5.out⟩
    · have V2 : AtP ((k19.setCell ⟨k10.heap.size, 0, none⟩ (.int .i64 (midX ax ay bx b_y))).setCell ⟨k10.heap.size, 1, none⟩ (.int .i64 (midY ax ay bx b_y))) (k10.heap.size) (midX ax ay bx b_y) (midY ax ay bx b_y) := (((AtP.box k10 0 0 24).next N11.out).next N19.out).put _ _
      have BU2 : Below u.heap.size u ((k19.setCell ⟨k10.heap.size, 0, none⟩ (.int .i64 (midX ax ay bx b_y))).setCell ⟨k10.heap.size, 1, none⟩ (.int .i64 (midY ax ay bx b_y))) := below_set K19 K10.size _ _
      generalize ((k19.setCell ⟨k10.heap.size, 0, none⟩ (.int .i64 (midX ax ay bx b_y))).setCell ⟨k10.heap.size, 1, none⟩ (.int .i64 (midY ax ay bx b_y))) = u2 at *
      have HB2 := Lib.hid (below_call HB1.out BU2)
      obtain ⟨i1, i2, i3⟩ := V.next BU2
      obtain ⟨j1, j2, j3⟩ := V2
      clear BU2
      go_wp2_with fail
      refine (eqPoint _ _ _).mono ?_
      rintro e w5 ⟨rfl, B5⟩
      have HB5 := Lib.hid (below_call HB2.out B5)
      go_wp2
      go_ret
      exact ⟨rfl, HB5.out⟩
    · have V2 : AtP ((k19.setCell ⟨u.heap.size, 0, none⟩ (.int .i64 (midX ax ay bx b_y))).setCell ⟨u.heap.size, 1, none⟩ (.int .i64 (midY ax ay bx b_y))) (u.heap.size) (midX ax ay bx b_y) (midY ax ay bx b_y) := (((((AtP.box u 0 0 24).next (below_drew _)).next N10.out).next N11.out).next N19.out).put _ _
      have BU2 : Below u.heap.size u ((k19.setCell ⟨u.heap.size, 0, none⟩ (.int .i64 (midX ax ay bx b_y))).setCell ⟨u.heap.size, 1, none⟩ (.int .i64 (midY ax ay bx b_y))) := below_set K19 (Nat.le_refl _) _ _
      generalize ((k19.setCell ⟨u.heap.size, 0, none⟩ (.int .i64 (midX ax ay bx b_y))).setCell ⟨u.heap.size, 1, none⟩ (.int .i64 (midY ax ay bx b_y))) = u2 at *
      have HB2 := Lib.hid (below_call HB1.out BU2)
      obtain ⟨i1, i2, i3⟩ := V.next BU2
      obtain ⟨j1, j2, j3⟩ := V2
      clear BU2
      go_wp2_with fail
      refine (eqPoint _ _ _).mono ?_
      rintro e w5 ⟨rfl, B5⟩
      have HB5 := Lib.hid (below_call HB2.out B5)
      go_wp2
      go_ret
      exact ⟨rfl, HB5.out⟩
  · have V : AtP ((k9.setCell ⟨k0.heap.size, 0, none⟩ (.int .i64 (midX ax ay bx b_y))).setCell ⟨k0.heap.size, 1, none⟩ (.int .i64 (midY ax ay bx b_y))) (k0.heap.size) (midX ax ay bx b_y) (midY ax ay bx b_y) := (((AtP.box k0 0 0 24).next N1.out).next N9.out).put _ _
    have BU : Below w0.heap.size w0 ((k9.setCell ⟨k0.heap.size, 0, none⟩ (.int .i64 (midX ax ay bx b_y))).setCell ⟨k0.heap.size, 1, none⟩ (.int .i64 (midY ax ay bx b_y))) := below_set K9 K0.size _ _
    generalize ((k9.setCell ⟨k0.heap.size, 0, none⟩ (.int .i64 (midX ax ay bx b_y))).setCell ⟨k0.heap.size, 1, none⟩ (.int .i64 (midY ax ay bx b_y))) = u at *
    have HB1 := Lib.hid (below_call HB0.out BU)
    replace P := P.next BU
    replace Q := Q.next BU
    clear BU
    have g0 := Below.refl u.heap.size u
    have t1 : ∀ o : Obj, u.heap.size < (u.alloc o).drew.heap.size := fun o => by show u.heap.size < (u.alloc o).heap.size; simp
    go_wp2
    go_region_held3 (fun u => u.cell? ⟨w.heap.size, 0, none⟩ = some (.int .i64 ax) ∧ u.cell? ⟨w.heap.size, 1, none⟩ = some (.int .i64 ay) ∧ u.cell? ⟨w.heap.size + 1, 0, none⟩ = some (.int .i64 bx) ∧ u.cell? ⟨w.heap.size + 1, 1, none⟩ = some (.int .i64 b_y)) (exact keepN (by repeat (first | (with_reducible assumption) | (with_reducible apply Below.drew) | (with_reducible apply below_more) | (with_reducible refine Below.setCell ?_ (by first | exact Nat.le_refl _ | exact K0.size | exact K1.size | exact K10.size | exact K11.size) _))) P Q) (first
      | (go_at_call_of 24 ax
         refine (moreOf (toPoint ax ay _) u (by repeat (first | (with_reducible assumption) | (with_reducible apply Below.drew) | (with_reducible apply below_more) | (with_reducible refine Below.setCell ?_ (by first | exact Nat.le_refl _ | exact K0.size | exact K1.size | exact K10.size | exact K11.size) _)))).mono ?_
         rintro e k10 ⟨rfl, K10, c10, z10, g10, N10⟩
         try (have s10 : u.heap.size < k10.heap.size := g10 _ (by first | exact s10 | exact t1 _)))
      | (go_at_call_of 24 bx
         refine (moreOf (toPoint bx b_y _) u (by repeat (first | (with_reducible assumption) | (with_reducible apply Below.drew) | (with_reducible apply below_more) | (with_reducible refine Below.setCell ?_ (by first | exact Nat.le_refl _ | exact K0.size | exact K1.size | exact K10.size | exact K11.size) _)))).mono ?_
         rintro e k11 ⟨rfl, K11, c11, z11, g11, N11⟩
         try (have s11 : u.heap.size < k11.heap.size := g11 _ (by first | exact s10 | exact t1 _)))
      | (go_at_call 22
         refine (moreOf (implMidpoint ax ay bx b_y _) u (by repeat (first | (with_reducible assumption) | (with_reducible apply Below.drew) | (with_reducible apply below_more) | (with_reducible refine Below.setCell ?_ (by first | exact Nat.le_refl _ | exact K0.size | exact K1.size | exact K10.size | exact K11.size) _)))).mono ?_
         rintro e k19 ⟨rfl, K19, c19, z19, g19, N19⟩))
    · have V2 : AtP (k19.alloc (.cells #[.int .i64 (midX ax ay bx b_y), .int .i64 (midY ax ay bx b_y)] 24)) (k19.heap.size) (midX ax ay bx b_y) (midY ax ay bx b_y) := AtP.box k19 _ _ 24
      have BU2 : Below u.heap.size u (k19.alloc (.cells #[.int .i64 (midX ax ay bx b_y), .int .i64 (midY ax ay bx b_y)] 24)) := below_more K19 _
      generalize (k19.alloc (.cells #[.int .i64 (midX ax ay bx b_y), .int .i64 (midY ax ay bx b_y)] 24)) = u2 at *
      have HB2 := Lib.hid (below_call HB1.out BU2)
      obtain ⟨i1, i2, i3⟩ := V.next BU2
      obtain ⟨j1, j2, j3⟩ := V2
      clear BU2
      go_wp2_with fail
      refine (eqPoint _ _ _).mono ?_
      rintro e w5 ⟨rfl, B5⟩
      have HB5 := Lib.hid (below_call HB2.out B5)
      go_wp2
      go_ret
      exact ⟨rfl, HB5.out⟩
    · have V2 : AtP ((k19.setCell ⟨k11.heap.size, 0, none⟩ (.int .i64 (midX ax ay bx b_y))).setCell ⟨k11.heap.size, 1, none⟩ (.int .i64 (midY ax ay bx b_y))) (k11.heap.size) (midX ax ay bx b_y) (midY ax ay bx b_y) := ((AtP.box k11 0 0 24).next N19.out).put _ _
      have BU2 : Below u.heap.size u ((k19.setCell ⟨k11.heap.size, 0, none⟩ (.int .i64 (midX ax ay bx b_y))).setCell ⟨k11.heap.size, 1, none⟩ (.int .i64 (midY ax ay bx b_y))) := below_set K19 K11.size _ _
      generalize ((k19.setCell ⟨k11.heap.size, 0, none⟩ (.int .i64 (midX ax ay bx b_y))).setCell ⟨k11.heap.size, 1, none⟩ (.int .i64 (midY ax ay bx b_y))) = u2 at *
      have HB2 := Lib.hid (below_call HB1.out BU2)
      obtain ⟨i1, i2, i3⟩ := V.next BU2
      obtain ⟨j1, j2, j3⟩ := V2
      clear BU2
      go_wp2_with fail
      refine (eqPoint _ _ _).mono ?_
      rintro e w5 ⟨rfl, B5⟩
      have HB5 := Lib.hid (below_call HB2.out B5)
      go_wp2
      go_ret
      exact ⟨rfl, HB5.out⟩
    · have V2 : AtP ((k19.setCell ⟨k10.heap.size, 0, none⟩ (.int .i64 (midX ax ay bx b_y))).setCell ⟨k10.heap.size, 1, none⟩ (.int .i64 (midY ax ay bx b_y))) (k10.heap.size) (midX ax ay bx b_y) (midY ax ay bx b_y) := (((AtP.box k10 0 0 24).next N11.out).next N19.out).put _ _
      have BU2 : Below u.heap.size u ((k19.setCell ⟨k10.heap.size, 0, none⟩ (.int .i64 (midX ax ay bx b_y))).setCell ⟨k10.heap.size, 1, none⟩ (.int .i64 (midY ax ay bx b_y))) := below_set K19 K10.size _ _
      generalize ((k19.setCell ⟨k10.heap.size, 0, none⟩ (.int .i64 (midX ax ay bx b_y))).setCell ⟨k10.heap.size, 1, none⟩ (.int .i64 (midY ax ay bx b_y))) = u2 at *
      have HB2 := Lib.hid (below_call HB1.out BU2)
      obtain ⟨i1, i2, i3⟩ := V.next BU2
      obtain ⟨j1, j2, j3⟩ := V2
      clear BU2
      go_wp2_with fail
      refine (eqPoint _ _ _).mono ?_
      rintro e w5 ⟨rfl, B5⟩
      have HB5 := Lib.hid (below_call HB2.out B5)
      go_wp2
      go_ret
      exact ⟨rfl, HB5.out⟩
    · have V2 : AtP ((k19.setCell ⟨u.heap.size, 0, none⟩ (.int .i64 (midX ax ay bx b_y))).setCell ⟨u.heap.size, 1, none⟩ (.int .i64 (midY ax ay bx b_y))) (u.heap.size) (midX ax ay bx b_y) (midY ax ay bx b_y) := (((((AtP.box u 0 0 24).next (below_drew _)).next N10.out).next N11.out).next N19.out).put _ _
      have BU2 : Below u.heap.size u ((k19.setCell ⟨u.heap.size, 0, none⟩ (.int .i64 (midX ax ay bx b_y))).setCell ⟨u.heap.size, 1, none⟩ (.int .i64 (midY ax ay bx b_y))) := below_set K19 (Nat.le_refl _) _ _
      generalize ((k19.setCell ⟨u.heap.size, 0, none⟩ (.int .i64 (midX ax ay bx b_y))).setCell ⟨u.heap.size, 1, none⟩ (.int .i64 (midY ax ay bx b_y))) = u2 at *
      have HB2 := Lib.hid (below_call HB1.out BU2)
      obtain ⟨i1, i2, i3⟩ := V.next BU2
      obtain ⟨j1, j2, j3⟩ := V2
      clear BU2
      go_wp2_with fail
      refine (eqPoint _ _ _).mono ?_
      rintro e w5 ⟨rfl, B5⟩
      have HB5 := Lib.hid (below_call HB2.out B5)
      go_wp2
      go_ret
      exact ⟨rfl, HB5.out⟩
  · have V : AtP ((k9.setCell ⟨w0.heap.size, 0, none⟩ (.int .i64 (midX ax ay bx b_y))).setCell ⟨w0.heap.size, 1, none⟩ (.int .i64 (midY ax ay bx b_y))) (w0.heap.size) (midX ax ay bx b_y) (midY ax ay bx b_y) := (((((AtP.box w0 0 0 24).next (below_drew _)).next N0.out).next N1.out).next N9.out).put _ _
    have BU : Below w0.heap.size w0 ((k9.setCell ⟨w0.heap.size, 0, none⟩ (.int .i64 (midX ax ay bx b_y))).setCell ⟨w0.heap.size, 1, none⟩ (.int .i64 (midY ax ay bx b_y))) := below_set K9 (Nat.le_refl _) _ _
    generalize ((k9.setCell ⟨w0.heap.size, 0, none⟩ (.int .i64 (midX ax ay bx b_y))).setCell ⟨w0.heap.size, 1, none⟩ (.int .i64 (midY ax ay bx b_y))) = u at *
    have HB1 := Lib.hid (below_call HB0.out BU)
    replace P := P.next BU
    replace Q := Q.next BU
    clear BU
    have g0 := Below.refl u.heap.size u
    have t1 : ∀ o : Obj, u.heap.size < (u.alloc o).drew.heap.size := fun o => by show u.heap.size < (u.alloc o).heap.size; simp
    go_wp2
    go_region_held3 (fun u => u.cell? ⟨w.heap.size, 0, none⟩ = some (.int .i64 ax) ∧ u.cell? ⟨w.heap.size, 1, none⟩ = some (.int .i64 ay) ∧ u.cell? ⟨w.heap.size + 1, 0, none⟩ = some (.int .i64 bx) ∧ u.cell? ⟨w.heap.size + 1, 1, none⟩ = some (.int .i64 b_y)) (exact keepN (by repeat (first | (with_reducible assumption) | (with_reducible apply Below.drew) | (with_reducible apply below_more) | (with_reducible refine Below.setCell ?_ (by first | exact Nat.le_refl _ | exact K0.size | exact K1.size | exact K10.size | exact K11.size) _))) P Q) (first
      | (go_at_call_of 24 ax
         refine (moreOf (toPoint ax ay _) u (by repeat (first | (with_reducible assumption) | (with_reducible apply Below.drew) | (with_reducible apply below_more) | (with_reducible refine Below.setCell ?_ (by first | exact Nat.le_refl _ | exact K0.size | exact K1.size | exact K10.size | exact K11.size) _)))).mono ?_
         rintro e k10 ⟨rfl, K10, c10, z10, g10, N10⟩
         try (have s10 : u.heap.size < k10.heap.size := g10 _ (by first | exact s10 | exact t1 _)))
      | (go_at_call_of 24 bx
         refine (moreOf (toPoint bx b_y _) u (by repeat (first | (with_reducible assumption) | (with_reducible apply Below.drew) | (with_reducible apply below_more) | (with_reducible refine Below.setCell ?_ (by first | exact Nat.le_refl _ | exact K0.size | exact K1.size | exact K10.size | exact K11.size) _)))).mono ?_
         rintro e k11 ⟨rfl, K11, c11, z11, g11, N11⟩
         try (have s11 : u.heap.size < k11.heap.size := g11 _ (by first | exact s10 | exact t1 _)))
      | (go_at_call 22
         refine (moreOf (implMidpoint ax ay bx b_y _) u (by repeat (first | (with_reducible assumption) | (with_reducible apply Below.drew) | (with_reducible apply below_more) | (with_reducible refine Below.setCell ?_ (by first | exact Nat.le_refl _ | exact K0.size | exact K1.size | exact K10.size | exact K11.size) _)))).mono ?_
         rintro e k19 ⟨rfl, K19, c19, z19, g19, N19⟩))
    · have V2 : AtP (k19.alloc (.cells #[.int .i64 (midX ax ay bx b_y), .int .i64 (midY ax ay bx b_y)] 24)) (k19.heap.size) (midX ax ay bx b_y) (midY ax ay bx b_y) := AtP.box k19 _ _ 24
      have BU2 : Below u.heap.size u (k19.alloc (.cells #[.int .i64 (midX ax ay bx b_y), .int .i64 (midY ax ay bx b_y)] 24)) := below_more K19 _
      generalize (k19.alloc (.cells #[.int .i64 (midX ax ay bx b_y), .int .i64 (midY ax ay bx b_y)] 24)) = u2 at *
      have HB2 := Lib.hid (below_call HB1.out BU2)
      obtain ⟨i1, i2, i3⟩ := V.next BU2
      obtain ⟨j1, j2, j3⟩ := V2
      clear BU2
      go_wp2_with fail
      refine (eqPoint _ _ _).mono ?_
      rintro e w5 ⟨rfl, B5⟩
      have HB5 := Lib.hid (below_call HB2.out B5)
      go_wp2
      go_ret
      exact ⟨rfl, HB5.out⟩
    · have V2 : AtP ((k19.setCell ⟨k11.heap.size, 0, none⟩ (.int .i64 (midX ax ay bx b_y))).setCell ⟨k11.heap.size, 1, none⟩ (.int .i64 (midY ax ay bx b_y))) (k11.heap.size) (midX ax ay bx b_y) (midY ax ay bx b_y) := ((AtP.box k11 0 0 24).next N19.out).put _ _
      have BU2 : Below u.heap.size u ((k19.setCell ⟨k11.heap.size, 0, none⟩ (.int .i64 (midX ax ay bx b_y))).setCell ⟨k11.heap.size, 1, none⟩ (.int .i64 (midY ax ay bx b_y))) := below_set K19 K11.size _ _
      generalize ((k19.setCell ⟨k11.heap.size, 0, none⟩ (.int .i64 (midX ax ay bx b_y))).setCell ⟨k11.heap.size, 1, none⟩ (.int .i64 (midY ax ay bx b_y))) = u2 at *
      have HB2 := Lib.hid (below_call HB1.out BU2)
      obtain ⟨i1, i2, i3⟩ := V.next BU2
      obtain ⟨j1, j2, j3⟩ := V2
      clear BU2
      go_wp2_with fail
      refine (eqPoint _ _ _).mono ?_
      rintro e w5 ⟨rfl, B5⟩
      have HB5 := Lib.hid (below_call HB2.out B5)
      go_wp2
      go_ret
      exact ⟨rfl, HB5.out⟩
    · have V2 : AtP ((k19.setCell ⟨k10.heap.size, 0, none⟩ (.int .i64 (midX ax ay bx b_y))).setCell ⟨k10.heap.size, 1, none⟩ (.int .i64 (midY ax ay bx b_y))) (k10.heap.size) (midX ax ay bx b_y) (midY ax ay bx b_y) := (((AtP.box k10 0 0 24).next N11.out).next N19.out).put _ _
      have BU2 : Below u.heap.size u ((k19.setCell ⟨k10.heap.size, 0, none⟩ (.int .i64 (midX ax ay bx b_y))).setCell ⟨k10.heap.size, 1, none⟩ (.int .i64 (midY ax ay bx b_y))) := below_set K19 K10.size _ _
      generalize ((k19.setCell ⟨k10.heap.size, 0, none⟩ (.int .i64 (midX ax ay bx b_y))).setCell ⟨k10.heap.size, 1, none⟩ (.int .i64 (midY ax ay bx b_y))) = u2 at *
      have HB2 := Lib.hid (below_call HB1.out BU2)
      obtain ⟨i1, i2, i3⟩ := V.next BU2
      obtain ⟨j1, j2, j3⟩ := V2
      clear BU2
      go_wp2_with fail
      refine (eqPoint _ _ _).mono ?_
      rintro e w5 ⟨rfl, B5⟩
      have HB5 := Lib.hid (below_call HB2.out B5)
      go_wp2
      go_ret
      exact ⟨rfl, HB5.out⟩
    · have V2 : AtP ((k19.setCell ⟨u.heap.size, 0, none⟩ (.int .i64 (midX ax ay bx b_y))).setCell ⟨u.heap.size, 1, none⟩ (.int .i64 (midY ax ay bx b_y))) (u.heap.size) (midX ax ay bx b_y) (midY ax ay bx b_y) := (((((AtP.box u 0 0 24).next (below_drew _)).next N10.out).next N11.out).next N19.out).put _ _
      have BU2 : Below u.heap.size u ((k19.setCell ⟨u.heap.size, 0, none⟩ (.int .i64 (midX ax ay bx b_y))).setCell ⟨u.heap.size, 1, none⟩ (.int .i64 (midY ax ay bx b_y))) := below_set K19 (Nat.le_refl _) _ _
      generalize ((k19.setCell ⟨u.heap.size, 0, none⟩ (.int .i64 (midX ax ay bx b_y))).setCell ⟨u.heap.size, 1, none⟩ (.int .i64 (midY ax ay bx b_y))) = u2 at *
      have HB2 := Lib.hid (below_call HB1.out BU2)
      obtain ⟨i1, i2, i3⟩ := V.next BU2
      obtain ⟨j1, j2, j3⟩ := V2
      clear BU2
      go_wp2_with fail
      refine (eqPoint _ _ _).mono ?_
      rintro e w5 ⟨rfl, B5⟩
      have HB5 := Lib.hid (below_call HB2.out B5)
      go_wp2
      go_ret
      exact ⟨rfl, HB5.out⟩
end Go.Proofs.Ytkodlhdjibbidaa
