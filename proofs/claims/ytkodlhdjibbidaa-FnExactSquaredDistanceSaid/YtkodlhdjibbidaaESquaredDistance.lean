/- The walk of the law FnExactSquaredDistance: it returns true at every argument. -/
import Derived.Test.YtkodlhdjibbidaaPts3
import Derived.Deep.RegionHeld3
import Derived.OpenShut
namespace Go.Proofs.Ytkodlhdjibbidaa
open Go.RowKit
attribute [local go_sem ↓] Go.wp_at_zero Go.wp_at_succ
theorem below_more {w u : World} (h : Below w.heap.size w u) (o : Obj) : Below w.heap.size w (u.alloc o) := h.alloc h.size o
theorem toPointR (x y : Int) (w0 w : World) (hw : Below w0.heap.size w0 w) :
    Calls Try.prog 24 #[pt x y] w fun e w' => e = .returned (pt x y) ∧ Below w0.heap.size w0 w' :=
  (toPoint x y w).mono fun _ _ ⟨he, hb⟩ => ⟨he, below_call hw hb⟩
theorem keepN {w u : World} {b0 : Nat} {x0 y0 : Int} {b1 : Nat} {x1 y1 : Int} (h : Below w.heap.size w u) (A0 : AtP w b0 x0 y0) (A1 : AtP w b1 x1 y1) :
    u.cell? ⟨b0, 0, none⟩ = some (.int .i64 x0) ∧ u.cell? ⟨b0, 1, none⟩ = some (.int .i64 y0) ∧ u.cell? ⟨b1, 0, none⟩ = some (.int .i64 x1) ∧ u.cell? ⟨b1, 1, none⟩ = some (.int .i64 y1) :=
  ⟨(A0.next h).c0, (A0.next h).c1, (A1.next h).c0, (A1.next h).c1⟩
theorem specSquaredDistanceR (ax ay bx b_y : Int) (w0 w : World) (hw : Below w0.heap.size w0 w) :
    Calls Try.prog 20 #[pt ax ay, pt bx b_y] w fun e w' => e = .returned (.int .i64 (sqV ax ay bx b_y)) ∧ Below w0.heap.size w0 w' :=
  (specSquaredDistance ax ay bx b_y w).mono fun _ _ ⟨he, hb⟩ => ⟨he, below_call hw hb⟩
theorem implSquaredDistanceR (ax ay bx b_y : Int) (w0 w : World) (hw : Below w0.heap.size w0 w) :
    Calls Try.prog 19 #[pt ax ay, pt bx b_y] w fun e w' => e = .returned (.int .i64 (sqV ax ay bx b_y)) ∧ Below w0.heap.size w0 w' :=
  (implSquaredDistance ax ay bx b_y w).mono fun _ _ ⟨he, hb⟩ => ⟨he, below_call hw hb⟩
set_option maxHeartbeats 2000000 in
theorem walkFnExactSquaredDistance (ax ay bx b_y : Int) (w : World) :
    Calls Try.prog 9 #[pt ax ay, pt bx b_y] w fun e w' => e = .returned (.bool true) ∧ Below w.heap.size w w' := by
  have HB0 := Lib.hid (below_box2 w (.cells #[.int .i64 ax, .int .i64 ay] 36) (.cells #[.int .i64 bx, .int .i64 b_y] 36))
  obtain ⟨P, Q⟩ := at2 w ax ay bx b_y 36
  have e0 : (sqV ax ay bx b_y != sqV ax ay bx b_y) = false := by simp
  go_enter Try.func9, Try.ntmps9
  go_wp2
  have g0 := Below.refl ((w.alloc (.cells #[.int .i64 ax, .int .i64 ay] 36)).alloc (.cells #[.int .i64 bx, .int .i64 b_y] 36)).heap.size ((w.alloc (.cells #[.int .i64 ax, .int .i64 ay] 36)).alloc (.cells #[.int .i64 bx, .int .i64 b_y] 36))
  generalize ((w.alloc (.cells #[.int .i64 ax, .int .i64 ay] 36)).alloc (.cells #[.int .i64 bx, .int .i64 b_y] 36)) = w0 at *
  go_region_held3 (fun u => u.cell? ⟨w.heap.size, 0, none⟩ = some (.int .i64 ax) ∧ u.cell? ⟨w.heap.size, 1, none⟩ = some (.int .i64 ay) ∧ u.cell? ⟨w.heap.size + 1, 0, none⟩ = some (.int .i64 bx) ∧ u.cell? ⟨w.heap.size + 1, 1, none⟩ = some (.int .i64 b_y)) (exact keepN (by repeat (first | (with_reducible assumption) | (with_reducible apply Below.drew) | (with_reducible apply below_more))) P Q) (first
    | (go_at_call_of 24 ax
       refine (toPointR ax ay w0 _ (by repeat (first | (with_reducible assumption) | (with_reducible apply Below.drew) | (with_reducible apply below_more)))).mono ?_
       rintro e k0 ⟨rfl, K0⟩)
    | (go_at_call_of 24 bx
       refine (toPointR bx b_y w0 _ (by repeat (first | (with_reducible assumption) | (with_reducible apply Below.drew) | (with_reducible apply below_more)))).mono ?_
       rintro e k1 ⟨rfl, K1⟩)
    | (go_at_call 20
       refine (specSquaredDistanceR ax ay bx b_y w0 _ (by repeat (first | (with_reducible assumption) | (with_reducible apply Below.drew) | (with_reducible apply below_more)))).mono ?_
       rintro e k9 ⟨rfl, K9⟩))
  all_goals
    have HB1 := Lib.hid (below_call HB0.out K9)
    replace P := P.next K9
    replace Q := Q.next K9
    clear K0 K1 K9 g0
    go_wp2
    have g1 := Below.refl k9.heap.size k9
    go_region_held3 (fun u => u.cell? ⟨w.heap.size, 0, none⟩ = some (.int .i64 ax) ∧ u.cell? ⟨w.heap.size, 1, none⟩ = some (.int .i64 ay) ∧ u.cell? ⟨w.heap.size + 1, 0, none⟩ = some (.int .i64 bx) ∧ u.cell? ⟨w.heap.size + 1, 1, none⟩ = some (.int .i64 b_y)) (exact keepN (by repeat (first | (with_reducible assumption) | (with_reducible apply Below.drew) | (with_reducible apply below_more))) P Q) (first
      | (go_at_call_of 24 ax
         refine (toPointR ax ay k9 _ (by repeat (first | (with_reducible assumption) | (with_reducible apply Below.drew) | (with_reducible apply below_more)))).mono ?_
         rintro e k10 ⟨rfl, K10⟩)
      | (go_at_call_of 24 bx
         refine (toPointR bx b_y k9 _ (by repeat (first | (with_reducible assumption) | (with_reducible apply Below.drew) | (with_reducible apply below_more)))).mono ?_
         rintro e k11 ⟨rfl, K11⟩)
      | (go_at_call 19
         refine (implSquaredDistanceR ax ay bx b_y k9 _ (by repeat (first | (with_reducible assumption) | (with_reducible apply Below.drew) | (with_reducible apply below_more)))).mono ?_
         rintro e k19 ⟨rfl, K19⟩))
    all_goals
      have HB2 := Lib.hid (below_call HB1.out K19)
      go_wp2
      go_ret
      exact ⟨rfl, HB2.out⟩
end Go.Proofs.Ytkodlhdjibbidaa
