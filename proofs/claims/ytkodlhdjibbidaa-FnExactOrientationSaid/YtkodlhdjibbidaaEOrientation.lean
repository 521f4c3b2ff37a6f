/- The walk of the law FnExactOrientation: it returns true at every argument. -/
import Derived.Test.YtkodlhdjibbidaaPts3
import Derived.Deep.RegionHeld3
import Derived.OpenShut
namespace Go.Proofs.Ytkodlhdjibbidaa
open Go.RowKit
attribute [local go_sem ↓] Go.wp_at_zero Go.wp_at_succ
theorem below_more {w u : World} (h : Below w.heap.size w u) (o : Obj) : Below w.heap.size w (u.alloc o) := h.alloc h.size o
theorem toPointR (x y : Int) (w0 w : World) (hw : Below w0.heap.size w0 w) :
    Calls Try.prog 24 #[pt x y] w fun e w' => e = .returned (pt x y) ∧ Below w0.heap.size w0 w' :=
  (toPoint x y w).mono fun _ _ ⟨he, hb⟩ => ⟨he, below_call hw hb⟩
theorem keepN {w u : World} {b0 : Nat} {x0 y0 : Int} {b1 : Nat} {x1 y1 : Int} {b2 : Nat} {x2 y2 : Int} (h : Below w.heap.size w u) (A0 : AtP w b0 x0 y0) (A1 : AtP w b1 x1 y1) (A2 : AtP w b2 x2 y2) :
    u.cell? ⟨b0, 0, none⟩ = some (.int .i64 x0) ∧ u.cell? ⟨b0, 1, none⟩ = some (.int .i64 y0) ∧ u.cell? ⟨b1, 0, none⟩ = some (.int .i64 x1) ∧ u.cell? ⟨b1, 1, none⟩ = some (.int .i64 y1) ∧ u.cell? ⟨b2, 0, none⟩ = some (.int .i64 x2) ∧ u.cell? ⟨b2, 1, none⟩ = some (.int .i64 y2) :=
  ⟨(A0.next h).c0, (A0.next h).c1, (A1.next h).c0, (A1.next h).c1, (A2.next h).c0, (A2.next h).c1⟩
theorem specOrientationR (ax ay bx b_y cx cy : Int) (w0 w : World) (hw : Below w0.heap.size w0 w) :
    Calls Try.prog 16 #[pt ax ay, pt bx b_y, pt cx cy] w fun e w' => e = .returned (.int .i64 (oriV ax ay bx b_y cx cy)) ∧ Below w0.heap.size w0 w' :=
  (specOrientation ax ay bx b_y cx cy w).mono fun _ _ ⟨he, hb⟩ => ⟨he, below_call hw hb⟩
theorem implOrientationR (ax ay bx b_y cx cy : Int) (w0 w : World) (hw : Below w0.heap.size w0 w) :
    Calls Try.prog 15 #[pt ax ay, pt bx b_y, pt cx cy] w fun e w' => e = .returned (.int .i64 (oriV ax ay bx b_y cx cy)) ∧ Below w0.heap.size w0 w' :=
  (implOrientation ax ay bx b_y cx cy w).mono fun _ _ ⟨he, hb⟩ => ⟨he, below_call hw hb⟩
set_option maxHeartbeats 2000000 in
theorem walkFnExactOrientation (ax ay bx b_y cx cy : Int) (w : World) :
    Calls Try.prog 8 #[pt ax ay, pt bx b_y, pt cx cy] w fun e w' => e = .returned (.bool true) ∧ Below w.heap.size w w' := by
  have HB0 := Lib.hid (below_box3 w (.cells #[.int .i64 ax, .int .i64 ay] 36) (.cells #[.int .i64 bx, .int .i64 b_y] 36) (.cells #[.int .i64 cx, .int .i64 cy] 36))
  obtain ⟨P, Q, R⟩ := at3 w ax ay bx b_y cx cy 36
  have e0 : (oriV ax ay bx b_y cx cy != oriV ax ay bx b_y cx cy) = false := by simp
  go_enter Try.func8, Try.ntmps8
  go_wp2
  have g0 := Below.refl (((w.alloc (.cells #[.int .i64 ax, .int .i64 ay] 36)).alloc (.cells #[.int .i64 bx, .int .i64 b_y] 36)).alloc (.cells #[.int .i64 cx, .int .i64 cy] 36)).heap.size (((w.alloc (.cells #[.int .i64 ax, .int .i64 ay] 36)).alloc (.cells #[.int .i64 bx, .int .i64 b_y] 36)).alloc (.cells #[.int .i64 cx, .int .i64 cy] 36))
  generalize (((w.alloc (.cells #[.int .i64 ax, .int .i64 ay] 36)).alloc (.cells #[.int .i64 bx, .int .i64 b_y] 36)).alloc (.cells #[.int .i64 cx, .int .i64 cy] 36)) = w0 at *
  go_region_held3 (fun u => u.cell? ⟨w.heap.size, 0, none⟩ = some (.int .i64 ax) ∧ u.cell? ⟨w.heap.size, 1, none⟩ = some (.int .i64 ay) ∧ u.cell? ⟨w.heap.size + 1, 0, none⟩ = some (.int .i64 bx) ∧ u.cell? ⟨w.heap.size + 1, 1, none⟩ = some (.int .i64 b_y) ∧ u.cell? ⟨w.heap.size + 1 + 1, 0, none⟩ = some (.int .i64 cx) ∧ u.cell? ⟨w.heap.size + 1 + 1, 1, none⟩ = some (.int .i64 cy)) (exact keepN (by repeat (first | (with_reducible assumption) | (with_reducible apply Below.drew) | (with_reducible apply below_more))) P Q R) (first
    | (go_at_call_of 24 ax
       refine (toPointR ax ay w0 _ (by repeat (first | (with_reducible assumption) | (with_reducible apply Below.drew) | (with_reducible apply below_more)))).mono ?_
       rintro e k0 ⟨rfl, K0⟩)
    | (go_at_call_of 24 bx
       refine (toPointR bx b_y w0 _ (by repeat (first | (with_reducible assumption) | (with_reducible apply Below.drew) | (with_reducible apply below_more)))).mono ?_
       rintro e k1 ⟨rfl, K1⟩)
    | (go_at_call_of 24 cx
       refine (toPointR cx cy w0 _ (by repeat (first | (with_reducible assumption) | (with_reducible apply Below.drew) | (with_reducible apply below_more)))).mono ?_
       rintro e k2 ⟨rfl, K2⟩)
    | (go_at_call 16
       refine (specOrientationR ax ay bx b_y cx cy w0 _ (by repeat (first | (with_reducible assumption) | (with_reducible apply Below.drew) | (with_reducible apply below_more)))).mono ?_
       rintro e k9 ⟨rfl, K9⟩))
  all_goals
    have HB1 := Lib.hid (below_call HB0.out K9)
    replace P := P.next K9
    replace Q := Q.next K9
    replace R := R.next K9
    clear K0 K1 K2 K9 g0
    go_wp2
    have g1 := Below.refl k9.heap.size k9
    go_region_held3 (fun u => u.cell? ⟨w.heap.size, 0, none⟩ = some (.int .i64 ax) ∧ u.cell? ⟨w.heap.size, 1, none⟩ = some (.int .i64 ay) ∧ u.cell? ⟨w.heap.size + 1, 0, none⟩ = some (.int .i64 bx) ∧ u.cell? ⟨w.heap.size + 1, 1, none⟩ = some (.int .i64 b_y) ∧ u.cell? ⟨w.heap.size + 1 + 1, 0, none⟩ = some (.int .i64 cx) ∧ u.cell? ⟨w.heap.size + 1 + 1, 1, none⟩ = some (.int .i64 cy)) (exact keepN (by repeat (first | (with_reducible assumption) | (with_reducible apply Below.drew) | (with_reducible apply below_more))) P Q R) (first
      | (go_at_call_of 24 ax
         refine (toPointR ax ay k9 _ (by repeat (first | (with_reducible assumption) | (with_reducible apply Below.drew) | (with_reducible apply below_more)))).mono ?_
         rintro e k10 ⟨rfl, K10⟩)
      | (go_at_call_of 24 bx
         refine (toPointR bx b_y k9 _ (by repeat (first | (with_reducible assumption) | (with_reducible apply Below.drew) | (with_reducible apply below_more)))).mono ?_
         rintro e k11 ⟨rfl, K11⟩)
      | (go_at_call_of 24 cx
         refine (toPointR cx cy k9 _ (by repeat (first | (with_reducible assumption) | (with_reducible apply Below.drew) | (with_reducible apply below_more)))).mono ?_
         rintro e k12 ⟨rfl, K12⟩)
      | (go_at_call 15
         refine (implOrientationR ax ay bx b_y cx cy k9 _ (by repeat (first | (with_reducible assumption) | (with_reducible apply Below.drew) | (with_reducible apply below_more)))).mono ?_
         rintro e k19 ⟨rfl, K19⟩))
    all_goals
      have HB2 := Lib.hid (below_call HB1.out K19)
      go_wp2
      go_ret
      exact ⟨rfl, HB2.out⟩
end Go.Proofs.Ytkodlhdjibbidaa
