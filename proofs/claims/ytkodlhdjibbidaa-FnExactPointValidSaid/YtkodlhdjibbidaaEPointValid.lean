/- The walk of the law FnExactPointValid: it returns true at every argument. -/
import Derived.Test.YtkodlhdjibbidaaPts3
import Derived.Deep.RegionHeld3
import Derived.OpenShut
namespace Go.Proofs.Ytkodlhdjibbidaa
open Go.RowKit
attribute [local go_sem ↓] Go.wp_at_zero Go.wp_at_succ
theorem below_more {w u : World} (h : Below w.heap.size w u) (o : Obj) : Below w.heap.size w (u.alloc o) := h.alloc h.size o
theorem toPointR (x y : Int) (w0 w : World) (hw : Below w0.heap.size w0 w) :
    Calls Try.prog 24 #[pt x y] w fun e w' => e = .returned (pt x y) ∧ Below w0.heap.size w0 w' :=
  (toPoint x y w).mono fun _ _ ⟨he, hb⟩ => ⟨he, below_call hw hb⟩
theorem keepN {w u : World} {b0 : Nat} {x0 y0 : Int} (h : Below w.heap.size w u) (A0 : AtP w b0 x0 y0) :
    u.cell? ⟨b0, 0, none⟩ = some (.int .i64 x0) ∧ u.cell? ⟨b0, 1, none⟩ = some (.int .i64 y0) :=
  ⟨(A0.next h).c0, (A0.next h).c1⟩
theorem specPointValidR (ax ay : Int) (w0 w : World) (hw : Below w0.heap.size w0 w) :
    Calls Try.prog 13 #[pt ax ay] w fun e w' => e = .returned (.bool (decide (okP ax ay))) ∧ Below w0.heap.size w0 w' :=
  (specPointValid ax ay w).mono fun _ _ ⟨he, hb⟩ => ⟨he, below_call hw hb⟩
theorem implPointValidR (ax ay : Int) (w0 w : World) (hw : Below w0.heap.size w0 w) :
    Calls Try.prog 12 #[pt ax ay] w fun e w' => e = .returned (.bool (decide (okP ax ay))) ∧ Below w0.heap.size w0 w' :=
  (implPointValid ax ay w).mono fun _ _ ⟨he, hb⟩ => ⟨he, below_call hw hb⟩
set_option maxHeartbeats 2000000 in
theorem walkFnExactPointValid (ax ay : Int) (w : World) :
    Calls Try.prog 7 #[pt ax ay] w fun e w' => e = .returned (.bool true) ∧ Below w.heap.size w w' := by
  have HB0 := Lib.hid (below_box w (.cells #[.int .i64 ax, .int .i64 ay] 36))
  have P := AtP.box w ax ay 36
  have e0 : (decide (okP ax ay) != decide (okP ax ay)) = false := by simp
  obtain ⟨p1, p2, p3⟩ := id P
  go_enter Try.func7, Try.ntmps7
  go_wp2_with fail
  refine (toPoint ax ay _).mono ?_
  rintro e w1 ⟨rfl, B1⟩
  replace HB0 := Lib.hid (below_call HB0.out B1)
  clear p1 p2 p3
  replace P := P.next B1
  obtain ⟨p1, p2, p3⟩ := id P
  go_wp2_with fail
  refine (specPointValid ax ay _).mono ?_
  rintro e w2 ⟨rfl, B2⟩
  replace HB0 := Lib.hid (below_call HB0.out B2)
  clear p1 p2 p3
  replace P := P.next B2
  obtain ⟨p1, p2, p3⟩ := id P
  go_wp2_with fail
  refine (toPoint ax ay _).mono ?_
  rintro e w3 ⟨rfl, B3⟩
  replace HB0 := Lib.hid (below_call HB0.out B3)
  clear p1 p2 p3
  replace P := P.next B3
  obtain ⟨p1, p2, p3⟩ := id P
  go_wp2_with fail
  refine (implPointValid ax ay _).mono ?_
  rintro e w4 ⟨rfl, B4⟩
  replace HB0 := Lib.hid (below_call HB0.out B4)
  clear p1 p2 p3
  replace P := P.next B4
  obtain ⟨p1, p2, p3⟩ := id P
  go_wp2
  go_ret
  exact ⟨rfl, HB0.out⟩
end Go.Proofs.Ytkodlhdjibbidaa
