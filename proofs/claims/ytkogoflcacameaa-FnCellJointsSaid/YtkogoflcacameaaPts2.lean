/- The contracts of Orientation, SquaredDistance and Midpoint, of the program and of the document. -/
import Derived.Test.YtkogoflcacameaaPts
import Derived.Deep.RegionWith
import Derived.Deep.DrawnRows
namespace Go.Proofs.Ytkogoflcacameaa
set_option maxRecDepth 100000
open Go.RowKit
attribute [local go_sem ↓] Go.wp_at_zero Go.wp_at_succ

/-- A point lies in block b. -/
structure AtP (w : World) (b : Nat) (x y : Int) : Prop where
  lt : b < w.heap.size
  c0 : w.cell? ⟨b, 0, none⟩ = some (.int .i64 x)
  c1 : w.cell? ⟨b, 1, none⟩ = some (.int .i64 y)
theorem AtP.next {w w' : World} {b : Nat} {x y : Int} (h : AtP w b x y) (hb : Below w.heap.size w w') : AtP w' b x y :=
  ⟨Nat.lt_of_lt_of_le h.lt hb.size, by rw [hb.cell (p := ⟨b, 0, none⟩) h.lt]; exact h.c0, by rw [hb.cell (p := ⟨b, 1, none⟩) h.lt]; exact h.c1⟩
theorem AtP.box (w : World) (x y : Int) (t : Nat) : AtP (w.alloc (.cells #[.int .i64 x, .int .i64 y] t)) w.heap.size x y :=
  ⟨by simp, by simp, by simp⟩
theorem AtP.alloc {w : World} {b : Nat} {x y : Int} (h : AtP w b x y) (o : Obj) : AtP (w.alloc o) b x y := h.next (below_box w o)
theorem at2 (w : World) (ax ay bx b_y : Int) (t : Nat) : let w0 := (w.alloc (.cells #[.int .i64 ax, .int .i64 ay] t)).alloc (.cells #[.int .i64 bx, .int .i64 b_y] t)
    AtP w0 w.heap.size ax ay ∧ AtP w0 (w.heap.size + 1) bx b_y := by
  refine ⟨(AtP.box w ax ay t).alloc _, ?_⟩
  have := AtP.box (w.alloc (.cells #[.int .i64 ax, .int .i64 ay] t)) bx b_y t
  simpa using this
theorem at3 (w : World) (ax ay bx b_y cx cy : Int) (t : Nat) : let w0 := ((w.alloc (.cells #[.int .i64 ax, .int .i64 ay] t)).alloc (.cells #[.int .i64 bx, .int .i64 b_y] t)).alloc (.cells #[.int .i64 cx, .int .i64 cy] t)
    AtP w0 w.heap.size ax ay ∧ AtP w0 (w.heap.size + 1) bx b_y ∧ AtP w0 (w.heap.size + 1 + 1) cx cy := by
  have h := at2 w ax ay bx b_y t
  refine ⟨h.1.alloc _, h.2.alloc _, ?_⟩
  have := AtP.box ((w.alloc (.cells #[.int .i64 ax, .int .i64 ay] t)).alloc (.cells #[.int .i64 bx, .int .i64 b_y] t)) cx cy t
  simpa using this
end Go.Proofs.Ytkogoflcacameaa
