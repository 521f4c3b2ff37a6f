/- The contracts of the functions on points, without the table of sines: what each returns, with nothing changed that was there. -/
import Derived.Test.YtkogoflcacameaaBase
import Derived.Test.YtkogoflcacameaaNum2
import Derived.Below
import Derived.Laws.StructEq
namespace Go.Proofs.Ytkogoflcacameaa
set_option maxRecDepth 100000
open Go.RowKit

/-- A point's value. -/
abbrev pt (x y : Int) : Value := .agg #[.int .i64 x, .int .i64 y]
theorem below_call {w w1 w2 : World} (h : Below w.heap.size w w1) (h2 : Below w1.heap.size w1 w2) : Below w.heap.size w w2 := h.trans (h2.mono h.size)
theorem below_box (w : World) (o : Obj) : Below w.heap.size w (w.alloc o) := (Below.refl w.heap.size w).alloc (Nat.le_refl _) o
theorem below_box2 (w : World) (a b : Obj) : Below w.heap.size w ((w.alloc a).alloc b) := below_call (below_box w a) (below_box _ b)
theorem below_box3 (w : World) (a b c : Obj) : Below w.heap.size w (((w.alloc a).alloc b).alloc c) := below_call (below_box2 w a b) (below_box _ c)
theorem below_box4 (w : World) (a b c d : Obj) : Below w.heap.size w ((((w.alloc a).alloc b).alloc c).alloc d) := below_call (below_box3 w a b c) (below_box _ d)
end Go.Proofs.Ytkogoflcacameaa
