/- The document's functions on polygons: calls joined by '&&'. -/
import Derived.Test.YtcifokihellcdaaDoorZbDh
namespace Go.Proofs.YtcifokihellcdaaDoor
set_option maxRecDepth 100000
open Go.RowKit
attribute [local go_sem ↓] Go.wp_at_zero Go.wp_at_succ
theorem specPointValidC (p : P2) (w : World) : Calls Tryd.prog 83 #[pt p.1 p.2] w fun e w' => e = .returned (.bool (decide (okQ p))) ∧ Below w.heap.size w w' := specPointValid p.1 p.2 w
end Go.Proofs.YtcifokihellcdaaDoor
