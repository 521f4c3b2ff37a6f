/- The reach: the contract of the document's ReachOf. -/
import Derived.Test.YtolkihibjabmhaaDoorArm3
import Derived.Test.YtolkihibjabmhaaDoorNumA
namespace Go.Proofs.YtolkihibjabmhaaDoor
set_option maxRecDepth 100000
open Go.RowKit
attribute [local go_sem ↓] Go.wp_at_zero Go.wp_at_succ

theorem ret_2 {a b c d : Int} (h1 : a = c) (h2 : b = d) : Ending.returned (.tuple #[.int .i64 a, .int .i64 b]) = .returned (.tuple #[.int .i64 c, .int .i64 d]) := by rw [h1, h2]
end Go.Proofs.YtolkihibjabmhaaDoor
