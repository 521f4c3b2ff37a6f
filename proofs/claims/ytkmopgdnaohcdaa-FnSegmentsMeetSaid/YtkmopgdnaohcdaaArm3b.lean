/- Valid angles: the contract of the document's JointsValid. -/
import Derived.Test.YtkmopgdnaohcdaaArm3
namespace Go.Proofs.Ytkmopgdnaohcdaa
set_option maxRecDepth 100000
open Go.RowKit
attribute [local go_sem ↓] Go.wp_at_zero Go.wp_at_succ
end Go.Proofs.Ytkmopgdnaohcdaa
