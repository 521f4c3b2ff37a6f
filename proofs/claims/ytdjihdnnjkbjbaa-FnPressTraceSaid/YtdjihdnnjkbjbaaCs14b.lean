/- Motors: the document's BrakeTorque, AimTorque and RunMotor. -/
import Derived.Test.YtdjihdnnjkbjbaaCs14
namespace Go.Proofs.Ytdjihdnnjkbjbaa
set_option maxRecDepth 100000
open Go.RowKit
attribute [local go_sem ↓] Go.wp_at_zero Go.wp_at_succ
end Go.Proofs.Ytdjihdnnjkbjbaa
