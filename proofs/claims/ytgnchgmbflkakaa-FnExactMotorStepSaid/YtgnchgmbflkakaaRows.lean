/-
  No cell of these rows narrows 'for every input' (looked for: loops, veiled, ifaces, maps, wideKeys, modest, calm, conditions, laid).
  DERIVED. THE GIVEN ROWS OF THIS SEAT. 11 by the template 'for every input the law returns true; each argument reads behind the call as it read before'; 0 by the template 'total and deterministic' (their statements: YtgnchgmbflkakaaTotals.lean).
  GIVEN WITH THE SEED: the statements are not yours to turn. If you find one false, say at which input.
  Laid BY PROGRAM, IN A SANDBOX (cutbox-rows.mjs): the forced cells as the released guide's own fill.sh prints them over the translation dd2ab269bfd9990d… (all of the seat's roots in one cut). By AI agents, Wed Nov 11 2026. No macro, syntax, notation, axiom, sorry.
-/
import Derived.Test.YtgnchgmbflkakaaChecked
import GoSem.Claim
import GoSem.ClaimJoined
import GoSem.ClaimMapViews
import Derived.JoinedTies
import Derived.KernelRfl
namespace Go.Proofs.Ytgnchgmbflkakaa
/- THE CELL 'sum', in the pinned program and in every row, IS THE sha256 OF THE DUMP (.gsa) THAT YtgnchgmbflkakaaProg.lean LOADS. Nothing in Lean hashes anything: it is a label: what it is worth is what the hold of that sum in a sandbox is worth. -/
noncomputable def Try.pinned : Pinned := { name := "ytgnchgmbflkakaa", sum := "dd2ab269bfd9990dc8caa905036cda5d92365ac6e693df65096aa63b93e7bac6", checked := Try.checked }
namespace Rows
def none {H : Type} : Left H := { results := [], args := [] }

/-- 'laws.FnMotorValid': WHATEVER THE INPUT: true; the input reads as it did. -/
def fnMotorValidSpec : ChangeSpec := { name := "fnMotorValid", fn := fun _ => fun
  | [d] => { results := [.lit (.bool true)], args := [d] }
  | _ => none }
def fnMotorValidRow : OpenClaim := { program := "ytgnchgmbflkakaa", sum := "dd2ab269bfd9990dc8caa905036cda5d92365ac6e693df65096aa63b93e7bac6", func := "loop.example/robotcell/laws.FnMotorValid", spec := "fnMotorValid", apart := false }
def FnMotorValidSaid : Prop := fnMotorValidRow.holds Try.pinned (OpenSpec.ofChange fnMotorValidSpec)

/-- ITS FALSE NEIGHBOUR: 'it returns false'. Refute it at one input. -/
def fnMotorValidWrong : ChangeSpec := { name := "fnMotorValid", fn := fun _ => fun
  | [d] => { results := [.lit (.bool false)], args := [d] }
  | _ => none }
def FnMotorValidWrongFalsely : Prop := fnMotorValidRow.holds Try.pinned (OpenSpec.ofChange fnMotorValidWrong)

/-- 'laws.FnMotorStep': WHATEVER THE INPUT: true; the input reads as it did. -/
def fnMotorStepSpec : ChangeSpec := { name := "fnMotorStep", fn := fun _ => fun
  | [d] => { results := [.lit (.bool true)], args := [d] }
  | _ => none }
def fnMotorStepRow : OpenClaim := { program := "ytgnchgmbflkakaa", sum := "dd2ab269bfd9990dc8caa905036cda5d92365ac6e693df65096aa63b93e7bac6", func := "loop.example/robotcell/laws.FnMotorStep", spec := "fnMotorStep", apart := false }
def FnMotorStepSaid : Prop := fnMotorStepRow.holds Try.pinned (OpenSpec.ofChange fnMotorStepSpec)

/-- ITS FALSE NEIGHBOUR: 'it returns false'. Refute it at one input. -/
def fnMotorStepWrong : ChangeSpec := { name := "fnMotorStep", fn := fun _ => fun
  | [d] => { results := [.lit (.bool false)], args := [d] }
  | _ => none }
def FnMotorStepWrongFalsely : Prop := fnMotorStepRow.holds Try.pinned (OpenSpec.ofChange fnMotorStepWrong)

/-- 'laws.FnBrakeTorque': WHATEVER THE INPUT: true; the input reads as it did. -/
def fnBrakeTorqueSpec : ChangeSpec := { name := "fnBrakeTorque", fn := fun _ => fun
  | [d] => { results := [.lit (.bool true)], args := [d] }
  | _ => none }
def fnBrakeTorqueRow : OpenClaim := { program := "ytgnchgmbflkakaa", sum := "dd2ab269bfd9990dc8caa905036cda5d92365ac6e693df65096aa63b93e7bac6", func := "loop.example/robotcell/laws.FnBrakeTorque", spec := "fnBrakeTorque", apart := false }
def FnBrakeTorqueSaid : Prop := fnBrakeTorqueRow.holds Try.pinned (OpenSpec.ofChange fnBrakeTorqueSpec)

/-- ITS FALSE NEIGHBOUR: 'it returns false'. Refute it at one input. -/
def fnBrakeTorqueWrong : ChangeSpec := { name := "fnBrakeTorque", fn := fun _ => fun
  | [d] => { results := [.lit (.bool false)], args := [d] }
  | _ => none }
def FnBrakeTorqueWrongFalsely : Prop := fnBrakeTorqueRow.holds Try.pinned (OpenSpec.ofChange fnBrakeTorqueWrong)

/-- 'laws.FnAimTorque': WHATEVER THE INPUT: true; the input reads as it did. -/
def fnAimTorqueSpec : ChangeSpec := { name := "fnAimTorque", fn := fun _ => fun
  | [d] => { results := [.lit (.bool true)], args := [d] }
  | _ => none }
def fnAimTorqueRow : OpenClaim := { program := "ytgnchgmbflkakaa", sum := "dd2ab269bfd9990dc8caa905036cda5d92365ac6e693df65096aa63b93e7bac6", func := "loop.example/robotcell/laws.FnAimTorque", spec := "fnAimTorque", apart := false }
def FnAimTorqueSaid : Prop := fnAimTorqueRow.holds Try.pinned (OpenSpec.ofChange fnAimTorqueSpec)

/-- ITS FALSE NEIGHBOUR: 'it returns false'. Refute it at one input. -/
def fnAimTorqueWrong : ChangeSpec := { name := "fnAimTorque", fn := fun _ => fun
  | [d] => { results := [.lit (.bool false)], args := [d] }
  | _ => none }
def FnAimTorqueWrongFalsely : Prop := fnAimTorqueRow.holds Try.pinned (OpenSpec.ofChange fnAimTorqueWrong)

/-- 'laws.FnRunMotor': WHATEVER THE INPUT: true; the input reads as it did. -/
def fnRunMotorSpec : ChangeSpec := { name := "fnRunMotor", fn := fun _ => fun
  | [d] => { results := [.lit (.bool true)], args := [d] }
  | _ => none }
def fnRunMotorRow : OpenClaim := { program := "ytgnchgmbflkakaa", sum := "dd2ab269bfd9990dc8caa905036cda5d92365ac6e693df65096aa63b93e7bac6", func := "loop.example/robotcell/laws.FnRunMotor", spec := "fnRunMotor", apart := false }
def FnRunMotorSaid : Prop := fnRunMotorRow.holds Try.pinned (OpenSpec.ofChange fnRunMotorSpec)

/-- ITS FALSE NEIGHBOUR: 'it returns false'. Refute it at one input. -/
def fnRunMotorWrong : ChangeSpec := { name := "fnRunMotor", fn := fun _ => fun
  | [d] => { results := [.lit (.bool false)], args := [d] }
  | _ => none }
def FnRunMotorWrongFalsely : Prop := fnRunMotorRow.holds Try.pinned (OpenSpec.ofChange fnRunMotorWrong)

/-- 'laws.FnMotorRest': WHATEVER THE INPUT: true; the input reads as it did. -/
def fnMotorRestSpec : ChangeSpec := { name := "fnMotorRest", fn := fun _ => fun
  | [d] => { results := [.lit (.bool true)], args := [d] }
  | _ => none }
def fnMotorRestRow : OpenClaim := { program := "ytgnchgmbflkakaa", sum := "dd2ab269bfd9990dc8caa905036cda5d92365ac6e693df65096aa63b93e7bac6", func := "loop.example/robotcell/laws.FnMotorRest", spec := "fnMotorRest", apart := false }
def FnMotorRestSaid : Prop := fnMotorRestRow.holds Try.pinned (OpenSpec.ofChange fnMotorRestSpec)

/-- ITS FALSE NEIGHBOUR: 'it returns false'. Refute it at one input. -/
def fnMotorRestWrong : ChangeSpec := { name := "fnMotorRest", fn := fun _ => fun
  | [d] => { results := [.lit (.bool false)], args := [d] }
  | _ => none }
def FnMotorRestWrongFalsely : Prop := fnMotorRestRow.holds Try.pinned (OpenSpec.ofChange fnMotorRestWrong)

/-- 'laws.FnExactMotorValid': WHATEVER THE INPUT: true; the input reads as it did. -/
def fnExactMotorValidSpec : ChangeSpec := { name := "fnExactMotorValid", fn := fun _ => fun
  | [d] => { results := [.lit (.bool true)], args := [d] }
  | _ => none }
def fnExactMotorValidRow : OpenClaim := { program := "ytgnchgmbflkakaa", sum := "dd2ab269bfd9990dc8caa905036cda5d92365ac6e693df65096aa63b93e7bac6", func := "loop.example/robotcell/laws.FnExactMotorValid", spec := "fnExactMotorValid", apart := false }
def FnExactMotorValidSaid : Prop := fnExactMotorValidRow.holds Try.pinned (OpenSpec.ofChange fnExactMotorValidSpec)

/-- ITS FALSE NEIGHBOUR: 'it returns false'. Refute it at one input. -/
def fnExactMotorValidWrong : ChangeSpec := { name := "fnExactMotorValid", fn := fun _ => fun
  | [d] => { results := [.lit (.bool false)], args := [d] }
  | _ => none }
def FnExactMotorValidWrongFalsely : Prop := fnExactMotorValidRow.holds Try.pinned (OpenSpec.ofChange fnExactMotorValidWrong)

/-- 'laws.FnExactMotorStep': WHATEVER THE INPUT: true; the input reads as it did. -/
def fnExactMotorStepSpec : ChangeSpec := { name := "fnExactMotorStep", fn := fun _ => fun
  | [d1, d2, d3] => { results := [.lit (.bool true)], args := [d1, d2, d3] }
  | _ => none }
def fnExactMotorStepRow : OpenClaim := { program := "ytgnchgmbflkakaa", sum := "dd2ab269bfd9990dc8caa905036cda5d92365ac6e693df65096aa63b93e7bac6", func := "loop.example/robotcell/laws.FnExactMotorStep", spec := "fnExactMotorStep", apart := false }
def FnExactMotorStepSaid : Prop := fnExactMotorStepRow.holds Try.pinned (OpenSpec.ofChange fnExactMotorStepSpec)

/-- ITS FALSE NEIGHBOUR: 'it returns false'. Refute it at one input. -/
def fnExactMotorStepWrong : ChangeSpec := { name := "fnExactMotorStep", fn := fun _ => fun
  | [d1, d2, d3] => { results := [.lit (.bool false)], args := [d1, d2, d3] }
  | _ => none }
def FnExactMotorStepWrongFalsely : Prop := fnExactMotorStepRow.holds Try.pinned (OpenSpec.ofChange fnExactMotorStepWrong)

/-- 'laws.FnExactBrakeTorque': WHATEVER THE INPUT: true; the input reads as it did. -/
def fnExactBrakeTorqueSpec : ChangeSpec := { name := "fnExactBrakeTorque", fn := fun _ => fun
  | [d] => { results := [.lit (.bool true)], args := [d] }
  | _ => none }
def fnExactBrakeTorqueRow : OpenClaim := { program := "ytgnchgmbflkakaa", sum := "dd2ab269bfd9990dc8caa905036cda5d92365ac6e693df65096aa63b93e7bac6", func := "loop.example/robotcell/laws.FnExactBrakeTorque", spec := "fnExactBrakeTorque", apart := false }
def FnExactBrakeTorqueSaid : Prop := fnExactBrakeTorqueRow.holds Try.pinned (OpenSpec.ofChange fnExactBrakeTorqueSpec)

/-- ITS FALSE NEIGHBOUR: 'it returns false'. Refute it at one input. -/
def fnExactBrakeTorqueWrong : ChangeSpec := { name := "fnExactBrakeTorque", fn := fun _ => fun
  | [d] => { results := [.lit (.bool false)], args := [d] }
  | _ => none }
def FnExactBrakeTorqueWrongFalsely : Prop := fnExactBrakeTorqueRow.holds Try.pinned (OpenSpec.ofChange fnExactBrakeTorqueWrong)

/-- 'laws.FnExactAimTorque': WHATEVER THE INPUT: true; the input reads as it did. -/
def fnExactAimTorqueSpec : ChangeSpec := { name := "fnExactAimTorque", fn := fun _ => fun
  | [d1, d2, d3, d4] => { results := [.lit (.bool true)], args := [d1, d2, d3, d4] }
  | _ => none }
def fnExactAimTorqueRow : OpenClaim := { program := "ytgnchgmbflkakaa", sum := "dd2ab269bfd9990dc8caa905036cda5d92365ac6e693df65096aa63b93e7bac6", func := "loop.example/robotcell/laws.FnExactAimTorque", spec := "fnExactAimTorque", apart := false }
def FnExactAimTorqueSaid : Prop := fnExactAimTorqueRow.holds Try.pinned (OpenSpec.ofChange fnExactAimTorqueSpec)

/-- ITS FALSE NEIGHBOUR: 'it returns false'. Refute it at one input. -/
def fnExactAimTorqueWrong : ChangeSpec := { name := "fnExactAimTorque", fn := fun _ => fun
  | [d1, d2, d3, d4] => { results := [.lit (.bool false)], args := [d1, d2, d3, d4] }
  | _ => none }
def FnExactAimTorqueWrongFalsely : Prop := fnExactAimTorqueRow.holds Try.pinned (OpenSpec.ofChange fnExactAimTorqueWrong)

/-- 'laws.FnExactRunMotor': WHATEVER THE INPUT: true; the input reads as it did. -/
def fnExactRunMotorSpec : ChangeSpec := { name := "fnExactRunMotor", fn := fun _ => fun
  | [d1, d2, d3, d4, d5, d6] => { results := [.lit (.bool true)], args := [d1, d2, d3, d4, d5, d6] }
  | _ => none }
def fnExactRunMotorRow : OpenClaim := { program := "ytgnchgmbflkakaa", sum := "dd2ab269bfd9990dc8caa905036cda5d92365ac6e693df65096aa63b93e7bac6", func := "loop.example/robotcell/laws.FnExactRunMotor", spec := "fnExactRunMotor", apart := false }
def FnExactRunMotorSaid : Prop := fnExactRunMotorRow.holds Try.pinned (OpenSpec.ofChange fnExactRunMotorSpec)

/-- ITS FALSE NEIGHBOUR: 'it returns false'. Refute it at one input. -/
def fnExactRunMotorWrong : ChangeSpec := { name := "fnExactRunMotor", fn := fun _ => fun
  | [d1, d2, d3, d4, d5, d6] => { results := [.lit (.bool false)], args := [d1, d2, d3, d4, d5, d6] }
  | _ => none }
def FnExactRunMotorWrongFalsely : Prop := fnExactRunMotorRow.holds Try.pinned (OpenSpec.ofChange fnExactRunMotorWrong)

/- THE SECOND FORM. 'bulk': how many values and letters a reading holds, each counted each time it is reached (what is shared counts as often as it is met; a slice's spare places count too). A statement '..UptoSaid' is the law's where the arguments, and the package variables that the reading takes, are together of bulk at most 1048576: NARROWER than '..Said'. Prove '..Said' where nothing that the law and all that it calls make is longer than what came in: it says more and counts as full. Else prove '..UptoSaid'. A law counts once. -/
mutual
def uptoBulk {H : Type} : DataW H → Nat
  | .lit (.string bytes) => bytes.length + 1
  | .lit _ => 1
  | .nil => 1
  | .ptr d => uptoBulk d + 1
  | .slice elems spare => uptoBulkAll elems + uptoBulkAll spare + 1
  | .agg parts => uptoBulkAll parts + 1
  | .iface _ d => uptoBulk d + 1
  | .map entries => uptoBulkEntries entries + 1
  | .held _ => 1
def uptoBulkAll {H : Type} : List (DataW H) → Nat
  | [] => 0
  | d :: r => uptoBulk d + uptoBulkAll r
def uptoBulkEntries {H : Type} : List (Lit × DataW H) → Nat
  | [] => 0
  | x :: r => uptoBulkEntry x + uptoBulkEntries r
def uptoBulkEntry {H : Type} : Lit × DataW H → Nat
  | (.string bytes, d) => bytes.length + uptoBulk d + 1
  | (_, d) => uptoBulk d + 1
 end
def uptoSmall : (H : Type) → List (DataW H) → Bool := fun _ ds => decide (uptoBulkAll ds ≤ 1048576)
def OpenSpec.upto (s : _root_.Go.ChangeSpec) : _root_.Go.OpenSpec := { _root_.Go.OpenSpec.ofChange s with cond := some uptoSmall }

/-- 'laws.FnMotorValid', WHERE WHAT IT READS IS OF BULK AT MOST 1048576: true; the input reads as it did. -/
def fnMotorValidUptoRow : OpenClaim := { program := "ytgnchgmbflkakaa", sum := "dd2ab269bfd9990dc8caa905036cda5d92365ac6e693df65096aa63b93e7bac6", func := "loop.example/robotcell/laws.FnMotorValid", spec := "fnMotorValid", apart := false, narrowed := true }
def FnMotorValidUptoSaid : Prop := fnMotorValidUptoRow.holds Try.pinned (OpenSpec.upto fnMotorValidSpec)

/-- 'laws.FnMotorStep', WHERE WHAT IT READS IS OF BULK AT MOST 1048576: true; the input reads as it did. -/
def fnMotorStepUptoRow : OpenClaim := { program := "ytgnchgmbflkakaa", sum := "dd2ab269bfd9990dc8caa905036cda5d92365ac6e693df65096aa63b93e7bac6", func := "loop.example/robotcell/laws.FnMotorStep", spec := "fnMotorStep", apart := false, narrowed := true }
def FnMotorStepUptoSaid : Prop := fnMotorStepUptoRow.holds Try.pinned (OpenSpec.upto fnMotorStepSpec)

/-- 'laws.FnBrakeTorque', WHERE WHAT IT READS IS OF BULK AT MOST 1048576: true; the input reads as it did. -/
def fnBrakeTorqueUptoRow : OpenClaim := { program := "ytgnchgmbflkakaa", sum := "dd2ab269bfd9990dc8caa905036cda5d92365ac6e693df65096aa63b93e7bac6", func := "loop.example/robotcell/laws.FnBrakeTorque", spec := "fnBrakeTorque", apart := false, narrowed := true }
def FnBrakeTorqueUptoSaid : Prop := fnBrakeTorqueUptoRow.holds Try.pinned (OpenSpec.upto fnBrakeTorqueSpec)

/-- 'laws.FnAimTorque', WHERE WHAT IT READS IS OF BULK AT MOST 1048576: true; the input reads as it did. -/
def fnAimTorqueUptoRow : OpenClaim := { program := "ytgnchgmbflkakaa", sum := "dd2ab269bfd9990dc8caa905036cda5d92365ac6e693df65096aa63b93e7bac6", func := "loop.example/robotcell/laws.FnAimTorque", spec := "fnAimTorque", apart := false, narrowed := true }
def FnAimTorqueUptoSaid : Prop := fnAimTorqueUptoRow.holds Try.pinned (OpenSpec.upto fnAimTorqueSpec)

/-- 'laws.FnRunMotor', WHERE WHAT IT READS IS OF BULK AT MOST 1048576: true; the input reads as it did. -/
def fnRunMotorUptoRow : OpenClaim := { program := "ytgnchgmbflkakaa", sum := "dd2ab269bfd9990dc8caa905036cda5d92365ac6e693df65096aa63b93e7bac6", func := "loop.example/robotcell/laws.FnRunMotor", spec := "fnRunMotor", apart := false, narrowed := true }
def FnRunMotorUptoSaid : Prop := fnRunMotorUptoRow.holds Try.pinned (OpenSpec.upto fnRunMotorSpec)

/-- 'laws.FnMotorRest', WHERE WHAT IT READS IS OF BULK AT MOST 1048576: true; the input reads as it did. -/
def fnMotorRestUptoRow : OpenClaim := { program := "ytgnchgmbflkakaa", sum := "dd2ab269bfd9990dc8caa905036cda5d92365ac6e693df65096aa63b93e7bac6", func := "loop.example/robotcell/laws.FnMotorRest", spec := "fnMotorRest", apart := false, narrowed := true }
def FnMotorRestUptoSaid : Prop := fnMotorRestUptoRow.holds Try.pinned (OpenSpec.upto fnMotorRestSpec)

/-- 'laws.FnExactMotorValid', WHERE WHAT IT READS IS OF BULK AT MOST 1048576: true; the input reads as it did. -/
def fnExactMotorValidUptoRow : OpenClaim := { program := "ytgnchgmbflkakaa", sum := "dd2ab269bfd9990dc8caa905036cda5d92365ac6e693df65096aa63b93e7bac6", func := "loop.example/robotcell/laws.FnExactMotorValid", spec := "fnExactMotorValid", apart := false, narrowed := true }
def FnExactMotorValidUptoSaid : Prop := fnExactMotorValidUptoRow.holds Try.pinned (OpenSpec.upto fnExactMotorValidSpec)

/-- 'laws.FnExactMotorStep', WHERE WHAT IT READS IS OF BULK AT MOST 1048576: true; the input reads as it did. -/
def fnExactMotorStepUptoRow : OpenClaim := { program := "ytgnchgmbflkakaa", sum := "dd2ab269bfd9990dc8caa905036cda5d92365ac6e693df65096aa63b93e7bac6", func := "loop.example/robotcell/laws.FnExactMotorStep", spec := "fnExactMotorStep", apart := false, narrowed := true }
def FnExactMotorStepUptoSaid : Prop := fnExactMotorStepUptoRow.holds Try.pinned (OpenSpec.upto fnExactMotorStepSpec)

/-- 'laws.FnExactBrakeTorque', WHERE WHAT IT READS IS OF BULK AT MOST 1048576: true; the input reads as it did. -/
def fnExactBrakeTorqueUptoRow : OpenClaim := { program := "ytgnchgmbflkakaa", sum := "dd2ab269bfd9990dc8caa905036cda5d92365ac6e693df65096aa63b93e7bac6", func := "loop.example/robotcell/laws.FnExactBrakeTorque", spec := "fnExactBrakeTorque", apart := false, narrowed := true }
def FnExactBrakeTorqueUptoSaid : Prop := fnExactBrakeTorqueUptoRow.holds Try.pinned (OpenSpec.upto fnExactBrakeTorqueSpec)

/-- 'laws.FnExactAimTorque', WHERE WHAT IT READS IS OF BULK AT MOST 1048576: true; the input reads as it did. -/
def fnExactAimTorqueUptoRow : OpenClaim := { program := "ytgnchgmbflkakaa", sum := "dd2ab269bfd9990dc8caa905036cda5d92365ac6e693df65096aa63b93e7bac6", func := "loop.example/robotcell/laws.FnExactAimTorque", spec := "fnExactAimTorque", apart := false, narrowed := true }
def FnExactAimTorqueUptoSaid : Prop := fnExactAimTorqueUptoRow.holds Try.pinned (OpenSpec.upto fnExactAimTorqueSpec)

/-- 'laws.FnExactRunMotor', WHERE WHAT IT READS IS OF BULK AT MOST 1048576: true; the input reads as it did. -/
def fnExactRunMotorUptoRow : OpenClaim := { program := "ytgnchgmbflkakaa", sum := "dd2ab269bfd9990dc8caa905036cda5d92365ac6e693df65096aa63b93e7bac6", func := "loop.example/robotcell/laws.FnExactRunMotor", spec := "fnExactRunMotor", apart := false, narrowed := true }
def FnExactRunMotorUptoSaid : Prop := fnExactRunMotorUptoRow.holds Try.pinned (OpenSpec.upto fnExactRunMotorSpec)

end Rows
end Go.Proofs.Ytgnchgmbflkakaa
