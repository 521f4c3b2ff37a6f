/-
  No cell of these rows narrows 'for every input' (looked for: loops, veiled, ifaces, maps, wideKeys, modest, calm, conditions, laid).
  DERIVED. THE GIVEN ROWS OF THIS SEAT. 9 by the template 'for every input the law returns true; each argument reads behind the call as it read before'; 0 by the template 'total and deterministic' (their statements: YtddndafddleelaaTotals.lean).
  GIVEN WITH THE SEED: the statements are not yours to turn. If you find one false, say at which input.
  Laid BY PROGRAM, IN A SANDBOX (cutbox-rows.mjs): the forced cells as the released guide's own fill.sh prints them over the translation af3d65c30967ff11… (all of the seat's roots in one cut). By AI agents, Wed Nov 11 2026. No macro, syntax, notation, axiom, sorry.
-/
import Derived.Test.YtddndafddleelaaChecked
import GoSem.Claim
import GoSem.ClaimJoined
import GoSem.ClaimMapViews
import Derived.JoinedTies
import Derived.KernelRfl
namespace Go.Proofs.Ytddndafddleelaa
/- THE CELL 'sum', in the pinned program and in every row, IS THE sha256 OF THE DUMP (.gsa) THAT YtddndafddleelaaProg.lean LOADS. Nothing in Lean hashes anything: it is a label: what it is worth is what the hold of that sum in a sandbox is worth. -/
noncomputable def Try.pinned : Pinned := { name := "ytddndafddleelaa", sum := "af3d65c30967ff11c6fe9f56d58325271e78c6313be40a3f41f7fb42a27b39b9", checked := Try.checked }
namespace Rows
def none {H : Type} : Left H := { results := [], args := [] }

/-- 'laws.FnItemsValid': WHATEVER THE INPUT: true; the input reads as it did. -/
def fnItemsValidSpec : ChangeSpec := { name := "fnItemsValid", fn := fun _ => fun
  | [d] => { results := [.lit (.bool true)], args := [d] }
  | _ => none }
def fnItemsValidRow : OpenClaim := { program := "ytddndafddleelaa", sum := "af3d65c30967ff11c6fe9f56d58325271e78c6313be40a3f41f7fb42a27b39b9", func := "loop.example/robotcell/laws.FnItemsValid", spec := "fnItemsValid", apart := false }
def FnItemsValidSaid : Prop := fnItemsValidRow.holds Try.pinned (OpenSpec.ofChange fnItemsValidSpec)

/-- ITS FALSE NEIGHBOUR: 'it returns false'. Refute it at one input. -/
def fnItemsValidWrong : ChangeSpec := { name := "fnItemsValid", fn := fun _ => fun
  | [d] => { results := [.lit (.bool false)], args := [d] }
  | _ => none }
def FnItemsValidWrongFalsely : Prop := fnItemsValidRow.holds Try.pinned (OpenSpec.ofChange fnItemsValidWrong)

/-- 'laws.FnPickTime': WHATEVER THE INPUT: true; the input reads as it did. -/
def fnPickTimeSpec : ChangeSpec := { name := "fnPickTime", fn := fun _ => fun
  | [d] => { results := [.lit (.bool true)], args := [d] }
  | _ => none }
def fnPickTimeRow : OpenClaim := { program := "ytddndafddleelaa", sum := "af3d65c30967ff11c6fe9f56d58325271e78c6313be40a3f41f7fb42a27b39b9", func := "loop.example/robotcell/laws.FnPickTime", spec := "fnPickTime", apart := false }
def FnPickTimeSaid : Prop := fnPickTimeRow.holds Try.pinned (OpenSpec.ofChange fnPickTimeSpec)

/-- ITS FALSE NEIGHBOUR: 'it returns false'. Refute it at one input. -/
def fnPickTimeWrong : ChangeSpec := { name := "fnPickTime", fn := fun _ => fun
  | [d] => { results := [.lit (.bool false)], args := [d] }
  | _ => none }
def FnPickTimeWrongFalsely : Prop := fnPickTimeRow.holds Try.pinned (OpenSpec.ofChange fnPickTimeWrong)

/-- 'laws.FnPickPlan': WHATEVER THE INPUT: true; the input reads as it did. -/
def fnPickPlanSpec : ChangeSpec := { name := "fnPickPlan", fn := fun _ => fun
  | [d] => { results := [.lit (.bool true)], args := [d] }
  | _ => none }
def fnPickPlanRow : OpenClaim := { program := "ytddndafddleelaa", sum := "af3d65c30967ff11c6fe9f56d58325271e78c6313be40a3f41f7fb42a27b39b9", func := "loop.example/robotcell/laws.FnPickPlan", spec := "fnPickPlan", apart := false }
def FnPickPlanSaid : Prop := fnPickPlanRow.holds Try.pinned (OpenSpec.ofChange fnPickPlanSpec)

/-- ITS FALSE NEIGHBOUR: 'it returns false'. Refute it at one input. -/
def fnPickPlanWrong : ChangeSpec := { name := "fnPickPlan", fn := fun _ => fun
  | [d] => { results := [.lit (.bool false)], args := [d] }
  | _ => none }
def FnPickPlanWrongFalsely : Prop := fnPickPlanRow.holds Try.pinned (OpenSpec.ofChange fnPickPlanWrong)

/-- 'laws.FnMissedItems': WHATEVER THE INPUT: true; the input reads as it did. -/
def fnMissedItemsSpec : ChangeSpec := { name := "fnMissedItems", fn := fun _ => fun
  | [d] => { results := [.lit (.bool true)], args := [d] }
  | _ => none }
def fnMissedItemsRow : OpenClaim := { program := "ytddndafddleelaa", sum := "af3d65c30967ff11c6fe9f56d58325271e78c6313be40a3f41f7fb42a27b39b9", func := "loop.example/robotcell/laws.FnMissedItems", spec := "fnMissedItems", apart := false }
def FnMissedItemsSaid : Prop := fnMissedItemsRow.holds Try.pinned (OpenSpec.ofChange fnMissedItemsSpec)

/-- ITS FALSE NEIGHBOUR: 'it returns false'. Refute it at one input. -/
def fnMissedItemsWrong : ChangeSpec := { name := "fnMissedItems", fn := fun _ => fun
  | [d] => { results := [.lit (.bool false)], args := [d] }
  | _ => none }
def FnMissedItemsWrongFalsely : Prop := fnMissedItemsRow.holds Try.pinned (OpenSpec.ofChange fnMissedItemsWrong)

/-- 'laws.FnExactItemsValid': WHATEVER THE INPUT: true; the input reads as it did. -/
def fnExactItemsValidSpec : ChangeSpec := { name := "fnExactItemsValid", fn := fun _ => fun
  | [d] => { results := [.lit (.bool true)], args := [d] }
  | _ => none }
def fnExactItemsValidRow : OpenClaim := { program := "ytddndafddleelaa", sum := "af3d65c30967ff11c6fe9f56d58325271e78c6313be40a3f41f7fb42a27b39b9", func := "loop.example/robotcell/laws.FnExactItemsValid", spec := "fnExactItemsValid", apart := false }
def FnExactItemsValidSaid : Prop := fnExactItemsValidRow.holds Try.pinned (OpenSpec.ofChange fnExactItemsValidSpec)

/-- ITS FALSE NEIGHBOUR: 'it returns false'. Refute it at one input. -/
def fnExactItemsValidWrong : ChangeSpec := { name := "fnExactItemsValid", fn := fun _ => fun
  | [d] => { results := [.lit (.bool false)], args := [d] }
  | _ => none }
def FnExactItemsValidWrongFalsely : Prop := fnExactItemsValidRow.holds Try.pinned (OpenSpec.ofChange fnExactItemsValidWrong)

/-- 'laws.FnExactPickTime': WHATEVER THE INPUT: true; the input reads as it did. -/
def fnExactPickTimeSpec : ChangeSpec := { name := "fnExactPickTime", fn := fun _ => fun
  | [d1, d2, d3, d4, d5] => { results := [.lit (.bool true)], args := [d1, d2, d3, d4, d5] }
  | _ => none }
def fnExactPickTimeRow : OpenClaim := { program := "ytddndafddleelaa", sum := "af3d65c30967ff11c6fe9f56d58325271e78c6313be40a3f41f7fb42a27b39b9", func := "loop.example/robotcell/laws.FnExactPickTime", spec := "fnExactPickTime", apart := false }
def FnExactPickTimeSaid : Prop := fnExactPickTimeRow.holds Try.pinned (OpenSpec.ofChange fnExactPickTimeSpec)

/-- ITS FALSE NEIGHBOUR: 'it returns false'. Refute it at one input. -/
def fnExactPickTimeWrong : ChangeSpec := { name := "fnExactPickTime", fn := fun _ => fun
  | [d1, d2, d3, d4, d5] => { results := [.lit (.bool false)], args := [d1, d2, d3, d4, d5] }
  | _ => none }
def FnExactPickTimeWrongFalsely : Prop := fnExactPickTimeRow.holds Try.pinned (OpenSpec.ofChange fnExactPickTimeWrong)

/-- 'laws.FnExactPickPlan': WHATEVER THE INPUT: true; the input reads as it did. -/
def fnExactPickPlanSpec : ChangeSpec := { name := "fnExactPickPlan", fn := fun _ => fun
  | [d1, d2, d3, d4] => { results := [.lit (.bool true)], args := [d1, d2, d3, d4] }
  | _ => none }
def fnExactPickPlanRow : OpenClaim := { program := "ytddndafddleelaa", sum := "af3d65c30967ff11c6fe9f56d58325271e78c6313be40a3f41f7fb42a27b39b9", func := "loop.example/robotcell/laws.FnExactPickPlan", spec := "fnExactPickPlan", apart := false }
def FnExactPickPlanSaid : Prop := fnExactPickPlanRow.holds Try.pinned (OpenSpec.ofChange fnExactPickPlanSpec)

/-- ITS FALSE NEIGHBOUR: 'it returns false'. Refute it at one input. -/
def fnExactPickPlanWrong : ChangeSpec := { name := "fnExactPickPlan", fn := fun _ => fun
  | [d1, d2, d3, d4] => { results := [.lit (.bool false)], args := [d1, d2, d3, d4] }
  | _ => none }
def FnExactPickPlanWrongFalsely : Prop := fnExactPickPlanRow.holds Try.pinned (OpenSpec.ofChange fnExactPickPlanWrong)

/-- 'laws.FnExactMissedItems': WHATEVER THE INPUT: true; the input reads as it did. -/
def fnExactMissedItemsSpec : ChangeSpec := { name := "fnExactMissedItems", fn := fun _ => fun
  | [d1, d2, d3, d4] => { results := [.lit (.bool true)], args := [d1, d2, d3, d4] }
  | _ => none }
def fnExactMissedItemsRow : OpenClaim := { program := "ytddndafddleelaa", sum := "af3d65c30967ff11c6fe9f56d58325271e78c6313be40a3f41f7fb42a27b39b9", func := "loop.example/robotcell/laws.FnExactMissedItems", spec := "fnExactMissedItems", apart := false }
def FnExactMissedItemsSaid : Prop := fnExactMissedItemsRow.holds Try.pinned (OpenSpec.ofChange fnExactMissedItemsSpec)

/-- ITS FALSE NEIGHBOUR: 'it returns false'. Refute it at one input. -/
def fnExactMissedItemsWrong : ChangeSpec := { name := "fnExactMissedItems", fn := fun _ => fun
  | [d1, d2, d3, d4] => { results := [.lit (.bool false)], args := [d1, d2, d3, d4] }
  | _ => none }
def FnExactMissedItemsWrongFalsely : Prop := fnExactMissedItemsRow.holds Try.pinned (OpenSpec.ofChange fnExactMissedItemsWrong)

/-- 'laws.FnConveyorStill': WHATEVER THE INPUT: true; the input reads as it did. -/
def fnConveyorStillSpec : ChangeSpec := { name := "fnConveyorStill", fn := fun _ => fun
  | [d] => { results := [.lit (.bool true)], args := [d] }
  | _ => none }
def fnConveyorStillRow : OpenClaim := { program := "ytddndafddleelaa", sum := "af3d65c30967ff11c6fe9f56d58325271e78c6313be40a3f41f7fb42a27b39b9", func := "loop.example/robotcell/laws.FnConveyorStill", spec := "fnConveyorStill", apart := false }
def FnConveyorStillSaid : Prop := fnConveyorStillRow.holds Try.pinned (OpenSpec.ofChange fnConveyorStillSpec)

/-- ITS FALSE NEIGHBOUR: 'it returns false'. Refute it at one input. -/
def fnConveyorStillWrong : ChangeSpec := { name := "fnConveyorStill", fn := fun _ => fun
  | [d] => { results := [.lit (.bool false)], args := [d] }
  | _ => none }
def FnConveyorStillWrongFalsely : Prop := fnConveyorStillRow.holds Try.pinned (OpenSpec.ofChange fnConveyorStillWrong)

/- THE SECOND FORM. 'bulk': how many values and letters a reading holds, each counted each time it is reached (what is shared counts as often as it is met; a slice's spare places count too). A statement '..UptoSaid' is the law's where the arguments, and the package variables that the reading takes, are together of bulk at most 1048576: NARROWER than '..Said'. Prove '..Said' where nothing that the law and all that it calls make is longer than what came in: it says more and counts as full. Else prove '..UptoSaid'. A law counts once. -/
mutual
def uptoBulk {H : Type} : DataW H → Nat
  | .lit (.string bytes) => bytes.length + 1
  | .lit _ => 1
  | .nil => 1
  | .ptr d => uptoBulk d + 1
  | .slice elems spare => uptoBulkAll elems + uptoBulkAll spare + 1
  | .agg parts => uptoBulkAll parts + 1
  | .iface _ d => uptoBulk d + 1
  | .map entries => uptoBulkEntries entries + 1
  | .held _ => 1
def uptoBulkAll {H : Type} : List (DataW H) → Nat
  | [] => 0
  | d :: r => uptoBulk d + uptoBulkAll r
def uptoBulkEntries {H : Type} : List (Lit × DataW H) → Nat
  | [] => 0
  | x :: r => uptoBulkEntry x + uptoBulkEntries r
def uptoBulkEntry {H : Type} : Lit × DataW H → Nat
  | (.string bytes, d) => bytes.length + uptoBulk d + 1
  | (_, d) => uptoBulk d + 1
 end
def uptoSmall : (H : Type) → List (DataW H) → Bool := fun _ ds => decide (uptoBulkAll ds ≤ 1048576)
def OpenSpec.upto (s : _root_.Go.ChangeSpec) : _root_.Go.OpenSpec := { _root_.Go.OpenSpec.ofChange s with cond := some uptoSmall }

/-- 'laws.FnItemsValid', WHERE WHAT IT READS IS OF BULK AT MOST 1048576: true; the input reads as it did. -/
def fnItemsValidUptoRow : OpenClaim := { program := "ytddndafddleelaa", sum := "af3d65c30967ff11c6fe9f56d58325271e78c6313be40a3f41f7fb42a27b39b9", func := "loop.example/robotcell/laws.FnItemsValid", spec := "fnItemsValid", apart := false, narrowed := true }
def FnItemsValidUptoSaid : Prop := fnItemsValidUptoRow.holds Try.pinned (OpenSpec.upto fnItemsValidSpec)

/-- 'laws.FnPickTime', WHERE WHAT IT READS IS OF BULK AT MOST 1048576: true; the input reads as it did. -/
def fnPickTimeUptoRow : OpenClaim := { program := "ytddndafddleelaa", sum := "af3d65c30967ff11c6fe9f56d58325271e78c6313be40a3f41f7fb42a27b39b9", func := "loop.example/robotcell/laws.FnPickTime", spec := "fnPickTime", apart := false, narrowed := true }
def FnPickTimeUptoSaid : Prop := fnPickTimeUptoRow.holds Try.pinned (OpenSpec.upto fnPickTimeSpec)

/-- 'laws.FnPickPlan', WHERE WHAT IT READS IS OF BULK AT MOST 1048576: true; the input reads as it did. -/
def fnPickPlanUptoRow : OpenClaim := { program := "ytddndafddleelaa", sum := "af3d65c30967ff11c6fe9f56d58325271e78c6313be40a3f41f7fb42a27b39b9", func := "loop.example/robotcell/laws.FnPickPlan", spec := "fnPickPlan", apart := false, narrowed := true }
def FnPickPlanUptoSaid : Prop := fnPickPlanUptoRow.holds Try.pinned (OpenSpec.upto fnPickPlanSpec)

/-- 'laws.FnMissedItems', WHERE WHAT IT READS IS OF BULK AT MOST 1048576: true; the input reads as it did. -/
def fnMissedItemsUptoRow : OpenClaim := { program := "ytddndafddleelaa", sum := "af3d65c30967ff11c6fe9f56d58325271e78c6313be40a3f41f7fb42a27b39b9", func := "loop.example/robotcell/laws.FnMissedItems", spec := "fnMissedItems", apart := false, narrowed := true }
def FnMissedItemsUptoSaid : Prop := fnMissedItemsUptoRow.holds Try.pinned (OpenSpec.upto fnMissedItemsSpec)

/-- 'laws.FnExactItemsValid', WHERE WHAT IT READS IS OF BULK AT MOST 1048576: true; the input reads as it did. -/
def fnExactItemsValidUptoRow : OpenClaim := { program := "ytddndafddleelaa", sum := "af3d65c30967ff11c6fe9f56d58325271e78c6313be40a3f41f7fb42a27b39b9", func := "loop.example/robotcell/laws.FnExactItemsValid", spec := "fnExactItemsValid", apart := false, narrowed := true }
def FnExactItemsValidUptoSaid : Prop := fnExactItemsValidUptoRow.holds Try.pinned (OpenSpec.upto fnExactItemsValidSpec)

/-- 'laws.FnExactPickTime', WHERE WHAT IT READS IS OF BULK AT MOST 1048576: true; the input reads as it did. -/
def fnExactPickTimeUptoRow : OpenClaim := { program := "ytddndafddleelaa", sum := "af3d65c30967ff11c6fe9f56d58325271e78c6313be40a3f41f7fb42a27b39b9", func := "loop.example/robotcell/laws.FnExactPickTime", spec := "fnExactPickTime", apart := false, narrowed := true }
def FnExactPickTimeUptoSaid : Prop := fnExactPickTimeUptoRow.holds Try.pinned (OpenSpec.upto fnExactPickTimeSpec)

/-- 'laws.FnExactPickPlan', WHERE WHAT IT READS IS OF BULK AT MOST 1048576: true; the input reads as it did. -/
def fnExactPickPlanUptoRow : OpenClaim := { program := "ytddndafddleelaa", sum := "af3d65c30967ff11c6fe9f56d58325271e78c6313be40a3f41f7fb42a27b39b9", func := "loop.example/robotcell/laws.FnExactPickPlan", spec := "fnExactPickPlan", apart := false, narrowed := true }
def FnExactPickPlanUptoSaid : Prop := fnExactPickPlanUptoRow.holds Try.pinned (OpenSpec.upto fnExactPickPlanSpec)

/-- 'laws.FnExactMissedItems', WHERE WHAT IT READS IS OF BULK AT MOST 1048576: true; the input reads as it did. -/
def fnExactMissedItemsUptoRow : OpenClaim := { program := "ytddndafddleelaa", sum := "af3d65c30967ff11c6fe9f56d58325271e78c6313be40a3f41f7fb42a27b39b9", func := "loop.example/robotcell/laws.FnExactMissedItems", spec := "fnExactMissedItems", apart := false, narrowed := true }
def FnExactMissedItemsUptoSaid : Prop := fnExactMissedItemsUptoRow.holds Try.pinned (OpenSpec.upto fnExactMissedItemsSpec)

/-- 'laws.FnConveyorStill', WHERE WHAT IT READS IS OF BULK AT MOST 1048576: true; the input reads as it did. -/
def fnConveyorStillUptoRow : OpenClaim := { program := "ytddndafddleelaa", sum := "af3d65c30967ff11c6fe9f56d58325271e78c6313be40a3f41f7fb42a27b39b9", func := "loop.example/robotcell/laws.FnConveyorStill", spec := "fnConveyorStill", apart := false, narrowed := true }
def FnConveyorStillUptoSaid : Prop := fnConveyorStillUptoRow.holds Try.pinned (OpenSpec.upto fnConveyorStillSpec)

end Rows
end Go.Proofs.Ytddndafddleelaa
