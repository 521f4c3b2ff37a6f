/-
  No cell of these rows narrows 'for every input' (looked for: loops, veiled, ifaces, maps, wideKeys, modest, calm, conditions, laid).
  DERIVED. THE GIVEN ROWS OF THIS SEAT. 10 by the template 'for every input the law returns true; each argument reads behind the call as it read before'; 0 by the template 'total and deterministic' (their statements: YtppkipcgpmijpaaTotals.lean).
  GIVEN WITH THE SEED: the statements are not yours to turn. If you find one false, say at which input.
  Laid BY PROGRAM, IN A SANDBOX (cutbox-rows.mjs): the forced cells as the released guide's own fill.sh prints them over the translation 8adb195c53c4d0c9… (all of the seat's roots in one cut). By AI agents, Wed Nov 11 2026. No macro, syntax, notation, axiom, sorry.
-/
import Derived.Test.YtppkipcgpmijpaaChecked
import GoSem.Claim
import GoSem.ClaimJoined
import GoSem.ClaimMapViews
import Derived.JoinedTies
import Derived.KernelRfl
namespace Go.Proofs.Ytppkipcgpmijpaa
/- THE CELL 'sum', in the pinned program and in every row, IS THE sha256 OF THE DUMP (.gsa) THAT YtppkipcgpmijpaaProg.lean LOADS. Nothing in Lean hashes anything: it is a label: what it is worth is what the hold of that sum in a sandbox is worth. -/
noncomputable def Try.pinned : Pinned := { name := "ytppkipcgpmijpaa", sum := "8adb195c53c4d0c9d280f9ba889b8d0654612e53bd8540db2e69d2a4b3be3519", checked := Try.checked }
namespace Rows
def none {H : Type} : Left H := { results := [], args := [] }

/-- 'laws.FnPairsValid': WHATEVER THE INPUT: true; the input reads as it did. -/
def fnPairsValidSpec : ChangeSpec := { name := "fnPairsValid", fn := fun _ => fun
  | [d] => { results := [.lit (.bool true)], args := [d] }
  | _ => none }
def fnPairsValidRow : OpenClaim := { program := "ytppkipcgpmijpaa", sum := "8adb195c53c4d0c9d280f9ba889b8d0654612e53bd8540db2e69d2a4b3be3519", func := "loop.example/robotcell/laws.FnPairsValid", spec := "fnPairsValid", apart := false }
def FnPairsValidSaid : Prop := fnPairsValidRow.holds Try.pinned (OpenSpec.ofChange fnPairsValidSpec)

/-- ITS FALSE NEIGHBOUR: 'it returns false'. Refute it at one input. -/
def fnPairsValidWrong : ChangeSpec := { name := "fnPairsValid", fn := fun _ => fun
  | [d] => { results := [.lit (.bool false)], args := [d] }
  | _ => none }
def FnPairsValidWrongFalsely : Prop := fnPairsValidRow.holds Try.pinned (OpenSpec.ofChange fnPairsValidWrong)

/-- 'laws.FnFitOffset': WHATEVER THE INPUT: true; the input reads as it did. -/
def fnFitOffsetSpec : ChangeSpec := { name := "fnFitOffset", fn := fun _ => fun
  | [d] => { results := [.lit (.bool true)], args := [d] }
  | _ => none }
def fnFitOffsetRow : OpenClaim := { program := "ytppkipcgpmijpaa", sum := "8adb195c53c4d0c9d280f9ba889b8d0654612e53bd8540db2e69d2a4b3be3519", func := "loop.example/robotcell/laws.FnFitOffset", spec := "fnFitOffset", apart := false }
def FnFitOffsetSaid : Prop := fnFitOffsetRow.holds Try.pinned (OpenSpec.ofChange fnFitOffsetSpec)

/-- ITS FALSE NEIGHBOUR: 'it returns false'. Refute it at one input. -/
def fnFitOffsetWrong : ChangeSpec := { name := "fnFitOffset", fn := fun _ => fun
  | [d] => { results := [.lit (.bool false)], args := [d] }
  | _ => none }
def FnFitOffsetWrongFalsely : Prop := fnFitOffsetRow.holds Try.pinned (OpenSpec.ofChange fnFitOffsetWrong)

/-- 'laws.FnOffsetError': WHATEVER THE INPUT: true; the input reads as it did. -/
def fnOffsetErrorSpec : ChangeSpec := { name := "fnOffsetError", fn := fun _ => fun
  | [d] => { results := [.lit (.bool true)], args := [d] }
  | _ => none }
def fnOffsetErrorRow : OpenClaim := { program := "ytppkipcgpmijpaa", sum := "8adb195c53c4d0c9d280f9ba889b8d0654612e53bd8540db2e69d2a4b3be3519", func := "loop.example/robotcell/laws.FnOffsetError", spec := "fnOffsetError", apart := false }
def FnOffsetErrorSaid : Prop := fnOffsetErrorRow.holds Try.pinned (OpenSpec.ofChange fnOffsetErrorSpec)

/-- ITS FALSE NEIGHBOUR: 'it returns false'. Refute it at one input. -/
def fnOffsetErrorWrong : ChangeSpec := { name := "fnOffsetError", fn := fun _ => fun
  | [d] => { results := [.lit (.bool false)], args := [d] }
  | _ => none }
def FnOffsetErrorWrongFalsely : Prop := fnOffsetErrorRow.holds Try.pinned (OpenSpec.ofChange fnOffsetErrorWrong)

/-- 'laws.FnFitSlope': WHATEVER THE INPUT: true; the input reads as it did. -/
def fnFitSlopeSpec : ChangeSpec := { name := "fnFitSlope", fn := fun _ => fun
  | [d] => { results := [.lit (.bool true)], args := [d] }
  | _ => none }
def fnFitSlopeRow : OpenClaim := { program := "ytppkipcgpmijpaa", sum := "8adb195c53c4d0c9d280f9ba889b8d0654612e53bd8540db2e69d2a4b3be3519", func := "loop.example/robotcell/laws.FnFitSlope", spec := "fnFitSlope", apart := false }
def FnFitSlopeSaid : Prop := fnFitSlopeRow.holds Try.pinned (OpenSpec.ofChange fnFitSlopeSpec)

/-- ITS FALSE NEIGHBOUR: 'it returns false'. Refute it at one input. -/
def fnFitSlopeWrong : ChangeSpec := { name := "fnFitSlope", fn := fun _ => fun
  | [d] => { results := [.lit (.bool false)], args := [d] }
  | _ => none }
def FnFitSlopeWrongFalsely : Prop := fnFitSlopeRow.holds Try.pinned (OpenSpec.ofChange fnFitSlopeWrong)

/-- 'laws.FnWithoutOutliers': WHATEVER THE INPUT: true; the input reads as it did. -/
def fnWithoutOutliersSpec : ChangeSpec := { name := "fnWithoutOutliers", fn := fun _ => fun
  | [d] => { results := [.lit (.bool true)], args := [d] }
  | _ => none }
def fnWithoutOutliersRow : OpenClaim := { program := "ytppkipcgpmijpaa", sum := "8adb195c53c4d0c9d280f9ba889b8d0654612e53bd8540db2e69d2a4b3be3519", func := "loop.example/robotcell/laws.FnWithoutOutliers", spec := "fnWithoutOutliers", apart := false }
def FnWithoutOutliersSaid : Prop := fnWithoutOutliersRow.holds Try.pinned (OpenSpec.ofChange fnWithoutOutliersSpec)

/-- ITS FALSE NEIGHBOUR: 'it returns false'. Refute it at one input. -/
def fnWithoutOutliersWrong : ChangeSpec := { name := "fnWithoutOutliers", fn := fun _ => fun
  | [d] => { results := [.lit (.bool false)], args := [d] }
  | _ => none }
def FnWithoutOutliersWrongFalsely : Prop := fnWithoutOutliersRow.holds Try.pinned (OpenSpec.ofChange fnWithoutOutliersWrong)

/-- 'laws.FnExactPairsValid': WHATEVER THE INPUT: true; the input reads as it did. -/
def fnExactPairsValidSpec : ChangeSpec := { name := "fnExactPairsValid", fn := fun _ => fun
  | [d] => { results := [.lit (.bool true)], args := [d] }
  | _ => none }
def fnExactPairsValidRow : OpenClaim := { program := "ytppkipcgpmijpaa", sum := "8adb195c53c4d0c9d280f9ba889b8d0654612e53bd8540db2e69d2a4b3be3519", func := "loop.example/robotcell/laws.FnExactPairsValid", spec := "fnExactPairsValid", apart := false }
def FnExactPairsValidSaid : Prop := fnExactPairsValidRow.holds Try.pinned (OpenSpec.ofChange fnExactPairsValidSpec)

/-- ITS FALSE NEIGHBOUR: 'it returns false'. Refute it at one input. -/
def fnExactPairsValidWrong : ChangeSpec := { name := "fnExactPairsValid", fn := fun _ => fun
  | [d] => { results := [.lit (.bool false)], args := [d] }
  | _ => none }
def FnExactPairsValidWrongFalsely : Prop := fnExactPairsValidRow.holds Try.pinned (OpenSpec.ofChange fnExactPairsValidWrong)

/-- 'laws.FnExactFitOffset': WHATEVER THE INPUT: true; the input reads as it did. -/
def fnExactFitOffsetSpec : ChangeSpec := { name := "fnExactFitOffset", fn := fun _ => fun
  | [d] => { results := [.lit (.bool true)], args := [d] }
  | _ => none }
def fnExactFitOffsetRow : OpenClaim := { program := "ytppkipcgpmijpaa", sum := "8adb195c53c4d0c9d280f9ba889b8d0654612e53bd8540db2e69d2a4b3be3519", func := "loop.example/robotcell/laws.FnExactFitOffset", spec := "fnExactFitOffset", apart := false }
def FnExactFitOffsetSaid : Prop := fnExactFitOffsetRow.holds Try.pinned (OpenSpec.ofChange fnExactFitOffsetSpec)

/-- ITS FALSE NEIGHBOUR: 'it returns false'. Refute it at one input. -/
def fnExactFitOffsetWrong : ChangeSpec := { name := "fnExactFitOffset", fn := fun _ => fun
  | [d] => { results := [.lit (.bool false)], args := [d] }
  | _ => none }
def FnExactFitOffsetWrongFalsely : Prop := fnExactFitOffsetRow.holds Try.pinned (OpenSpec.ofChange fnExactFitOffsetWrong)

/-- 'laws.FnExactOffsetError': WHATEVER THE INPUT: true; the input reads as it did. -/
def fnExactOffsetErrorSpec : ChangeSpec := { name := "fnExactOffsetError", fn := fun _ => fun
  | [d1, d2] => { results := [.lit (.bool true)], args := [d1, d2] }
  | _ => none }
def fnExactOffsetErrorRow : OpenClaim := { program := "ytppkipcgpmijpaa", sum := "8adb195c53c4d0c9d280f9ba889b8d0654612e53bd8540db2e69d2a4b3be3519", func := "loop.example/robotcell/laws.FnExactOffsetError", spec := "fnExactOffsetError", apart := false }
def FnExactOffsetErrorSaid : Prop := fnExactOffsetErrorRow.holds Try.pinned (OpenSpec.ofChange fnExactOffsetErrorSpec)

/-- ITS FALSE NEIGHBOUR: 'it returns false'. Refute it at one input. -/
def fnExactOffsetErrorWrong : ChangeSpec := { name := "fnExactOffsetError", fn := fun _ => fun
  | [d1, d2] => { results := [.lit (.bool false)], args := [d1, d2] }
  | _ => none }
def FnExactOffsetErrorWrongFalsely : Prop := fnExactOffsetErrorRow.holds Try.pinned (OpenSpec.ofChange fnExactOffsetErrorWrong)

/-- 'laws.FnExactFitSlope': WHATEVER THE INPUT: true; the input reads as it did. -/
def fnExactFitSlopeSpec : ChangeSpec := { name := "fnExactFitSlope", fn := fun _ => fun
  | [d] => { results := [.lit (.bool true)], args := [d] }
  | _ => none }
def fnExactFitSlopeRow : OpenClaim := { program := "ytppkipcgpmijpaa", sum := "8adb195c53c4d0c9d280f9ba889b8d0654612e53bd8540db2e69d2a4b3be3519", func := "loop.example/robotcell/laws.FnExactFitSlope", spec := "fnExactFitSlope", apart := false }
def FnExactFitSlopeSaid : Prop := fnExactFitSlopeRow.holds Try.pinned (OpenSpec.ofChange fnExactFitSlopeSpec)

/-- ITS FALSE NEIGHBOUR: 'it returns false'. Refute it at one input. -/
def fnExactFitSlopeWrong : ChangeSpec := { name := "fnExactFitSlope", fn := fun _ => fun
  | [d] => { results := [.lit (.bool false)], args := [d] }
  | _ => none }
def FnExactFitSlopeWrongFalsely : Prop := fnExactFitSlopeRow.holds Try.pinned (OpenSpec.ofChange fnExactFitSlopeWrong)

/-- 'laws.FnExactWithoutOutliers': WHATEVER THE INPUT: true; the input reads as it did. -/
def fnExactWithoutOutliersSpec : ChangeSpec := { name := "fnExactWithoutOutliers", fn := fun _ => fun
  | [d1, d2] => { results := [.lit (.bool true)], args := [d1, d2] }
  | _ => none }
def fnExactWithoutOutliersRow : OpenClaim := { program := "ytppkipcgpmijpaa", sum := "8adb195c53c4d0c9d280f9ba889b8d0654612e53bd8540db2e69d2a4b3be3519", func := "loop.example/robotcell/laws.FnExactWithoutOutliers", spec := "fnExactWithoutOutliers", apart := false }
def FnExactWithoutOutliersSaid : Prop := fnExactWithoutOutliersRow.holds Try.pinned (OpenSpec.ofChange fnExactWithoutOutliersSpec)

/-- ITS FALSE NEIGHBOUR: 'it returns false'. Refute it at one input. -/
def fnExactWithoutOutliersWrong : ChangeSpec := { name := "fnExactWithoutOutliers", fn := fun _ => fun
  | [d1, d2] => { results := [.lit (.bool false)], args := [d1, d2] }
  | _ => none }
def FnExactWithoutOutliersWrongFalsely : Prop := fnExactWithoutOutliersRow.holds Try.pinned (OpenSpec.ofChange fnExactWithoutOutliersWrong)

/- THE SECOND FORM. 'bulk': how many values and letters a reading holds, each counted each time it is reached (what is shared counts as often as it is met; a slice's spare places count too). A statement '..UptoSaid' is the law's where the arguments, and the package variables that the reading takes, are together of bulk at most 1048576: NARROWER than '..Said'. Prove '..Said' where nothing that the law and all that it calls make is longer than what came in: it says more and counts as full. Else prove '..UptoSaid'. A law counts once. -/
mutual
def uptoBulk {H : Type} : DataW H → Nat
  | .lit (.string bytes) => bytes.length + 1
  | .lit _ => 1
  | .nil => 1
  | .ptr d => uptoBulk d + 1
  | .slice elems spare => uptoBulkAll elems + uptoBulkAll spare + 1
  | .agg parts => uptoBulkAll parts + 1
  | .iface _ d => uptoBulk d + 1
  | .map entries => uptoBulkEntries entries + 1
  | .held _ => 1
def uptoBulkAll {H : Type} : List (DataW H) → Nat
  | [] => 0
  | d :: r => uptoBulk d + uptoBulkAll r
def uptoBulkEntries {H : Type} : List (Lit × DataW H) → Nat
  | [] => 0
  | x :: r => uptoBulkEntry x + uptoBulkEntries r
def uptoBulkEntry {H : Type} : Lit × DataW H → Nat
  | (.string bytes, d) => bytes.length + uptoBulk d + 1
  | (_, d) => uptoBulk d + 1
 end
def uptoSmall : (H : Type) → List (DataW H) → Bool := fun _ ds => decide (uptoBulkAll ds ≤ 1048576)
def OpenSpec.upto (s : _root_.Go.ChangeSpec) : _root_.Go.OpenSpec := { _root_.Go.OpenSpec.ofChange s with cond := some uptoSmall }

/-- 'laws.FnPairsValid', WHERE WHAT IT READS IS OF BULK AT MOST 1048576: true; the input reads as it did. -/
def fnPairsValidUptoRow : OpenClaim := { program := "ytppkipcgpmijpaa", sum := "8adb195c53c4d0c9d280f9ba889b8d0654612e53bd8540db2e69d2a4b3be3519", func := "loop.example/robotcell/laws.FnPairsValid", spec := "fnPairsValid", apart := false, narrowed := true }
def FnPairsValidUptoSaid : Prop := fnPairsValidUptoRow.holds Try.pinned (OpenSpec.upto fnPairsValidSpec)

/-- 'laws.FnFitOffset', WHERE WHAT IT READS IS OF BULK AT MOST 1048576: true; the input reads as it did. -/
def fnFitOffsetUptoRow : OpenClaim := { program := "ytppkipcgpmijpaa", sum := "8adb195c53c4d0c9d280f9ba889b8d0654612e53bd8540db2e69d2a4b3be3519", func := "loop.example/robotcell/laws.FnFitOffset", spec := "fnFitOffset", apart := false, narrowed := true }
def FnFitOffsetUptoSaid : Prop := fnFitOffsetUptoRow.holds Try.pinned (OpenSpec.upto fnFitOffsetSpec)

/-- 'laws.FnOffsetError', WHERE WHAT IT READS IS OF BULK AT MOST 1048576: true; the input reads as it did. -/
def fnOffsetErrorUptoRow : OpenClaim := { program := "ytppkipcgpmijpaa", sum := "8adb195c53c4d0c9d280f9ba889b8d0654612e53bd8540db2e69d2a4b3be3519", func := "loop.example/robotcell/laws.FnOffsetError", spec := "fnOffsetError", apart := false, narrowed := true }
def FnOffsetErrorUptoSaid : Prop := fnOffsetErrorUptoRow.holds Try.pinned (OpenSpec.upto fnOffsetErrorSpec)

/-- 'laws.FnFitSlope', WHERE WHAT IT READS IS OF BULK AT MOST 1048576: true; the input reads as it did. -/
def fnFitSlopeUptoRow : OpenClaim := { program := "ytppkipcgpmijpaa", sum := "8adb195c53c4d0c9d280f9ba889b8d0654612e53bd8540db2e69d2a4b3be3519", func := "loop.example/robotcell/laws.FnFitSlope", spec := "fnFitSlope", apart := false, narrowed := true }
def FnFitSlopeUptoSaid : Prop := fnFitSlopeUptoRow.holds Try.pinned (OpenSpec.upto fnFitSlopeSpec)

/-- 'laws.FnWithoutOutliers', WHERE WHAT IT READS IS OF BULK AT MOST 1048576: true; the input reads as it did. -/
def fnWithoutOutliersUptoRow : OpenClaim := { program := "ytppkipcgpmijpaa", sum := "8adb195c53c4d0c9d280f9ba889b8d0654612e53bd8540db2e69d2a4b3be3519", func := "loop.example/robotcell/laws.FnWithoutOutliers", spec := "fnWithoutOutliers", apart := false, narrowed := true }
def FnWithoutOutliersUptoSaid : Prop := fnWithoutOutliersUptoRow.holds Try.pinned (OpenSpec.upto fnWithoutOutliersSpec)

/-- 'laws.FnExactPairsValid', WHERE WHAT IT READS IS OF BULK AT MOST 1048576: true; the input reads as it did. -/
def fnExactPairsValidUptoRow : OpenClaim := { program := "ytppkipcgpmijpaa", sum := "8adb195c53c4d0c9d280f9ba889b8d0654612e53bd8540db2e69d2a4b3be3519", func := "loop.example/robotcell/laws.FnExactPairsValid", spec := "fnExactPairsValid", apart := false, narrowed := true }
def FnExactPairsValidUptoSaid : Prop := fnExactPairsValidUptoRow.holds Try.pinned (OpenSpec.upto fnExactPairsValidSpec)

/-- 'laws.FnExactFitOffset', WHERE WHAT IT READS IS OF BULK AT MOST 1048576: true; the input reads as it did. -/
def fnExactFitOffsetUptoRow : OpenClaim := { program := "ytppkipcgpmijpaa", sum := "8adb195c53c4d0c9d280f9ba889b8d0654612e53bd8540db2e69d2a4b3be3519", func := "loop.example/robotcell/laws.FnExactFitOffset", spec := "fnExactFitOffset", apart := false, narrowed := true }
def FnExactFitOffsetUptoSaid : Prop := fnExactFitOffsetUptoRow.holds Try.pinned (OpenSpec.upto fnExactFitOffsetSpec)

/-- 'laws.FnExactOffsetError', WHERE WHAT IT READS IS OF BULK AT MOST 1048576: true; the input reads as it did. -/
def fnExactOffsetErrorUptoRow : OpenClaim := { program := "ytppkipcgpmijpaa", sum := "8adb195c53c4d0c9d280f9ba889b8d0654612e53bd8540db2e69d2a4b3be3519", func := "loop.example/robotcell/laws.FnExactOffsetError", spec := "fnExactOffsetError", apart := false, narrowed := true }
def FnExactOffsetErrorUptoSaid : Prop := fnExactOffsetErrorUptoRow.holds Try.pinned (OpenSpec.upto fnExactOffsetErrorSpec)

/-- 'laws.FnExactFitSlope', WHERE WHAT IT READS IS OF BULK AT MOST 1048576: true; the input reads as it did. -/
def fnExactFitSlopeUptoRow : OpenClaim := { program := "ytppkipcgpmijpaa", sum := "8adb195c53c4d0c9d280f9ba889b8d0654612e53bd8540db2e69d2a4b3be3519", func := "loop.example/robotcell/laws.FnExactFitSlope", spec := "fnExactFitSlope", apart := false, narrowed := true }
def FnExactFitSlopeUptoSaid : Prop := fnExactFitSlopeUptoRow.holds Try.pinned (OpenSpec.upto fnExactFitSlopeSpec)

/-- 'laws.FnExactWithoutOutliers', WHERE WHAT IT READS IS OF BULK AT MOST 1048576: true; the input reads as it did. -/
def fnExactWithoutOutliersUptoRow : OpenClaim := { program := "ytppkipcgpmijpaa", sum := "8adb195c53c4d0c9d280f9ba889b8d0654612e53bd8540db2e69d2a4b3be3519", func := "loop.example/robotcell/laws.FnExactWithoutOutliers", spec := "fnExactWithoutOutliers", apart := false, narrowed := true }
def FnExactWithoutOutliersUptoSaid : Prop := fnExactWithoutOutliersUptoRow.holds Try.pinned (OpenSpec.upto fnExactWithoutOutliersSpec)

end Rows
end Go.Proofs.Ytppkipcgpmijpaa
