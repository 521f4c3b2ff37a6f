/-
  No cell of these rows narrows 'for every input' (looked for: loops, veiled, ifaces, maps, wideKeys, modest, calm, conditions, laid).
  DERIVED. THE GIVEN ROWS OF THIS SEAT. 6 by the template 'for every input the law returns true; each argument reads behind the call as it read before'; 0 by the template 'total and deterministic' (their statements: YtkogoflcacameaaTotals.lean).
  GIVEN WITH THE SEED: the statements are not yours to turn. If you find one false, say at which input.
  Laid BY PROGRAM, IN A SANDBOX (cutbox-rows.mjs): the forced cells as the released guide's own fill.sh prints them over the translation b87bfdb19247faca… (all of the seat's roots in one cut). By AI agents, Wed Nov 11 2026. No macro, syntax, notation, axiom, sorry.
-/
import Derived.Test.YtkogoflcacameaaChecked
import GoSem.Claim
import GoSem.ClaimJoined
import GoSem.ClaimMapViews
import Derived.JoinedTies
import Derived.KernelRfl
namespace Go.Proofs.Ytkogoflcacameaa
/- THE CELL 'sum', in the pinned program and in every row, IS THE sha256 OF THE DUMP (.gsa) THAT YtkogoflcacameaaProg.lean LOADS. Nothing in Lean hashes anything: it is a label: what it is worth is what the hold of that sum in a sandbox is worth. -/
noncomputable def Try.pinned : Pinned := { name := "ytkogoflcacameaa", sum := "b87bfdb19247faca8807966ee6f5b3d9fba336c868a7cd67647df929a177dd46", checked := Try.checked }
namespace Rows
def none {H : Type} : Left H := { results := [], args := [] }

/-- 'laws.FnGridSize': WHATEVER THE INPUT: true; the input reads as it did. -/
def fnGridSizeSpec : ChangeSpec := { name := "fnGridSize", fn := fun _ => fun
  | [d] => { results := [.lit (.bool true)], args := [d] }
  | _ => none }
def fnGridSizeRow : OpenClaim := { program := "ytkogoflcacameaa", sum := "b87bfdb19247faca8807966ee6f5b3d9fba336c868a7cd67647df929a177dd46", func := "loop.example/robotcell/laws.FnGridSize", spec := "fnGridSize", apart := false }
def FnGridSizeSaid : Prop := fnGridSizeRow.holds Try.pinned (OpenSpec.ofChange fnGridSizeSpec)

/-- ITS FALSE NEIGHBOUR: 'it returns false'. Refute it at one input. -/
def fnGridSizeWrong : ChangeSpec := { name := "fnGridSize", fn := fun _ => fun
  | [d] => { results := [.lit (.bool false)], args := [d] }
  | _ => none }
def FnGridSizeWrongFalsely : Prop := fnGridSizeRow.holds Try.pinned (OpenSpec.ofChange fnGridSizeWrong)

/-- 'laws.FnCellJoints': WHATEVER THE INPUT: true; the input reads as it did. -/
def fnCellJointsSpec : ChangeSpec := { name := "fnCellJoints", fn := fun _ => fun
  | [d] => { results := [.lit (.bool true)], args := [d] }
  | _ => none }
def fnCellJointsRow : OpenClaim := { program := "ytkogoflcacameaa", sum := "b87bfdb19247faca8807966ee6f5b3d9fba336c868a7cd67647df929a177dd46", func := "loop.example/robotcell/laws.FnCellJoints", spec := "fnCellJoints", apart := false }
def FnCellJointsSaid : Prop := fnCellJointsRow.holds Try.pinned (OpenSpec.ofChange fnCellJointsSpec)

/-- ITS FALSE NEIGHBOUR: 'it returns false'. Refute it at one input. -/
def fnCellJointsWrong : ChangeSpec := { name := "fnCellJoints", fn := fun _ => fun
  | [d] => { results := [.lit (.bool false)], args := [d] }
  | _ => none }
def FnCellJointsWrongFalsely : Prop := fnCellJointsRow.holds Try.pinned (OpenSpec.ofChange fnCellJointsWrong)

/-- 'laws.FnPlanPath': WHATEVER THE INPUT: true; the input reads as it did. -/
def fnPlanPathSpec : ChangeSpec := { name := "fnPlanPath", fn := fun _ => fun
  | [d] => { results := [.lit (.bool true)], args := [d] }
  | _ => none }
def fnPlanPathRow : OpenClaim := { program := "ytkogoflcacameaa", sum := "b87bfdb19247faca8807966ee6f5b3d9fba336c868a7cd67647df929a177dd46", func := "loop.example/robotcell/laws.FnPlanPath", spec := "fnPlanPath", apart := false }
def FnPlanPathSaid : Prop := fnPlanPathRow.holds Try.pinned (OpenSpec.ofChange fnPlanPathSpec)

/-- ITS FALSE NEIGHBOUR: 'it returns false'. Refute it at one input. -/
def fnPlanPathWrong : ChangeSpec := { name := "fnPlanPath", fn := fun _ => fun
  | [d] => { results := [.lit (.bool false)], args := [d] }
  | _ => none }
def FnPlanPathWrongFalsely : Prop := fnPlanPathRow.holds Try.pinned (OpenSpec.ofChange fnPlanPathWrong)

/-- 'laws.FnPlanMonotone': WHATEVER THE INPUT: true; the input reads as it did. -/
def fnPlanMonotoneSpec : ChangeSpec := { name := "fnPlanMonotone", fn := fun _ => fun
  | [d] => { results := [.lit (.bool true)], args := [d] }
  | _ => none }
def fnPlanMonotoneRow : OpenClaim := { program := "ytkogoflcacameaa", sum := "b87bfdb19247faca8807966ee6f5b3d9fba336c868a7cd67647df929a177dd46", func := "loop.example/robotcell/laws.FnPlanMonotone", spec := "fnPlanMonotone", apart := false }
def FnPlanMonotoneSaid : Prop := fnPlanMonotoneRow.holds Try.pinned (OpenSpec.ofChange fnPlanMonotoneSpec)

/-- ITS FALSE NEIGHBOUR: 'it returns false'. Refute it at one input. -/
def fnPlanMonotoneWrong : ChangeSpec := { name := "fnPlanMonotone", fn := fun _ => fun
  | [d] => { results := [.lit (.bool false)], args := [d] }
  | _ => none }
def FnPlanMonotoneWrongFalsely : Prop := fnPlanMonotoneRow.holds Try.pinned (OpenSpec.ofChange fnPlanMonotoneWrong)

/-- 'laws.FnPathValid': WHATEVER THE INPUT: true; the input reads as it did. -/
def fnPathValidSpec : ChangeSpec := { name := "fnPathValid", fn := fun _ => fun
  | [d] => { results := [.lit (.bool true)], args := [d] }
  | _ => none }
def fnPathValidRow : OpenClaim := { program := "ytkogoflcacameaa", sum := "b87bfdb19247faca8807966ee6f5b3d9fba336c868a7cd67647df929a177dd46", func := "loop.example/robotcell/laws.FnPathValid", spec := "fnPathValid", apart := false }
def FnPathValidSaid : Prop := fnPathValidRow.holds Try.pinned (OpenSpec.ofChange fnPathValidSpec)

/-- ITS FALSE NEIGHBOUR: 'it returns false'. Refute it at one input. -/
def fnPathValidWrong : ChangeSpec := { name := "fnPathValid", fn := fun _ => fun
  | [d] => { results := [.lit (.bool false)], args := [d] }
  | _ => none }
def FnPathValidWrongFalsely : Prop := fnPathValidRow.holds Try.pinned (OpenSpec.ofChange fnPathValidWrong)

/-- 'laws.FnPathCorners': WHATEVER THE INPUT: true; the input reads as it did. -/
def fnPathCornersSpec : ChangeSpec := { name := "fnPathCorners", fn := fun _ => fun
  | [d] => { results := [.lit (.bool true)], args := [d] }
  | _ => none }
def fnPathCornersRow : OpenClaim := { program := "ytkogoflcacameaa", sum := "b87bfdb19247faca8807966ee6f5b3d9fba336c868a7cd67647df929a177dd46", func := "loop.example/robotcell/laws.FnPathCorners", spec := "fnPathCorners", apart := false }
def FnPathCornersSaid : Prop := fnPathCornersRow.holds Try.pinned (OpenSpec.ofChange fnPathCornersSpec)

/-- ITS FALSE NEIGHBOUR: 'it returns false'. Refute it at one input. -/
def fnPathCornersWrong : ChangeSpec := { name := "fnPathCorners", fn := fun _ => fun
  | [d] => { results := [.lit (.bool false)], args := [d] }
  | _ => none }
def FnPathCornersWrongFalsely : Prop := fnPathCornersRow.holds Try.pinned (OpenSpec.ofChange fnPathCornersWrong)

/- THE SECOND FORM. 'bulk': how many values and letters a reading holds, each counted each time it is reached (what is shared counts as often as it is met; a slice's spare places count too). A statement '..UptoSaid' is the law's where the arguments, and the package variables that the reading takes, are together of bulk at most 1048576: NARROWER than '..Said'. Prove '..Said' where nothing that the law and all that it calls make is longer than what came in: it says more and counts as full. Else prove '..UptoSaid'. A law counts once. -/
mutual
def uptoBulk {H : Type} : DataW H → Nat
  | .lit (.string bytes) => bytes.length + 1
  | .lit _ => 1
  | .nil => 1
  | .ptr d => uptoBulk d + 1
  | .slice elems spare => uptoBulkAll elems + uptoBulkAll spare + 1
  | .agg parts => uptoBulkAll parts + 1
  | .iface _ d => uptoBulk d + 1
  | .map entries => uptoBulkEntries entries + 1
  | .held _ => 1
def uptoBulkAll {H : Type} : List (DataW H) → Nat
  | [] => 0
  | d :: r => uptoBulk d + uptoBulkAll r
def uptoBulkEntries {H : Type} : List (Lit × DataW H) → Nat
  | [] => 0
  | x :: r => uptoBulkEntry x + uptoBulkEntries r
def uptoBulkEntry {H : Type} : Lit × DataW H → Nat
  | (.string bytes, d) => bytes.length + uptoBulk d + 1
  | (_, d) => uptoBulk d + 1
 end
def uptoSmall : (H : Type) → List (DataW H) → Bool := fun _ ds => decide (uptoBulkAll ds ≤ 1048576)
def OpenSpec.upto (s : _root_.Go.ChangeSpec) : _root_.Go.OpenSpec := { _root_.Go.OpenSpec.ofChange s with cond := some uptoSmall }

/-- 'laws.FnGridSize', WHERE WHAT IT READS IS OF BULK AT MOST 1048576: true; the input reads as it did. -/
def fnGridSizeUptoRow : OpenClaim := { program := "ytkogoflcacameaa", sum := "b87bfdb19247faca8807966ee6f5b3d9fba336c868a7cd67647df929a177dd46", func := "loop.example/robotcell/laws.FnGridSize", spec := "fnGridSize", apart := false, narrowed := true }
def FnGridSizeUptoSaid : Prop := fnGridSizeUptoRow.holds Try.pinned (OpenSpec.upto fnGridSizeSpec)

/-- 'laws.FnCellJoints', WHERE WHAT IT READS IS OF BULK AT MOST 1048576: true; the input reads as it did. -/
def fnCellJointsUptoRow : OpenClaim := { program := "ytkogoflcacameaa", sum := "b87bfdb19247faca8807966ee6f5b3d9fba336c868a7cd67647df929a177dd46", func := "loop.example/robotcell/laws.FnCellJoints", spec := "fnCellJoints", apart := false, narrowed := true }
def FnCellJointsUptoSaid : Prop := fnCellJointsUptoRow.holds Try.pinned (OpenSpec.upto fnCellJointsSpec)

/-- 'laws.FnPlanPath', WHERE WHAT IT READS IS OF BULK AT MOST 1048576: true; the input reads as it did. -/
def fnPlanPathUptoRow : OpenClaim := { program := "ytkogoflcacameaa", sum := "b87bfdb19247faca8807966ee6f5b3d9fba336c868a7cd67647df929a177dd46", func := "loop.example/robotcell/laws.FnPlanPath", spec := "fnPlanPath", apart := false, narrowed := true }
def FnPlanPathUptoSaid : Prop := fnPlanPathUptoRow.holds Try.pinned (OpenSpec.upto fnPlanPathSpec)

/-- 'laws.FnPlanMonotone', WHERE WHAT IT READS IS OF BULK AT MOST 1048576: true; the input reads as it did. -/
def fnPlanMonotoneUptoRow : OpenClaim := { program := "ytkogoflcacameaa", sum := "b87bfdb19247faca8807966ee6f5b3d9fba336c868a7cd67647df929a177dd46", func := "loop.example/robotcell/laws.FnPlanMonotone", spec := "fnPlanMonotone", apart := false, narrowed := true }
def FnPlanMonotoneUptoSaid : Prop := fnPlanMonotoneUptoRow.holds Try.pinned (OpenSpec.upto fnPlanMonotoneSpec)

/-- 'laws.FnPathValid', WHERE WHAT IT READS IS OF BULK AT MOST 1048576: true; the input reads as it did. -/
def fnPathValidUptoRow : OpenClaim := { program := "ytkogoflcacameaa", sum := "b87bfdb19247faca8807966ee6f5b3d9fba336c868a7cd67647df929a177dd46", func := "loop.example/robotcell/laws.FnPathValid", spec := "fnPathValid", apart := false, narrowed := true }
def FnPathValidUptoSaid : Prop := fnPathValidUptoRow.holds Try.pinned (OpenSpec.upto fnPathValidSpec)

/-- 'laws.FnPathCorners', WHERE WHAT IT READS IS OF BULK AT MOST 1048576: true; the input reads as it did. -/
def fnPathCornersUptoRow : OpenClaim := { program := "ytkogoflcacameaa", sum := "b87bfdb19247faca8807966ee6f5b3d9fba336c868a7cd67647df929a177dd46", func := "loop.example/robotcell/laws.FnPathCorners", spec := "fnPathCorners", apart := false, narrowed := true }
def FnPathCornersUptoSaid : Prop := fnPathCornersUptoRow.holds Try.pinned (OpenSpec.upto fnPathCornersSpec)

end Rows
end Go.Proofs.Ytkogoflcacameaa
