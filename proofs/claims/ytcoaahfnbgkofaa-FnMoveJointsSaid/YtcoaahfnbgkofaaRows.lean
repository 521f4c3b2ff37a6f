/-
  No cell of these rows narrows 'for every input' (looked for: loops, veiled, ifaces, maps, wideKeys, modest, calm, conditions, laid).
  DERIVED. THE GIVEN ROWS OF THIS SEAT. 6 by the template 'for every input the law returns true; each argument reads behind the call as it read before'; 0 by the template 'total and deterministic' (their statements: YtcoaahfnbgkofaaTotals.lean).
  GIVEN WITH THE SEED: the statements are not yours to turn. If you find one false, say at which input.
  Laid BY PROGRAM, IN A SANDBOX (cutbox-rows.mjs): the forced cells as the released guide's own fill.sh prints them over the translation edd9d9fc1d998e56… (all of the seat's roots in one cut). By AI agents, Wed Nov 11 2026. No macro, syntax, notation, axiom, sorry.
-/
import Derived.Test.YtcoaahfnbgkofaaChecked
import GoSem.Claim
import GoSem.ClaimJoined
import GoSem.ClaimMapViews
import Derived.JoinedTies
import Derived.KernelRfl
namespace Go.Proofs.Ytcoaahfnbgkofaa
/- THE CELL 'sum', in the pinned program and in every row, IS THE sha256 OF THE DUMP (.gsa) THAT YtcoaahfnbgkofaaProg.lean LOADS. Nothing in Lean hashes anything: it is a label: what it is worth is what the hold of that sum in a sandbox is worth. -/
noncomputable def Try.pinned : Pinned := { name := "ytcoaahfnbgkofaa", sum := "edd9d9fc1d998e5639b5776e2be6afa523a1c664e4be841ba4c5b603bb3d4931", checked := Try.checked }
namespace Rows
def none {H : Type} : Left H := { results := [], args := [] }

/-- 'laws.FnMoveJoints': WHATEVER THE INPUT: true; the input reads as it did. -/
def fnMoveJointsSpec : ChangeSpec := { name := "fnMoveJoints", fn := fun _ => fun
  | [d] => { results := [.lit (.bool true)], args := [d] }
  | _ => none }
def fnMoveJointsRow : OpenClaim := { program := "ytcoaahfnbgkofaa", sum := "edd9d9fc1d998e5639b5776e2be6afa523a1c664e4be841ba4c5b603bb3d4931", func := "loop.example/robotcell/laws.FnMoveJoints", spec := "fnMoveJoints", unfollowed := true, recurses := true, apart := false }
def FnMoveJointsSaid : Prop := fnMoveJointsRow.holds Try.pinned (OpenSpec.ofChange fnMoveJointsSpec)

/-- ITS FALSE NEIGHBOUR: 'it returns false'. Refute it at one input. -/
def fnMoveJointsWrong : ChangeSpec := { name := "fnMoveJoints", fn := fun _ => fun
  | [d] => { results := [.lit (.bool false)], args := [d] }
  | _ => none }
def FnMoveJointsWrongFalsely : Prop := fnMoveJointsRow.holds Try.pinned (OpenSpec.ofChange fnMoveJointsWrong)

/-- 'laws.FnMoveTime': WHATEVER THE INPUT: true; the input reads as it did. -/
def fnMoveTimeSpec : ChangeSpec := { name := "fnMoveTime", fn := fun _ => fun
  | [d] => { results := [.lit (.bool true)], args := [d] }
  | _ => none }
def fnMoveTimeRow : OpenClaim := { program := "ytcoaahfnbgkofaa", sum := "edd9d9fc1d998e5639b5776e2be6afa523a1c664e4be841ba4c5b603bb3d4931", func := "loop.example/robotcell/laws.FnMoveTime", spec := "fnMoveTime", unfollowed := true, recurses := true, apart := false }
def FnMoveTimeSaid : Prop := fnMoveTimeRow.holds Try.pinned (OpenSpec.ofChange fnMoveTimeSpec)

/-- ITS FALSE NEIGHBOUR: 'it returns false'. Refute it at one input. -/
def fnMoveTimeWrong : ChangeSpec := { name := "fnMoveTime", fn := fun _ => fun
  | [d] => { results := [.lit (.bool false)], args := [d] }
  | _ => none }
def FnMoveTimeWrongFalsely : Prop := fnMoveTimeRow.holds Try.pinned (OpenSpec.ofChange fnMoveTimeWrong)

/-- 'laws.FnLinePoints': WHATEVER THE INPUT: true; the input reads as it did. -/
def fnLinePointsSpec : ChangeSpec := { name := "fnLinePoints", fn := fun _ => fun
  | [d] => { results := [.lit (.bool true)], args := [d] }
  | _ => none }
def fnLinePointsRow : OpenClaim := { program := "ytcoaahfnbgkofaa", sum := "edd9d9fc1d998e5639b5776e2be6afa523a1c664e4be841ba4c5b603bb3d4931", func := "loop.example/robotcell/laws.FnLinePoints", spec := "fnLinePoints", apart := false }
def FnLinePointsSaid : Prop := fnLinePointsRow.holds Try.pinned (OpenSpec.ofChange fnLinePointsSpec)

/-- ITS FALSE NEIGHBOUR: 'it returns false'. Refute it at one input. -/
def fnLinePointsWrong : ChangeSpec := { name := "fnLinePoints", fn := fun _ => fun
  | [d] => { results := [.lit (.bool false)], args := [d] }
  | _ => none }
def FnLinePointsWrongFalsely : Prop := fnLinePointsRow.holds Try.pinned (OpenSpec.ofChange fnLinePointsWrong)

/-- 'laws.FnExactMoveJoints': WHATEVER THE INPUT: true; the input reads as it did. -/
def fnExactMoveJointsSpec : ChangeSpec := { name := "fnExactMoveJoints", fn := fun _ => fun
  | [d1, d2, d3, d4, d5] => { results := [.lit (.bool true)], args := [d1, d2, d3, d4, d5] }
  | _ => none }
def fnExactMoveJointsRow : OpenClaim := { program := "ytcoaahfnbgkofaa", sum := "edd9d9fc1d998e5639b5776e2be6afa523a1c664e4be841ba4c5b603bb3d4931", func := "loop.example/robotcell/laws.FnExactMoveJoints", spec := "fnExactMoveJoints", unfollowed := true, recurses := true, apart := false }
def FnExactMoveJointsSaid : Prop := fnExactMoveJointsRow.holds Try.pinned (OpenSpec.ofChange fnExactMoveJointsSpec)

/-- ITS FALSE NEIGHBOUR: 'it returns false'. Refute it at one input. -/
def fnExactMoveJointsWrong : ChangeSpec := { name := "fnExactMoveJoints", fn := fun _ => fun
  | [d1, d2, d3, d4, d5] => { results := [.lit (.bool false)], args := [d1, d2, d3, d4, d5] }
  | _ => none }
def FnExactMoveJointsWrongFalsely : Prop := fnExactMoveJointsRow.holds Try.pinned (OpenSpec.ofChange fnExactMoveJointsWrong)

/-- 'laws.FnExactMoveTime': WHATEVER THE INPUT: true; the input reads as it did. -/
def fnExactMoveTimeSpec : ChangeSpec := { name := "fnExactMoveTime", fn := fun _ => fun
  | [d1, d2, d3, d4, d5] => { results := [.lit (.bool true)], args := [d1, d2, d3, d4, d5] }
  | _ => none }
def fnExactMoveTimeRow : OpenClaim := { program := "ytcoaahfnbgkofaa", sum := "edd9d9fc1d998e5639b5776e2be6afa523a1c664e4be841ba4c5b603bb3d4931", func := "loop.example/robotcell/laws.FnExactMoveTime", spec := "fnExactMoveTime", unfollowed := true, recurses := true, apart := false }
def FnExactMoveTimeSaid : Prop := fnExactMoveTimeRow.holds Try.pinned (OpenSpec.ofChange fnExactMoveTimeSpec)

/-- ITS FALSE NEIGHBOUR: 'it returns false'. Refute it at one input. -/
def fnExactMoveTimeWrong : ChangeSpec := { name := "fnExactMoveTime", fn := fun _ => fun
  | [d1, d2, d3, d4, d5] => { results := [.lit (.bool false)], args := [d1, d2, d3, d4, d5] }
  | _ => none }
def FnExactMoveTimeWrongFalsely : Prop := fnExactMoveTimeRow.holds Try.pinned (OpenSpec.ofChange fnExactMoveTimeWrong)

/-- 'laws.FnExactLinePoints': WHATEVER THE INPUT: true; the input reads as it did. -/
def fnExactLinePointsSpec : ChangeSpec := { name := "fnExactLinePoints", fn := fun _ => fun
  | [d1, d2, d3] => { results := [.lit (.bool true)], args := [d1, d2, d3] }
  | _ => none }
def fnExactLinePointsRow : OpenClaim := { program := "ytcoaahfnbgkofaa", sum := "edd9d9fc1d998e5639b5776e2be6afa523a1c664e4be841ba4c5b603bb3d4931", func := "loop.example/robotcell/laws.FnExactLinePoints", spec := "fnExactLinePoints", apart := false }
def FnExactLinePointsSaid : Prop := fnExactLinePointsRow.holds Try.pinned (OpenSpec.ofChange fnExactLinePointsSpec)

/-- ITS FALSE NEIGHBOUR: 'it returns false'. Refute it at one input. -/
def fnExactLinePointsWrong : ChangeSpec := { name := "fnExactLinePoints", fn := fun _ => fun
  | [d1, d2, d3] => { results := [.lit (.bool false)], args := [d1, d2, d3] }
  | _ => none }
def FnExactLinePointsWrongFalsely : Prop := fnExactLinePointsRow.holds Try.pinned (OpenSpec.ofChange fnExactLinePointsWrong)

/- THE SECOND FORM. 'bulk': how many values and letters a reading holds, each counted each time it is reached (what is shared counts as often as it is met; a slice's spare places count too). A statement '..UptoSaid' is the law's where the arguments, and the package variables that the reading takes, are together of bulk at most 1048576: NARROWER than '..Said'. Prove '..Said' where nothing that the law and all that it calls make is longer than what came in: it says more and counts as full. Else prove '..UptoSaid'. A law counts once. -/
mutual
def uptoBulk {H : Type} : DataW H → Nat
  | .lit (.string bytes) => bytes.length + 1
  | .lit _ => 1
  | .nil => 1
  | .ptr d => uptoBulk d + 1
  | .slice elems spare => uptoBulkAll elems + uptoBulkAll spare + 1
  | .agg parts => uptoBulkAll parts + 1
  | .iface _ d => uptoBulk d + 1
  | .map entries => uptoBulkEntries entries + 1
  | .held _ => 1
def uptoBulkAll {H : Type} : List (DataW H) → Nat
  | [] => 0
  | d :: r => uptoBulk d + uptoBulkAll r
def uptoBulkEntries {H : Type} : List (Lit × DataW H) → Nat
  | [] => 0
  | x :: r => uptoBulkEntry x + uptoBulkEntries r
def uptoBulkEntry {H : Type} : Lit × DataW H → Nat
  | (.string bytes, d) => bytes.length + uptoBulk d + 1
  | (_, d) => uptoBulk d + 1
 end
def uptoSmall : (H : Type) → List (DataW H) → Bool := fun _ ds => decide (uptoBulkAll ds ≤ 1048576)
def OpenSpec.upto (s : _root_.Go.ChangeSpec) : _root_.Go.OpenSpec := { _root_.Go.OpenSpec.ofChange s with cond := some uptoSmall }

/-- 'laws.FnMoveJoints', WHERE WHAT IT READS IS OF BULK AT MOST 1048576: true; the input reads as it did. -/
def fnMoveJointsUptoRow : OpenClaim := { program := "ytcoaahfnbgkofaa", sum := "edd9d9fc1d998e5639b5776e2be6afa523a1c664e4be841ba4c5b603bb3d4931", func := "loop.example/robotcell/laws.FnMoveJoints", spec := "fnMoveJoints", unfollowed := true, recurses := true, apart := false, narrowed := true }
def FnMoveJointsUptoSaid : Prop := fnMoveJointsUptoRow.holds Try.pinned (OpenSpec.upto fnMoveJointsSpec)

/-- 'laws.FnMoveTime', WHERE WHAT IT READS IS OF BULK AT MOST 1048576: true; the input reads as it did. -/
def fnMoveTimeUptoRow : OpenClaim := { program := "ytcoaahfnbgkofaa", sum := "edd9d9fc1d998e5639b5776e2be6afa523a1c664e4be841ba4c5b603bb3d4931", func := "loop.example/robotcell/laws.FnMoveTime", spec := "fnMoveTime", unfollowed := true, recurses := true, apart := false, narrowed := true }
def FnMoveTimeUptoSaid : Prop := fnMoveTimeUptoRow.holds Try.pinned (OpenSpec.upto fnMoveTimeSpec)

/-- 'laws.FnLinePoints', WHERE WHAT IT READS IS OF BULK AT MOST 1048576: true; the input reads as it did. -/
def fnLinePointsUptoRow : OpenClaim := { program := "ytcoaahfnbgkofaa", sum := "edd9d9fc1d998e5639b5776e2be6afa523a1c664e4be841ba4c5b603bb3d4931", func := "loop.example/robotcell/laws.FnLinePoints", spec := "fnLinePoints", apart := false, narrowed := true }
def FnLinePointsUptoSaid : Prop := fnLinePointsUptoRow.holds Try.pinned (OpenSpec.upto fnLinePointsSpec)

/-- 'laws.FnExactMoveJoints', WHERE WHAT IT READS IS OF BULK AT MOST 1048576: true; the input reads as it did. -/
def fnExactMoveJointsUptoRow : OpenClaim := { program := "ytcoaahfnbgkofaa", sum := "edd9d9fc1d998e5639b5776e2be6afa523a1c664e4be841ba4c5b603bb3d4931", func := "loop.example/robotcell/laws.FnExactMoveJoints", spec := "fnExactMoveJoints", unfollowed := true, recurses := true, apart := false, narrowed := true }
def FnExactMoveJointsUptoSaid : Prop := fnExactMoveJointsUptoRow.holds Try.pinned (OpenSpec.upto fnExactMoveJointsSpec)

/-- 'laws.FnExactMoveTime', WHERE WHAT IT READS IS OF BULK AT MOST 1048576: true; the input reads as it did. -/
def fnExactMoveTimeUptoRow : OpenClaim := { program := "ytcoaahfnbgkofaa", sum := "edd9d9fc1d998e5639b5776e2be6afa523a1c664e4be841ba4c5b603bb3d4931", func := "loop.example/robotcell/laws.FnExactMoveTime", spec := "fnExactMoveTime", unfollowed := true, recurses := true, apart := false, narrowed := true }
def FnExactMoveTimeUptoSaid : Prop := fnExactMoveTimeUptoRow.holds Try.pinned (OpenSpec.upto fnExactMoveTimeSpec)

/-- 'laws.FnExactLinePoints', WHERE WHAT IT READS IS OF BULK AT MOST 1048576: true; the input reads as it did. -/
def fnExactLinePointsUptoRow : OpenClaim := { program := "ytcoaahfnbgkofaa", sum := "edd9d9fc1d998e5639b5776e2be6afa523a1c664e4be841ba4c5b603bb3d4931", func := "loop.example/robotcell/laws.FnExactLinePoints", spec := "fnExactLinePoints", apart := false, narrowed := true }
def FnExactLinePointsUptoSaid : Prop := fnExactLinePointsUptoRow.holds Try.pinned (OpenSpec.upto fnExactLinePointsSpec)

end Rows
end Go.Proofs.Ytcoaahfnbgkofaa
