/-
  No cell of these rows narrows 'for every input' (looked for: loops, veiled, ifaces, maps, wideKeys, modest, calm, conditions, laid).
  DERIVED. THE GIVEN ROWS OF THIS SEAT. 7 by the template 'for every input the law returns true; each argument reads behind the call as it read before'; 0 by the template 'total and deterministic' (their statements: YtgpoknehbadddaaTotals.lean).
  GIVEN WITH THE SEED: the statements are not yours to turn. If you find one false, say at which input.
  Laid BY PROGRAM, IN A SANDBOX (cutbox-rows.mjs): the forced cells as the released guide's own fill.sh prints them over the translation 3d903970da883db1… (all of the seat's roots in one cut). By AI agents, Wed Nov 11 2026. No macro, syntax, notation, axiom, sorry.
-/
import Derived.Test.YtgpoknehbadddaaChecked
import GoSem.Claim
import GoSem.ClaimJoined
import GoSem.ClaimMapViews
import Derived.JoinedTies
import Derived.KernelRfl
namespace Go.Proofs.Ytgpoknehbadddaa
/- THE CELL 'sum', in the pinned program and in every row, IS THE sha256 OF THE DUMP (.gsa) THAT YtgpoknehbadddaaProg.lean LOADS. Nothing in Lean hashes anything: it is a label: what it is worth is what the hold of that sum in a sandbox is worth. -/
noncomputable def Try.pinned : Pinned := { name := "ytgpoknehbadddaa", sum := "3d903970da883db10ca0ce7683f25a0757165eaeb477936a0938ad0b1fbfb3cd", checked := Try.checked }
namespace Rows
def none {H : Type} : Left H := { results := [], args := [] }

/-- 'laws.FnSegmentSquare': WHATEVER THE INPUT: true; the input reads as it did. -/
def fnSegmentSquareSpec : ChangeSpec := { name := "fnSegmentSquare", fn := fun _ => fun
  | [d] => { results := [.lit (.bool true)], args := [d] }
  | _ => none }
def fnSegmentSquareRow : OpenClaim := { program := "ytgpoknehbadddaa", sum := "3d903970da883db10ca0ce7683f25a0757165eaeb477936a0938ad0b1fbfb3cd", func := "loop.example/robotcell/laws.FnSegmentSquare", spec := "fnSegmentSquare", apart := false }
def FnSegmentSquareSaid : Prop := fnSegmentSquareRow.holds Try.pinned (OpenSpec.ofChange fnSegmentSquareSpec)

/-- ITS FALSE NEIGHBOUR: 'it returns false'. Refute it at one input. -/
def fnSegmentSquareWrong : ChangeSpec := { name := "fnSegmentSquare", fn := fun _ => fun
  | [d] => { results := [.lit (.bool false)], args := [d] }
  | _ => none }
def FnSegmentSquareWrongFalsely : Prop := fnSegmentSquareRow.holds Try.pinned (OpenSpec.ofChange fnSegmentSquareWrong)

/-- 'laws.FnPolygonSquare': WHATEVER THE INPUT: true; the input reads as it did. -/
def fnPolygonSquareSpec : ChangeSpec := { name := "fnPolygonSquare", fn := fun _ => fun
  | [d] => { results := [.lit (.bool true)], args := [d] }
  | _ => none }
def fnPolygonSquareRow : OpenClaim := { program := "ytgpoknehbadddaa", sum := "3d903970da883db10ca0ce7683f25a0757165eaeb477936a0938ad0b1fbfb3cd", func := "loop.example/robotcell/laws.FnPolygonSquare", spec := "fnPolygonSquare", unfollowed := true, recurses := true, apart := false }
def FnPolygonSquareSaid : Prop := fnPolygonSquareRow.holds Try.pinned (OpenSpec.ofChange fnPolygonSquareSpec)

/-- ITS FALSE NEIGHBOUR: 'it returns false'. Refute it at one input. -/
def fnPolygonSquareWrong : ChangeSpec := { name := "fnPolygonSquare", fn := fun _ => fun
  | [d] => { results := [.lit (.bool false)], args := [d] }
  | _ => none }
def FnPolygonSquareWrongFalsely : Prop := fnPolygonSquareRow.holds Try.pinned (OpenSpec.ofChange fnPolygonSquareWrong)

/-- 'laws.FnKeepsClear': WHATEVER THE INPUT: true; the input reads as it did. -/
def fnKeepsClearSpec : ChangeSpec := { name := "fnKeepsClear", fn := fun _ => fun
  | [d] => { results := [.lit (.bool true)], args := [d] }
  | _ => none }
def fnKeepsClearRow : OpenClaim := { program := "ytgpoknehbadddaa", sum := "3d903970da883db10ca0ce7683f25a0757165eaeb477936a0938ad0b1fbfb3cd", func := "loop.example/robotcell/laws.FnKeepsClear", spec := "fnKeepsClear", unfollowed := true, recurses := true, apart := false }
def FnKeepsClearSaid : Prop := fnKeepsClearRow.holds Try.pinned (OpenSpec.ofChange fnKeepsClearSpec)

/-- ITS FALSE NEIGHBOUR: 'it returns false'. Refute it at one input. -/
def fnKeepsClearWrong : ChangeSpec := { name := "fnKeepsClear", fn := fun _ => fun
  | [d] => { results := [.lit (.bool false)], args := [d] }
  | _ => none }
def FnKeepsClearWrongFalsely : Prop := fnKeepsClearRow.holds Try.pinned (OpenSpec.ofChange fnKeepsClearWrong)

/-- 'laws.FnClearDistance': WHATEVER THE INPUT: true; the input reads as it did. -/
def fnClearDistanceSpec : ChangeSpec := { name := "fnClearDistance", fn := fun _ => fun
  | [d] => { results := [.lit (.bool true)], args := [d] }
  | _ => none }
def fnClearDistanceRow : OpenClaim := { program := "ytgpoknehbadddaa", sum := "3d903970da883db10ca0ce7683f25a0757165eaeb477936a0938ad0b1fbfb3cd", func := "loop.example/robotcell/laws.FnClearDistance", spec := "fnClearDistance", unfollowed := true, recurses := true, apart := false }
def FnClearDistanceSaid : Prop := fnClearDistanceRow.holds Try.pinned (OpenSpec.ofChange fnClearDistanceSpec)

/-- ITS FALSE NEIGHBOUR: 'it returns false'. Refute it at one input. -/
def fnClearDistanceWrong : ChangeSpec := { name := "fnClearDistance", fn := fun _ => fun
  | [d] => { results := [.lit (.bool false)], args := [d] }
  | _ => none }
def FnClearDistanceWrongFalsely : Prop := fnClearDistanceRow.holds Try.pinned (OpenSpec.ofChange fnClearDistanceWrong)

/-- 'laws.FnExactSegmentSquare': WHATEVER THE INPUT: true; the input reads as it did. -/
def fnExactSegmentSquareSpec : ChangeSpec := { name := "fnExactSegmentSquare", fn := fun _ => fun
  | [d1, d2, d3] => { results := [.lit (.bool true)], args := [d1, d2, d3] }
  | _ => none }
def fnExactSegmentSquareRow : OpenClaim := { program := "ytgpoknehbadddaa", sum := "3d903970da883db10ca0ce7683f25a0757165eaeb477936a0938ad0b1fbfb3cd", func := "loop.example/robotcell/laws.FnExactSegmentSquare", spec := "fnExactSegmentSquare", apart := false }
def FnExactSegmentSquareSaid : Prop := fnExactSegmentSquareRow.holds Try.pinned (OpenSpec.ofChange fnExactSegmentSquareSpec)

/-- ITS FALSE NEIGHBOUR: 'it returns false'. Refute it at one input. -/
def fnExactSegmentSquareWrong : ChangeSpec := { name := "fnExactSegmentSquare", fn := fun _ => fun
  | [d1, d2, d3] => { results := [.lit (.bool false)], args := [d1, d2, d3] }
  | _ => none }
def FnExactSegmentSquareWrongFalsely : Prop := fnExactSegmentSquareRow.holds Try.pinned (OpenSpec.ofChange fnExactSegmentSquareWrong)

/-- 'laws.FnExactPolygonSquare': WHATEVER THE INPUT: true; the input reads as it did. -/
def fnExactPolygonSquareSpec : ChangeSpec := { name := "fnExactPolygonSquare", fn := fun _ => fun
  | [d1, d2] => { results := [.lit (.bool true)], args := [d1, d2] }
  | _ => none }
def fnExactPolygonSquareRow : OpenClaim := { program := "ytgpoknehbadddaa", sum := "3d903970da883db10ca0ce7683f25a0757165eaeb477936a0938ad0b1fbfb3cd", func := "loop.example/robotcell/laws.FnExactPolygonSquare", spec := "fnExactPolygonSquare", unfollowed := true, recurses := true, apart := false }
def FnExactPolygonSquareSaid : Prop := fnExactPolygonSquareRow.holds Try.pinned (OpenSpec.ofChange fnExactPolygonSquareSpec)

/-- ITS FALSE NEIGHBOUR: 'it returns false'. Refute it at one input. -/
def fnExactPolygonSquareWrong : ChangeSpec := { name := "fnExactPolygonSquare", fn := fun _ => fun
  | [d1, d2] => { results := [.lit (.bool false)], args := [d1, d2] }
  | _ => none }
def FnExactPolygonSquareWrongFalsely : Prop := fnExactPolygonSquareRow.holds Try.pinned (OpenSpec.ofChange fnExactPolygonSquareWrong)

/-- 'laws.FnExactKeepsClear': WHATEVER THE INPUT: true; the input reads as it did. -/
def fnExactKeepsClearSpec : ChangeSpec := { name := "fnExactKeepsClear", fn := fun _ => fun
  | [d1, d2, d3] => { results := [.lit (.bool true)], args := [d1, d2, d3] }
  | _ => none }
def fnExactKeepsClearRow : OpenClaim := { program := "ytgpoknehbadddaa", sum := "3d903970da883db10ca0ce7683f25a0757165eaeb477936a0938ad0b1fbfb3cd", func := "loop.example/robotcell/laws.FnExactKeepsClear", spec := "fnExactKeepsClear", unfollowed := true, recurses := true, apart := false }
def FnExactKeepsClearSaid : Prop := fnExactKeepsClearRow.holds Try.pinned (OpenSpec.ofChange fnExactKeepsClearSpec)

/-- ITS FALSE NEIGHBOUR: 'it returns false'. Refute it at one input. -/
def fnExactKeepsClearWrong : ChangeSpec := { name := "fnExactKeepsClear", fn := fun _ => fun
  | [d1, d2, d3] => { results := [.lit (.bool false)], args := [d1, d2, d3] }
  | _ => none }
def FnExactKeepsClearWrongFalsely : Prop := fnExactKeepsClearRow.holds Try.pinned (OpenSpec.ofChange fnExactKeepsClearWrong)

/- THE SECOND FORM. 'bulk': how many values and letters a reading holds, each counted each time it is reached (what is shared counts as often as it is met; a slice's spare places count too). A statement '..UptoSaid' is the law's where the arguments, and the package variables that the reading takes, are together of bulk at most 1048576: NARROWER than '..Said'. Prove '..Said' where nothing that the law and all that it calls make is longer than what came in: it says more and counts as full. Else prove '..UptoSaid'. A law counts once. -/
mutual
def uptoBulk {H : Type} : DataW H → Nat
  | .lit (.string bytes) => bytes.length + 1
  | .lit _ => 1
  | .nil => 1
  | .ptr d => uptoBulk d + 1
  | .slice elems spare => uptoBulkAll elems + uptoBulkAll spare + 1
  | .agg parts => uptoBulkAll parts + 1
  | .iface _ d => uptoBulk d + 1
  | .map entries => uptoBulkEntries entries + 1
  | .held _ => 1
def uptoBulkAll {H : Type} : List (DataW H) → Nat
  | [] => 0
  | d :: r => uptoBulk d + uptoBulkAll r
def uptoBulkEntries {H : Type} : List (Lit × DataW H) → Nat
  | [] => 0
  | x :: r => uptoBulkEntry x + uptoBulkEntries r
def uptoBulkEntry {H : Type} : Lit × DataW H → Nat
  | (.string bytes, d) => bytes.length + uptoBulk d + 1
  | (_, d) => uptoBulk d + 1
 end
def uptoSmall : (H : Type) → List (DataW H) → Bool := fun _ ds => decide (uptoBulkAll ds ≤ 1048576)
def OpenSpec.upto (s : _root_.Go.ChangeSpec) : _root_.Go.OpenSpec := { _root_.Go.OpenSpec.ofChange s with cond := some uptoSmall }

/-- 'laws.FnSegmentSquare', WHERE WHAT IT READS IS OF BULK AT MOST 1048576: true; the input reads as it did. -/
def fnSegmentSquareUptoRow : OpenClaim := { program := "ytgpoknehbadddaa", sum := "3d903970da883db10ca0ce7683f25a0757165eaeb477936a0938ad0b1fbfb3cd", func := "loop.example/robotcell/laws.FnSegmentSquare", spec := "fnSegmentSquare", apart := false, narrowed := true }
def FnSegmentSquareUptoSaid : Prop := fnSegmentSquareUptoRow.holds Try.pinned (OpenSpec.upto fnSegmentSquareSpec)

/-- 'laws.FnPolygonSquare', WHERE WHAT IT READS IS OF BULK AT MOST 1048576: true; the input reads as it did. -/
def fnPolygonSquareUptoRow : OpenClaim := { program := "ytgpoknehbadddaa", sum := "3d903970da883db10ca0ce7683f25a0757165eaeb477936a0938ad0b1fbfb3cd", func := "loop.example/robotcell/laws.FnPolygonSquare", spec := "fnPolygonSquare", unfollowed := true, recurses := true, apart := false, narrowed := true }
def FnPolygonSquareUptoSaid : Prop := fnPolygonSquareUptoRow.holds Try.pinned (OpenSpec.upto fnPolygonSquareSpec)

/-- 'laws.FnKeepsClear', WHERE WHAT IT READS IS OF BULK AT MOST 1048576: true; the input reads as it did. -/
def fnKeepsClearUptoRow : OpenClaim := { program := "ytgpoknehbadddaa", sum := "3d903970da883db10ca0ce7683f25a0757165eaeb477936a0938ad0b1fbfb3cd", func := "loop.example/robotcell/laws.FnKeepsClear", spec := "fnKeepsClear", unfollowed := true, recurses := true, apart := false, narrowed := true }
def FnKeepsClearUptoSaid : Prop := fnKeepsClearUptoRow.holds Try.pinned (OpenSpec.upto fnKeepsClearSpec)

/-- 'laws.FnClearDistance', WHERE WHAT IT READS IS OF BULK AT MOST 1048576: true; the input reads as it did. -/
def fnClearDistanceUptoRow : OpenClaim := { program := "ytgpoknehbadddaa", sum := "3d903970da883db10ca0ce7683f25a0757165eaeb477936a0938ad0b1fbfb3cd", func := "loop.example/robotcell/laws.FnClearDistance", spec := "fnClearDistance", unfollowed := true, recurses := true, apart := false, narrowed := true }
def FnClearDistanceUptoSaid : Prop := fnClearDistanceUptoRow.holds Try.pinned (OpenSpec.upto fnClearDistanceSpec)

/-- 'laws.FnExactSegmentSquare', WHERE WHAT IT READS IS OF BULK AT MOST 1048576: true; the input reads as it did. -/
def fnExactSegmentSquareUptoRow : OpenClaim := { program := "ytgpoknehbadddaa", sum := "3d903970da883db10ca0ce7683f25a0757165eaeb477936a0938ad0b1fbfb3cd", func := "loop.example/robotcell/laws.FnExactSegmentSquare", spec := "fnExactSegmentSquare", apart := false, narrowed := true }
def FnExactSegmentSquareUptoSaid : Prop := fnExactSegmentSquareUptoRow.holds Try.pinned (OpenSpec.upto fnExactSegmentSquareSpec)

/-- 'laws.FnExactPolygonSquare', WHERE WHAT IT READS IS OF BULK AT MOST 1048576: true; the input reads as it did. -/
def fnExactPolygonSquareUptoRow : OpenClaim := { program := "ytgpoknehbadddaa", sum := "3d903970da883db10ca0ce7683f25a0757165eaeb477936a0938ad0b1fbfb3cd", func := "loop.example/robotcell/laws.FnExactPolygonSquare", spec := "fnExactPolygonSquare", unfollowed := true, recurses := true, apart := false, narrowed := true }
def FnExactPolygonSquareUptoSaid : Prop := fnExactPolygonSquareUptoRow.holds Try.pinned (OpenSpec.upto fnExactPolygonSquareSpec)

/-- 'laws.FnExactKeepsClear', WHERE WHAT IT READS IS OF BULK AT MOST 1048576: true; the input reads as it did. -/
def fnExactKeepsClearUptoRow : OpenClaim := { program := "ytgpoknehbadddaa", sum := "3d903970da883db10ca0ce7683f25a0757165eaeb477936a0938ad0b1fbfb3cd", func := "loop.example/robotcell/laws.FnExactKeepsClear", spec := "fnExactKeepsClear", unfollowed := true, recurses := true, apart := false, narrowed := true }
def FnExactKeepsClearUptoSaid : Prop := fnExactKeepsClearUptoRow.holds Try.pinned (OpenSpec.upto fnExactKeepsClearSpec)

end Rows
end Go.Proofs.Ytgpoknehbadddaa
