/-
  No cell of these rows narrows 'for every input' (looked for: loops, veiled, ifaces, maps, wideKeys, modest, calm, conditions, laid).
  DERIVED. THE GIVEN ROWS OF THIS SEAT. 9 by the template 'for every input the law returns true; each argument reads behind the call as it read before'; 0 by the template 'total and deterministic' (their statements: YtlbheofomjakmaaTotals.lean).
  GIVEN WITH THE SEED: the statements are not yours to turn. If you find one false, say at which input.
  Laid BY PROGRAM, IN A SANDBOX (cutbox-rows.mjs): the forced cells as the released guide's own fill.sh prints them over the translation b4236ac300320d50… (all of the seat's roots in one cut). By AI agents, Wed Nov 11 2026. No macro, syntax, notation, axiom, sorry.
-/
import Derived.Test.YtlbheofomjakmaaChecked
import GoSem.Claim
import GoSem.ClaimJoined
import GoSem.ClaimMapViews
import Derived.JoinedTies
import Derived.KernelRfl
namespace Go.Proofs.Ytlbheofomjakmaa
/- THE CELL 'sum', in the pinned program and in every row, IS THE sha256 OF THE DUMP (.gsa) THAT YtlbheofomjakmaaProg.lean LOADS. Nothing in Lean hashes anything: it is a label: what it is worth is what the hold of that sum in a sandbox is worth. -/
noncomputable def Try.pinned : Pinned := { name := "ytlbheofomjakmaa", sum := "b4236ac300320d503d00b9e342c5c759b7e5bf8be0ac28d272111f2daf963525", checked := Try.checked }
namespace Rows
def none {H : Type} : Left H := { results := [], args := [] }

/-- 'laws.FnCurveValid': WHATEVER THE INPUT: true; the input reads as it did. -/
def fnCurveValidSpec : ChangeSpec := { name := "fnCurveValid", fn := fun _ => fun
  | [d] => { results := [.lit (.bool true)], args := [d] }
  | _ => none }
def fnCurveValidRow : OpenClaim := { program := "ytlbheofomjakmaa", sum := "b4236ac300320d503d00b9e342c5c759b7e5bf8be0ac28d272111f2daf963525", func := "loop.example/robotcell/laws.FnCurveValid", spec := "fnCurveValid", apart := false }
def FnCurveValidSaid : Prop := fnCurveValidRow.holds Try.pinned (OpenSpec.ofChange fnCurveValidSpec)

/-- ITS FALSE NEIGHBOUR: 'it returns false'. Refute it at one input. -/
def fnCurveValidWrong : ChangeSpec := { name := "fnCurveValid", fn := fun _ => fun
  | [d] => { results := [.lit (.bool false)], args := [d] }
  | _ => none }
def FnCurveValidWrongFalsely : Prop := fnCurveValidRow.holds Try.pinned (OpenSpec.ofChange fnCurveValidWrong)

/-- 'laws.FnCurvePoint': WHATEVER THE INPUT: true; the input reads as it did. -/
def fnCurvePointSpec : ChangeSpec := { name := "fnCurvePoint", fn := fun _ => fun
  | [d] => { results := [.lit (.bool true)], args := [d] }
  | _ => none }
def fnCurvePointRow : OpenClaim := { program := "ytlbheofomjakmaa", sum := "b4236ac300320d503d00b9e342c5c759b7e5bf8be0ac28d272111f2daf963525", func := "loop.example/robotcell/laws.FnCurvePoint", spec := "fnCurvePoint", apart := false }
def FnCurvePointSaid : Prop := fnCurvePointRow.holds Try.pinned (OpenSpec.ofChange fnCurvePointSpec)

/-- ITS FALSE NEIGHBOUR: 'it returns false'. Refute it at one input. -/
def fnCurvePointWrong : ChangeSpec := { name := "fnCurvePoint", fn := fun _ => fun
  | [d] => { results := [.lit (.bool false)], args := [d] }
  | _ => none }
def FnCurvePointWrongFalsely : Prop := fnCurvePointRow.holds Try.pinned (OpenSpec.ofChange fnCurvePointWrong)

/-- 'laws.FnCurvePoints': WHATEVER THE INPUT: true; the input reads as it did. -/
def fnCurvePointsSpec : ChangeSpec := { name := "fnCurvePoints", fn := fun _ => fun
  | [d] => { results := [.lit (.bool true)], args := [d] }
  | _ => none }
def fnCurvePointsRow : OpenClaim := { program := "ytlbheofomjakmaa", sum := "b4236ac300320d503d00b9e342c5c759b7e5bf8be0ac28d272111f2daf963525", func := "loop.example/robotcell/laws.FnCurvePoints", spec := "fnCurvePoints", apart := false }
def FnCurvePointsSaid : Prop := fnCurvePointsRow.holds Try.pinned (OpenSpec.ofChange fnCurvePointsSpec)

/-- ITS FALSE NEIGHBOUR: 'it returns false'. Refute it at one input. -/
def fnCurvePointsWrong : ChangeSpec := { name := "fnCurvePoints", fn := fun _ => fun
  | [d] => { results := [.lit (.bool false)], args := [d] }
  | _ => none }
def FnCurvePointsWrongFalsely : Prop := fnCurvePointsRow.holds Try.pinned (OpenSpec.ofChange fnCurvePointsWrong)

/-- 'laws.FnBoxOf': WHATEVER THE INPUT: true; the input reads as it did. -/
def fnBoxOfSpec : ChangeSpec := { name := "fnBoxOf", fn := fun _ => fun
  | [d] => { results := [.lit (.bool true)], args := [d] }
  | _ => none }
def fnBoxOfRow : OpenClaim := { program := "ytlbheofomjakmaa", sum := "b4236ac300320d503d00b9e342c5c759b7e5bf8be0ac28d272111f2daf963525", func := "loop.example/robotcell/laws.FnBoxOf", spec := "fnBoxOf", apart := false }
def FnBoxOfSaid : Prop := fnBoxOfRow.holds Try.pinned (OpenSpec.ofChange fnBoxOfSpec)

/-- ITS FALSE NEIGHBOUR: 'it returns false'. Refute it at one input. -/
def fnBoxOfWrong : ChangeSpec := { name := "fnBoxOf", fn := fun _ => fun
  | [d] => { results := [.lit (.bool false)], args := [d] }
  | _ => none }
def FnBoxOfWrongFalsely : Prop := fnBoxOfRow.holds Try.pinned (OpenSpec.ofChange fnBoxOfWrong)

/-- 'laws.FnCurveLine': WHATEVER THE INPUT: true; the input reads as it did. -/
def fnCurveLineSpec : ChangeSpec := { name := "fnCurveLine", fn := fun _ => fun
  | [d] => { results := [.lit (.bool true)], args := [d] }
  | _ => none }
def fnCurveLineRow : OpenClaim := { program := "ytlbheofomjakmaa", sum := "b4236ac300320d503d00b9e342c5c759b7e5bf8be0ac28d272111f2daf963525", func := "loop.example/robotcell/laws.FnCurveLine", spec := "fnCurveLine", apart := false }
def FnCurveLineSaid : Prop := fnCurveLineRow.holds Try.pinned (OpenSpec.ofChange fnCurveLineSpec)

/-- ITS FALSE NEIGHBOUR: 'it returns false'. Refute it at one input. -/
def fnCurveLineWrong : ChangeSpec := { name := "fnCurveLine", fn := fun _ => fun
  | [d] => { results := [.lit (.bool false)], args := [d] }
  | _ => none }
def FnCurveLineWrongFalsely : Prop := fnCurveLineRow.holds Try.pinned (OpenSpec.ofChange fnCurveLineWrong)

/-- 'laws.FnExactCurveValid': WHATEVER THE INPUT: true; the input reads as it did. -/
def fnExactCurveValidSpec : ChangeSpec := { name := "fnExactCurveValid", fn := fun _ => fun
  | [d] => { results := [.lit (.bool true)], args := [d] }
  | _ => none }
def fnExactCurveValidRow : OpenClaim := { program := "ytlbheofomjakmaa", sum := "b4236ac300320d503d00b9e342c5c759b7e5bf8be0ac28d272111f2daf963525", func := "loop.example/robotcell/laws.FnExactCurveValid", spec := "fnExactCurveValid", apart := false }
def FnExactCurveValidSaid : Prop := fnExactCurveValidRow.holds Try.pinned (OpenSpec.ofChange fnExactCurveValidSpec)

/-- ITS FALSE NEIGHBOUR: 'it returns false'. Refute it at one input. -/
def fnExactCurveValidWrong : ChangeSpec := { name := "fnExactCurveValid", fn := fun _ => fun
  | [d] => { results := [.lit (.bool false)], args := [d] }
  | _ => none }
def FnExactCurveValidWrongFalsely : Prop := fnExactCurveValidRow.holds Try.pinned (OpenSpec.ofChange fnExactCurveValidWrong)

/-- 'laws.FnExactCurvePoint': WHATEVER THE INPUT: true; the input reads as it did. -/
def fnExactCurvePointSpec : ChangeSpec := { name := "fnExactCurvePoint", fn := fun _ => fun
  | [d1, d2] => { results := [.lit (.bool true)], args := [d1, d2] }
  | _ => none }
def fnExactCurvePointRow : OpenClaim := { program := "ytlbheofomjakmaa", sum := "b4236ac300320d503d00b9e342c5c759b7e5bf8be0ac28d272111f2daf963525", func := "loop.example/robotcell/laws.FnExactCurvePoint", spec := "fnExactCurvePoint", apart := false }
def FnExactCurvePointSaid : Prop := fnExactCurvePointRow.holds Try.pinned (OpenSpec.ofChange fnExactCurvePointSpec)

/-- ITS FALSE NEIGHBOUR: 'it returns false'. Refute it at one input. -/
def fnExactCurvePointWrong : ChangeSpec := { name := "fnExactCurvePoint", fn := fun _ => fun
  | [d1, d2] => { results := [.lit (.bool false)], args := [d1, d2] }
  | _ => none }
def FnExactCurvePointWrongFalsely : Prop := fnExactCurvePointRow.holds Try.pinned (OpenSpec.ofChange fnExactCurvePointWrong)

/-- 'laws.FnExactCurvePoints': WHATEVER THE INPUT: true; the input reads as it did. -/
def fnExactCurvePointsSpec : ChangeSpec := { name := "fnExactCurvePoints", fn := fun _ => fun
  | [d1, d2] => { results := [.lit (.bool true)], args := [d1, d2] }
  | _ => none }
def fnExactCurvePointsRow : OpenClaim := { program := "ytlbheofomjakmaa", sum := "b4236ac300320d503d00b9e342c5c759b7e5bf8be0ac28d272111f2daf963525", func := "loop.example/robotcell/laws.FnExactCurvePoints", spec := "fnExactCurvePoints", apart := false }
def FnExactCurvePointsSaid : Prop := fnExactCurvePointsRow.holds Try.pinned (OpenSpec.ofChange fnExactCurvePointsSpec)

/-- ITS FALSE NEIGHBOUR: 'it returns false'. Refute it at one input. -/
def fnExactCurvePointsWrong : ChangeSpec := { name := "fnExactCurvePoints", fn := fun _ => fun
  | [d1, d2] => { results := [.lit (.bool false)], args := [d1, d2] }
  | _ => none }
def FnExactCurvePointsWrongFalsely : Prop := fnExactCurvePointsRow.holds Try.pinned (OpenSpec.ofChange fnExactCurvePointsWrong)

/-- 'laws.FnExactBoxOf': WHATEVER THE INPUT: true; the input reads as it did. -/
def fnExactBoxOfSpec : ChangeSpec := { name := "fnExactBoxOf", fn := fun _ => fun
  | [d] => { results := [.lit (.bool true)], args := [d] }
  | _ => none }
def fnExactBoxOfRow : OpenClaim := { program := "ytlbheofomjakmaa", sum := "b4236ac300320d503d00b9e342c5c759b7e5bf8be0ac28d272111f2daf963525", func := "loop.example/robotcell/laws.FnExactBoxOf", spec := "fnExactBoxOf", apart := false }
def FnExactBoxOfSaid : Prop := fnExactBoxOfRow.holds Try.pinned (OpenSpec.ofChange fnExactBoxOfSpec)

/-- ITS FALSE NEIGHBOUR: 'it returns false'. Refute it at one input. -/
def fnExactBoxOfWrong : ChangeSpec := { name := "fnExactBoxOf", fn := fun _ => fun
  | [d] => { results := [.lit (.bool false)], args := [d] }
  | _ => none }
def FnExactBoxOfWrongFalsely : Prop := fnExactBoxOfRow.holds Try.pinned (OpenSpec.ofChange fnExactBoxOfWrong)

/- THE SECOND FORM. 'bulk': how many values and letters a reading holds, each counted each time it is reached (what is shared counts as often as it is met; a slice's spare places count too). A statement '..UptoSaid' is the law's where the arguments, and the package variables that the reading takes, are together of bulk at most 1048576: NARROWER than '..Said'. Prove '..Said' where nothing that the law and all that it calls make is longer than what came in: it says more and counts as full. Else prove '..UptoSaid'. A law counts once. -/
mutual
def uptoBulk {H : Type} : DataW H → Nat
  | .lit (.string bytes) => bytes.length + 1
  | .lit _ => 1
  | .nil => 1
  | .ptr d => uptoBulk d + 1
  | .slice elems spare => uptoBulkAll elems + uptoBulkAll spare + 1
  | .agg parts => uptoBulkAll parts + 1
  | .iface _ d => uptoBulk d + 1
  | .map entries => uptoBulkEntries entries + 1
  | .held _ => 1
def uptoBulkAll {H : Type} : List (DataW H) → Nat
  | [] => 0
  | d :: r => uptoBulk d + uptoBulkAll r
def uptoBulkEntries {H : Type} : List (Lit × DataW H) → Nat
  | [] => 0
  | x :: r => uptoBulkEntry x + uptoBulkEntries r
def uptoBulkEntry {H : Type} : Lit × DataW H → Nat
  | (.string bytes, d) => bytes.length + uptoBulk d + 1
  | (_, d) => uptoBulk d + 1
 end
def uptoSmall : (H : Type) → List (DataW H) → Bool := fun _ ds => decide (uptoBulkAll ds ≤ 1048576)
def OpenSpec.upto (s : _root_.Go.ChangeSpec) : _root_.Go.OpenSpec := { _root_.Go.OpenSpec.ofChange s with cond := some uptoSmall }

/-- 'laws.FnCurveValid', WHERE WHAT IT READS IS OF BULK AT MOST 1048576: true; the input reads as it did. -/
def fnCurveValidUptoRow : OpenClaim := { program := "ytlbheofomjakmaa", sum := "b4236ac300320d503d00b9e342c5c759b7e5bf8be0ac28d272111f2daf963525", func := "loop.example/robotcell/laws.FnCurveValid", spec := "fnCurveValid", apart := false, narrowed := true }
def FnCurveValidUptoSaid : Prop := fnCurveValidUptoRow.holds Try.pinned (OpenSpec.upto fnCurveValidSpec)

/-- 'laws.FnCurvePoint', WHERE WHAT IT READS IS OF BULK AT MOST 1048576: true; the input reads as it did. -/
def fnCurvePointUptoRow : OpenClaim := { program := "ytlbheofomjakmaa", sum := "b4236ac300320d503d00b9e342c5c759b7e5bf8be0ac28d272111f2daf963525", func := "loop.example/robotcell/laws.FnCurvePoint", spec := "fnCurvePoint", apart := false, narrowed := true }
def FnCurvePointUptoSaid : Prop := fnCurvePointUptoRow.holds Try.pinned (OpenSpec.upto fnCurvePointSpec)

/-- 'laws.FnCurvePoints', WHERE WHAT IT READS IS OF BULK AT MOST 1048576: true; the input reads as it did. -/
def fnCurvePointsUptoRow : OpenClaim := { program := "ytlbheofomjakmaa", sum := "b4236ac300320d503d00b9e342c5c759b7e5bf8be0ac28d272111f2daf963525", func := "loop.example/robotcell/laws.FnCurvePoints", spec := "fnCurvePoints", apart := false, narrowed := true }
def FnCurvePointsUptoSaid : Prop := fnCurvePointsUptoRow.holds Try.pinned (OpenSpec.upto fnCurvePointsSpec)

/-- 'laws.FnBoxOf', WHERE WHAT IT READS IS OF BULK AT MOST 1048576: true; the input reads as it did. -/
def fnBoxOfUptoRow : OpenClaim := { program := "ytlbheofomjakmaa", sum := "b4236ac300320d503d00b9e342c5c759b7e5bf8be0ac28d272111f2daf963525", func := "loop.example/robotcell/laws.FnBoxOf", spec := "fnBoxOf", apart := false, narrowed := true }
def FnBoxOfUptoSaid : Prop := fnBoxOfUptoRow.holds Try.pinned (OpenSpec.upto fnBoxOfSpec)

/-- 'laws.FnCurveLine', WHERE WHAT IT READS IS OF BULK AT MOST 1048576: true; the input reads as it did. -/
def fnCurveLineUptoRow : OpenClaim := { program := "ytlbheofomjakmaa", sum := "b4236ac300320d503d00b9e342c5c759b7e5bf8be0ac28d272111f2daf963525", func := "loop.example/robotcell/laws.FnCurveLine", spec := "fnCurveLine", apart := false, narrowed := true }
def FnCurveLineUptoSaid : Prop := fnCurveLineUptoRow.holds Try.pinned (OpenSpec.upto fnCurveLineSpec)

/-- 'laws.FnExactCurveValid', WHERE WHAT IT READS IS OF BULK AT MOST 1048576: true; the input reads as it did. -/
def fnExactCurveValidUptoRow : OpenClaim := { program := "ytlbheofomjakmaa", sum := "b4236ac300320d503d00b9e342c5c759b7e5bf8be0ac28d272111f2daf963525", func := "loop.example/robotcell/laws.FnExactCurveValid", spec := "fnExactCurveValid", apart := false, narrowed := true }
def FnExactCurveValidUptoSaid : Prop := fnExactCurveValidUptoRow.holds Try.pinned (OpenSpec.upto fnExactCurveValidSpec)

/-- 'laws.FnExactCurvePoint', WHERE WHAT IT READS IS OF BULK AT MOST 1048576: true; the input reads as it did. -/
def fnExactCurvePointUptoRow : OpenClaim := { program := "ytlbheofomjakmaa", sum := "b4236ac300320d503d00b9e342c5c759b7e5bf8be0ac28d272111f2daf963525", func := "loop.example/robotcell/laws.FnExactCurvePoint", spec := "fnExactCurvePoint", apart := false, narrowed := true }
def FnExactCurvePointUptoSaid : Prop := fnExactCurvePointUptoRow.holds Try.pinned (OpenSpec.upto fnExactCurvePointSpec)

/-- 'laws.FnExactCurvePoints', WHERE WHAT IT READS IS OF BULK AT MOST 1048576: true; the input reads as it did. -/
def fnExactCurvePointsUptoRow : OpenClaim := { program := "ytlbheofomjakmaa", sum := "b4236ac300320d503d00b9e342c5c759b7e5bf8be0ac28d272111f2daf963525", func := "loop.example/robotcell/laws.FnExactCurvePoints", spec := "fnExactCurvePoints", apart := false, narrowed := true }
def FnExactCurvePointsUptoSaid : Prop := fnExactCurvePointsUptoRow.holds Try.pinned (OpenSpec.upto fnExactCurvePointsSpec)

/-- 'laws.FnExactBoxOf', WHERE WHAT IT READS IS OF BULK AT MOST 1048576: true; the input reads as it did. -/
def fnExactBoxOfUptoRow : OpenClaim := { program := "ytlbheofomjakmaa", sum := "b4236ac300320d503d00b9e342c5c759b7e5bf8be0ac28d272111f2daf963525", func := "loop.example/robotcell/laws.FnExactBoxOf", spec := "fnExactBoxOf", apart := false, narrowed := true }
def FnExactBoxOfUptoSaid : Prop := fnExactBoxOfUptoRow.holds Try.pinned (OpenSpec.upto fnExactBoxOfSpec)

end Rows
end Go.Proofs.Ytlbheofomjakmaa
