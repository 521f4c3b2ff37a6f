/-
  No cell of these rows narrows 'for every input' (looked for: loops, veiled, ifaces, maps, wideKeys, modest, calm, conditions, laid).
  DERIVED. THE GIVEN ROWS OF THIS SEAT. 7 by the template 'for every input the law returns true; each argument reads behind the call as it read before'; 0 by the template 'total and deterministic' (their statements: YtdklplohboeifaaTotals.lean).
  GIVEN WITH THE SEED: the statements are not yours to turn. If you find one false, say at which input.
  Laid BY PROGRAM, IN A SANDBOX (cutbox-rows.mjs): the forced cells as the released guide's own fill.sh prints them over the translation 485c3fac7735ad22… (all of the seat's roots in one cut). By AI agents, Wed Nov 11 2026. No macro, syntax, notation, axiom, sorry.
-/
import Derived.Test.YtdklplohboeifaaChecked
import GoSem.Claim
import GoSem.ClaimJoined
import GoSem.ClaimMapViews
import Derived.JoinedTies
import Derived.KernelRfl
namespace Go.Proofs.Ytdklplohboeifaa
/- THE CELL 'sum', in the pinned program and in every row, IS THE sha256 OF THE DUMP (.gsa) THAT YtdklplohboeifaaProg.lean LOADS. Nothing in Lean hashes anything: it is a label: what it is worth is what the hold of that sum in a sandbox is worth. -/
noncomputable def Try.pinned : Pinned := { name := "ytdklplohboeifaa", sum := "485c3fac7735ad22393c4cce8e057228c42d4eaaf81f5d37ef8939860f981151", checked := Try.checked }
namespace Rows
def none {H : Type} : Left H := { results := [], args := [] }

/-- 'laws.FnGripStep': WHATEVER THE INPUT: true; the input reads as it did. -/
def fnGripStepSpec : ChangeSpec := { name := "fnGripStep", fn := fun _ => fun
  | [d] => { results := [.lit (.bool true)], args := [d] }
  | _ => none }
def fnGripStepRow : OpenClaim := { program := "ytdklplohboeifaa", sum := "485c3fac7735ad22393c4cce8e057228c42d4eaaf81f5d37ef8939860f981151", func := "loop.example/robotcell/laws.FnGripStep", spec := "fnGripStep", apart := false }
def FnGripStepSaid : Prop := fnGripStepRow.holds Try.pinned (OpenSpec.ofChange fnGripStepSpec)

/-- ITS FALSE NEIGHBOUR: 'it returns false'. Refute it at one input. -/
def fnGripStepWrong : ChangeSpec := { name := "fnGripStep", fn := fun _ => fun
  | [d] => { results := [.lit (.bool false)], args := [d] }
  | _ => none }
def FnGripStepWrongFalsely : Prop := fnGripStepRow.holds Try.pinned (OpenSpec.ofChange fnGripStepWrong)

/-- 'laws.FnGripTime': WHATEVER THE INPUT: true; the input reads as it did. -/
def fnGripTimeSpec : ChangeSpec := { name := "fnGripTime", fn := fun _ => fun
  | [d] => { results := [.lit (.bool true)], args := [d] }
  | _ => none }
def fnGripTimeRow : OpenClaim := { program := "ytdklplohboeifaa", sum := "485c3fac7735ad22393c4cce8e057228c42d4eaaf81f5d37ef8939860f981151", func := "loop.example/robotcell/laws.FnGripTime", spec := "fnGripTime", apart := false }
def FnGripTimeSaid : Prop := fnGripTimeRow.holds Try.pinned (OpenSpec.ofChange fnGripTimeSpec)

/-- ITS FALSE NEIGHBOUR: 'it returns false'. Refute it at one input. -/
def fnGripTimeWrong : ChangeSpec := { name := "fnGripTime", fn := fun _ => fun
  | [d] => { results := [.lit (.bool false)], args := [d] }
  | _ => none }
def FnGripTimeWrongFalsely : Prop := fnGripTimeRow.holds Try.pinned (OpenSpec.ofChange fnGripTimeWrong)

/-- 'laws.FnHoldsWeight': WHATEVER THE INPUT: true; the input reads as it did. -/
def fnHoldsWeightSpec : ChangeSpec := { name := "fnHoldsWeight", fn := fun _ => fun
  | [d] => { results := [.lit (.bool true)], args := [d] }
  | _ => none }
def fnHoldsWeightRow : OpenClaim := { program := "ytdklplohboeifaa", sum := "485c3fac7735ad22393c4cce8e057228c42d4eaaf81f5d37ef8939860f981151", func := "loop.example/robotcell/laws.FnHoldsWeight", spec := "fnHoldsWeight", apart := false }
def FnHoldsWeightSaid : Prop := fnHoldsWeightRow.holds Try.pinned (OpenSpec.ofChange fnHoldsWeightSpec)

/-- ITS FALSE NEIGHBOUR: 'it returns false'. Refute it at one input. -/
def fnHoldsWeightWrong : ChangeSpec := { name := "fnHoldsWeight", fn := fun _ => fun
  | [d] => { results := [.lit (.bool false)], args := [d] }
  | _ => none }
def FnHoldsWeightWrongFalsely : Prop := fnHoldsWeightRow.holds Try.pinned (OpenSpec.ofChange fnHoldsWeightWrong)

/-- 'laws.FnGripObject': WHATEVER THE INPUT: true; the input reads as it did. -/
def fnGripObjectSpec : ChangeSpec := { name := "fnGripObject", fn := fun _ => fun
  | [d] => { results := [.lit (.bool true)], args := [d] }
  | _ => none }
def fnGripObjectRow : OpenClaim := { program := "ytdklplohboeifaa", sum := "485c3fac7735ad22393c4cce8e057228c42d4eaaf81f5d37ef8939860f981151", func := "loop.example/robotcell/laws.FnGripObject", spec := "fnGripObject", apart := false }
def FnGripObjectSaid : Prop := fnGripObjectRow.holds Try.pinned (OpenSpec.ofChange fnGripObjectSpec)

/-- ITS FALSE NEIGHBOUR: 'it returns false'. Refute it at one input. -/
def fnGripObjectWrong : ChangeSpec := { name := "fnGripObject", fn := fun _ => fun
  | [d] => { results := [.lit (.bool false)], args := [d] }
  | _ => none }
def FnGripObjectWrongFalsely : Prop := fnGripObjectRow.holds Try.pinned (OpenSpec.ofChange fnGripObjectWrong)

/-- 'laws.FnExactGripStep': WHATEVER THE INPUT: true; the input reads as it did. -/
def fnExactGripStepSpec : ChangeSpec := { name := "fnExactGripStep", fn := fun _ => fun
  | [d1, d2, d3, d4] => { results := [.lit (.bool true)], args := [d1, d2, d3, d4] }
  | _ => none }
def fnExactGripStepRow : OpenClaim := { program := "ytdklplohboeifaa", sum := "485c3fac7735ad22393c4cce8e057228c42d4eaaf81f5d37ef8939860f981151", func := "loop.example/robotcell/laws.FnExactGripStep", spec := "fnExactGripStep", apart := false }
def FnExactGripStepSaid : Prop := fnExactGripStepRow.holds Try.pinned (OpenSpec.ofChange fnExactGripStepSpec)

/-- ITS FALSE NEIGHBOUR: 'it returns false'. Refute it at one input. -/
def fnExactGripStepWrong : ChangeSpec := { name := "fnExactGripStep", fn := fun _ => fun
  | [d1, d2, d3, d4] => { results := [.lit (.bool false)], args := [d1, d2, d3, d4] }
  | _ => none }
def FnExactGripStepWrongFalsely : Prop := fnExactGripStepRow.holds Try.pinned (OpenSpec.ofChange fnExactGripStepWrong)

/-- 'laws.FnExactGripTime': WHATEVER THE INPUT: true; the input reads as it did. -/
def fnExactGripTimeSpec : ChangeSpec := { name := "fnExactGripTime", fn := fun _ => fun
  | [d1, d2, d3, d4] => { results := [.lit (.bool true)], args := [d1, d2, d3, d4] }
  | _ => none }
def fnExactGripTimeRow : OpenClaim := { program := "ytdklplohboeifaa", sum := "485c3fac7735ad22393c4cce8e057228c42d4eaaf81f5d37ef8939860f981151", func := "loop.example/robotcell/laws.FnExactGripTime", spec := "fnExactGripTime", apart := false }
def FnExactGripTimeSaid : Prop := fnExactGripTimeRow.holds Try.pinned (OpenSpec.ofChange fnExactGripTimeSpec)

/-- ITS FALSE NEIGHBOUR: 'it returns false'. Refute it at one input. -/
def fnExactGripTimeWrong : ChangeSpec := { name := "fnExactGripTime", fn := fun _ => fun
  | [d1, d2, d3, d4] => { results := [.lit (.bool false)], args := [d1, d2, d3, d4] }
  | _ => none }
def FnExactGripTimeWrongFalsely : Prop := fnExactGripTimeRow.holds Try.pinned (OpenSpec.ofChange fnExactGripTimeWrong)

/-- 'laws.FnExactHoldsWeight': WHATEVER THE INPUT: true; the input reads as it did. -/
def fnExactHoldsWeightSpec : ChangeSpec := { name := "fnExactHoldsWeight", fn := fun _ => fun
  | [d1, d2, d3] => { results := [.lit (.bool true)], args := [d1, d2, d3] }
  | _ => none }
def fnExactHoldsWeightRow : OpenClaim := { program := "ytdklplohboeifaa", sum := "485c3fac7735ad22393c4cce8e057228c42d4eaaf81f5d37ef8939860f981151", func := "loop.example/robotcell/laws.FnExactHoldsWeight", spec := "fnExactHoldsWeight", apart := false }
def FnExactHoldsWeightSaid : Prop := fnExactHoldsWeightRow.holds Try.pinned (OpenSpec.ofChange fnExactHoldsWeightSpec)

/-- ITS FALSE NEIGHBOUR: 'it returns false'. Refute it at one input. -/
def fnExactHoldsWeightWrong : ChangeSpec := { name := "fnExactHoldsWeight", fn := fun _ => fun
  | [d1, d2, d3] => { results := [.lit (.bool false)], args := [d1, d2, d3] }
  | _ => none }
def FnExactHoldsWeightWrongFalsely : Prop := fnExactHoldsWeightRow.holds Try.pinned (OpenSpec.ofChange fnExactHoldsWeightWrong)

/- THE SECOND FORM. 'bulk': how many values and letters a reading holds, each counted each time it is reached (what is shared counts as often as it is met; a slice's spare places count too). A statement '..UptoSaid' is the law's where the arguments, and the package variables that the reading takes, are together of bulk at most 1048576: NARROWER than '..Said'. Prove '..Said' where nothing that the law and all that it calls make is longer than what came in: it says more and counts as full. Else prove '..UptoSaid'. A law counts once. -/
mutual
def uptoBulk {H : Type} : DataW H → Nat
  | .lit (.string bytes) => bytes.length + 1
  | .lit _ => 1
  | .nil => 1
  | .ptr d => uptoBulk d + 1
  | .slice elems spare => uptoBulkAll elems + uptoBulkAll spare + 1
  | .agg parts => uptoBulkAll parts + 1
  | .iface _ d => uptoBulk d + 1
  | .map entries => uptoBulkEntries entries + 1
  | .held _ => 1
def uptoBulkAll {H : Type} : List (DataW H) → Nat
  | [] => 0
  | d :: r => uptoBulk d + uptoBulkAll r
def uptoBulkEntries {H : Type} : List (Lit × DataW H) → Nat
  | [] => 0
  | x :: r => uptoBulkEntry x + uptoBulkEntries r
def uptoBulkEntry {H : Type} : Lit × DataW H → Nat
  | (.string bytes, d) => bytes.length + uptoBulk d + 1
  | (_, d) => uptoBulk d + 1
 end
def uptoSmall : (H : Type) → List (DataW H) → Bool := fun _ ds => decide (uptoBulkAll ds ≤ 1048576)
def OpenSpec.upto (s : _root_.Go.ChangeSpec) : _root_.Go.OpenSpec := { _root_.Go.OpenSpec.ofChange s with cond := some uptoSmall }

/-- 'laws.FnGripStep', WHERE WHAT IT READS IS OF BULK AT MOST 1048576: true; the input reads as it did. -/
def fnGripStepUptoRow : OpenClaim := { program := "ytdklplohboeifaa", sum := "485c3fac7735ad22393c4cce8e057228c42d4eaaf81f5d37ef8939860f981151", func := "loop.example/robotcell/laws.FnGripStep", spec := "fnGripStep", apart := false, narrowed := true }
def FnGripStepUptoSaid : Prop := fnGripStepUptoRow.holds Try.pinned (OpenSpec.upto fnGripStepSpec)

/-- 'laws.FnGripTime', WHERE WHAT IT READS IS OF BULK AT MOST 1048576: true; the input reads as it did. -/
def fnGripTimeUptoRow : OpenClaim := { program := "ytdklplohboeifaa", sum := "485c3fac7735ad22393c4cce8e057228c42d4eaaf81f5d37ef8939860f981151", func := "loop.example/robotcell/laws.FnGripTime", spec := "fnGripTime", apart := false, narrowed := true }
def FnGripTimeUptoSaid : Prop := fnGripTimeUptoRow.holds Try.pinned (OpenSpec.upto fnGripTimeSpec)

/-- 'laws.FnHoldsWeight', WHERE WHAT IT READS IS OF BULK AT MOST 1048576: true; the input reads as it did. -/
def fnHoldsWeightUptoRow : OpenClaim := { program := "ytdklplohboeifaa", sum := "485c3fac7735ad22393c4cce8e057228c42d4eaaf81f5d37ef8939860f981151", func := "loop.example/robotcell/laws.FnHoldsWeight", spec := "fnHoldsWeight", apart := false, narrowed := true }
def FnHoldsWeightUptoSaid : Prop := fnHoldsWeightUptoRow.holds Try.pinned (OpenSpec.upto fnHoldsWeightSpec)

/-- 'laws.FnGripObject', WHERE WHAT IT READS IS OF BULK AT MOST 1048576: true; the input reads as it did. -/
def fnGripObjectUptoRow : OpenClaim := { program := "ytdklplohboeifaa", sum := "485c3fac7735ad22393c4cce8e057228c42d4eaaf81f5d37ef8939860f981151", func := "loop.example/robotcell/laws.FnGripObject", spec := "fnGripObject", apart := false, narrowed := true }
def FnGripObjectUptoSaid : Prop := fnGripObjectUptoRow.holds Try.pinned (OpenSpec.upto fnGripObjectSpec)

/-- 'laws.FnExactGripStep', WHERE WHAT IT READS IS OF BULK AT MOST 1048576: true; the input reads as it did. -/
def fnExactGripStepUptoRow : OpenClaim := { program := "ytdklplohboeifaa", sum := "485c3fac7735ad22393c4cce8e057228c42d4eaaf81f5d37ef8939860f981151", func := "loop.example/robotcell/laws.FnExactGripStep", spec := "fnExactGripStep", apart := false, narrowed := true }
def FnExactGripStepUptoSaid : Prop := fnExactGripStepUptoRow.holds Try.pinned (OpenSpec.upto fnExactGripStepSpec)

/-- 'laws.FnExactGripTime', WHERE WHAT IT READS IS OF BULK AT MOST 1048576: true; the input reads as it did. -/
def fnExactGripTimeUptoRow : OpenClaim := { program := "ytdklplohboeifaa", sum := "485c3fac7735ad22393c4cce8e057228c42d4eaaf81f5d37ef8939860f981151", func := "loop.example/robotcell/laws.FnExactGripTime", spec := "fnExactGripTime", apart := false, narrowed := true }
def FnExactGripTimeUptoSaid : Prop := fnExactGripTimeUptoRow.holds Try.pinned (OpenSpec.upto fnExactGripTimeSpec)

/-- 'laws.FnExactHoldsWeight', WHERE WHAT IT READS IS OF BULK AT MOST 1048576: true; the input reads as it did. -/
def fnExactHoldsWeightUptoRow : OpenClaim := { program := "ytdklplohboeifaa", sum := "485c3fac7735ad22393c4cce8e057228c42d4eaaf81f5d37ef8939860f981151", func := "loop.example/robotcell/laws.FnExactHoldsWeight", spec := "fnExactHoldsWeight", apart := false, narrowed := true }
def FnExactHoldsWeightUptoSaid : Prop := fnExactHoldsWeightUptoRow.holds Try.pinned (OpenSpec.upto fnExactHoldsWeightSpec)

end Rows
end Go.Proofs.Ytdklplohboeifaa
