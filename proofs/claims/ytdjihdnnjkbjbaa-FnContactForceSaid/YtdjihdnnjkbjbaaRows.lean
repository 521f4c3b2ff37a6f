/-
  No cell of these rows narrows 'for every input' (looked for: loops, veiled, ifaces, maps, wideKeys, modest, calm, conditions, laid).
  DERIVED. THE GIVEN ROWS OF THIS SEAT. 6 by the template 'for every input the law returns true; each argument reads behind the call as it read before'; 0 by the template 'total and deterministic' (their statements: YtdjihdnnjkbjbaaTotals.lean).
  GIVEN WITH THE SEED: the statements are not yours to turn. If you find one false, say at which input.
  Laid BY PROGRAM, IN A SANDBOX (cutbox-rows.mjs): the forced cells as the released guide's own fill.sh prints them over the translation 257ea67a54095be5… (all of the seat's roots in one cut). By AI agents, Wed Nov 11 2026. No macro, syntax, notation, axiom, sorry.
-/
import Derived.Test.YtdjihdnnjkbjbaaChecked
import GoSem.Claim
import GoSem.ClaimJoined
import GoSem.ClaimMapViews
import Derived.JoinedTies
import Derived.KernelRfl
namespace Go.Proofs.Ytdjihdnnjkbjbaa
/- THE CELL 'sum', in the pinned program and in every row, IS THE sha256 OF THE DUMP (.gsa) THAT YtdjihdnnjkbjbaaProg.lean LOADS. Nothing in Lean hashes anything: it is a label: what it is worth is what the hold of that sum in a sandbox is worth. -/
noncomputable def Try.pinned : Pinned := { name := "ytdjihdnnjkbjbaa", sum := "257ea67a54095be5affca0272bf22bbcd682d80e092ddd003e762600636d0a4b", checked := Try.checked }
namespace Rows
def none {H : Type} : Left H := { results := [], args := [] }

/-- 'laws.FnContactForce': WHATEVER THE INPUT: true; the input reads as it did. -/
def fnContactForceSpec : ChangeSpec := { name := "fnContactForce", fn := fun _ => fun
  | [d] => { results := [.lit (.bool true)], args := [d] }
  | _ => none }
def fnContactForceRow : OpenClaim := { program := "ytdjihdnnjkbjbaa", sum := "257ea67a54095be5affca0272bf22bbcd682d80e092ddd003e762600636d0a4b", func := "loop.example/robotcell/laws.FnContactForce", spec := "fnContactForce", apart := false }
def FnContactForceSaid : Prop := fnContactForceRow.holds Try.pinned (OpenSpec.ofChange fnContactForceSpec)

/-- ITS FALSE NEIGHBOUR: 'it returns false'. Refute it at one input. -/
def fnContactForceWrong : ChangeSpec := { name := "fnContactForce", fn := fun _ => fun
  | [d] => { results := [.lit (.bool false)], args := [d] }
  | _ => none }
def FnContactForceWrongFalsely : Prop := fnContactForceRow.holds Try.pinned (OpenSpec.ofChange fnContactForceWrong)

/-- 'laws.FnPressStep': WHATEVER THE INPUT: true; the input reads as it did. -/
def fnPressStepSpec : ChangeSpec := { name := "fnPressStep", fn := fun _ => fun
  | [d] => { results := [.lit (.bool true)], args := [d] }
  | _ => none }
def fnPressStepRow : OpenClaim := { program := "ytdjihdnnjkbjbaa", sum := "257ea67a54095be5affca0272bf22bbcd682d80e092ddd003e762600636d0a4b", func := "loop.example/robotcell/laws.FnPressStep", spec := "fnPressStep", unfollowed := true, recurses := true, apart := false }
def FnPressStepSaid : Prop := fnPressStepRow.holds Try.pinned (OpenSpec.ofChange fnPressStepSpec)

/-- ITS FALSE NEIGHBOUR: 'it returns false'. Refute it at one input. -/
def fnPressStepWrong : ChangeSpec := { name := "fnPressStep", fn := fun _ => fun
  | [d] => { results := [.lit (.bool false)], args := [d] }
  | _ => none }
def FnPressStepWrongFalsely : Prop := fnPressStepRow.holds Try.pinned (OpenSpec.ofChange fnPressStepWrong)

/-- 'laws.FnPressTrace': WHATEVER THE INPUT: true; the input reads as it did. -/
def fnPressTraceSpec : ChangeSpec := { name := "fnPressTrace", fn := fun _ => fun
  | [d] => { results := [.lit (.bool true)], args := [d] }
  | _ => none }
def fnPressTraceRow : OpenClaim := { program := "ytdjihdnnjkbjbaa", sum := "257ea67a54095be5affca0272bf22bbcd682d80e092ddd003e762600636d0a4b", func := "loop.example/robotcell/laws.FnPressTrace", spec := "fnPressTrace", unfollowed := true, recurses := true, apart := false }
def FnPressTraceSaid : Prop := fnPressTraceRow.holds Try.pinned (OpenSpec.ofChange fnPressTraceSpec)

/-- ITS FALSE NEIGHBOUR: 'it returns false'. Refute it at one input. -/
def fnPressTraceWrong : ChangeSpec := { name := "fnPressTrace", fn := fun _ => fun
  | [d] => { results := [.lit (.bool false)], args := [d] }
  | _ => none }
def FnPressTraceWrongFalsely : Prop := fnPressTraceRow.holds Try.pinned (OpenSpec.ofChange fnPressTraceWrong)

/-- 'laws.FnExactContactForce': WHATEVER THE INPUT: true; the input reads as it did. -/
def fnExactContactForceSpec : ChangeSpec := { name := "fnExactContactForce", fn := fun _ => fun
  | [d1, d2, d3] => { results := [.lit (.bool true)], args := [d1, d2, d3] }
  | _ => none }
def fnExactContactForceRow : OpenClaim := { program := "ytdjihdnnjkbjbaa", sum := "257ea67a54095be5affca0272bf22bbcd682d80e092ddd003e762600636d0a4b", func := "loop.example/robotcell/laws.FnExactContactForce", spec := "fnExactContactForce", apart := false }
def FnExactContactForceSaid : Prop := fnExactContactForceRow.holds Try.pinned (OpenSpec.ofChange fnExactContactForceSpec)

/-- ITS FALSE NEIGHBOUR: 'it returns false'. Refute it at one input. -/
def fnExactContactForceWrong : ChangeSpec := { name := "fnExactContactForce", fn := fun _ => fun
  | [d1, d2, d3] => { results := [.lit (.bool false)], args := [d1, d2, d3] }
  | _ => none }
def FnExactContactForceWrongFalsely : Prop := fnExactContactForceRow.holds Try.pinned (OpenSpec.ofChange fnExactContactForceWrong)

/-- 'laws.FnExactPressStep': WHATEVER THE INPUT: true; the input reads as it did. -/
def fnExactPressStepSpec : ChangeSpec := { name := "fnExactPressStep", fn := fun _ => fun
  | [d1, d2, d3, d4, d5] => { results := [.lit (.bool true)], args := [d1, d2, d3, d4, d5] }
  | _ => none }
def fnExactPressStepRow : OpenClaim := { program := "ytdjihdnnjkbjbaa", sum := "257ea67a54095be5affca0272bf22bbcd682d80e092ddd003e762600636d0a4b", func := "loop.example/robotcell/laws.FnExactPressStep", spec := "fnExactPressStep", unfollowed := true, recurses := true, apart := false }
def FnExactPressStepSaid : Prop := fnExactPressStepRow.holds Try.pinned (OpenSpec.ofChange fnExactPressStepSpec)

/-- ITS FALSE NEIGHBOUR: 'it returns false'. Refute it at one input. -/
def fnExactPressStepWrong : ChangeSpec := { name := "fnExactPressStep", fn := fun _ => fun
  | [d1, d2, d3, d4, d5] => { results := [.lit (.bool false)], args := [d1, d2, d3, d4, d5] }
  | _ => none }
def FnExactPressStepWrongFalsely : Prop := fnExactPressStepRow.holds Try.pinned (OpenSpec.ofChange fnExactPressStepWrong)

/-- 'laws.FnExactPressTrace': WHATEVER THE INPUT: true; the input reads as it did. -/
def fnExactPressTraceSpec : ChangeSpec := { name := "fnExactPressTrace", fn := fun _ => fun
  | [d1, d2, d3, d4, d5, d6] => { results := [.lit (.bool true)], args := [d1, d2, d3, d4, d5, d6] }
  | _ => none }
def fnExactPressTraceRow : OpenClaim := { program := "ytdjihdnnjkbjbaa", sum := "257ea67a54095be5affca0272bf22bbcd682d80e092ddd003e762600636d0a4b", func := "loop.example/robotcell/laws.FnExactPressTrace", spec := "fnExactPressTrace", unfollowed := true, recurses := true, apart := false }
def FnExactPressTraceSaid : Prop := fnExactPressTraceRow.holds Try.pinned (OpenSpec.ofChange fnExactPressTraceSpec)

/-- ITS FALSE NEIGHBOUR: 'it returns false'. Refute it at one input. -/
def fnExactPressTraceWrong : ChangeSpec := { name := "fnExactPressTrace", fn := fun _ => fun
  | [d1, d2, d3, d4, d5, d6] => { results := [.lit (.bool false)], args := [d1, d2, d3, d4, d5, d6] }
  | _ => none }
def FnExactPressTraceWrongFalsely : Prop := fnExactPressTraceRow.holds Try.pinned (OpenSpec.ofChange fnExactPressTraceWrong)

/- THE SECOND FORM. 'bulk': how many values and letters a reading holds, each counted each time it is reached (what is shared counts as often as it is met; a slice's spare places count too). A statement '..UptoSaid' is the law's where the arguments, and the package variables that the reading takes, are together of bulk at most 1048576: NARROWER than '..Said'. Prove '..Said' where nothing that the law and all that it calls make is longer than what came in: it says more and counts as full. Else prove '..UptoSaid'. A law counts once. -/
mutual
def uptoBulk {H : Type} : DataW H → Nat
  | .lit (.string bytes) => bytes.length + 1
  | .lit _ => 1
  | .nil => 1
  | .ptr d => uptoBulk d + 1
  | .slice elems spare => uptoBulkAll elems + uptoBulkAll spare + 1
  | .agg parts => uptoBulkAll parts + 1
  | .iface _ d => uptoBulk d + 1
  | .map entries => uptoBulkEntries entries + 1
  | .held _ => 1
def uptoBulkAll {H : Type} : List (DataW H) → Nat
  | [] => 0
  | d :: r => uptoBulk d + uptoBulkAll r
def uptoBulkEntries {H : Type} : List (Lit × DataW H) → Nat
  | [] => 0
  | x :: r => uptoBulkEntry x + uptoBulkEntries r
def uptoBulkEntry {H : Type} : Lit × DataW H → Nat
  | (.string bytes, d) => bytes.length + uptoBulk d + 1
  | (_, d) => uptoBulk d + 1
 end
def uptoSmall : (H : Type) → List (DataW H) → Bool := fun _ ds => decide (uptoBulkAll ds ≤ 1048576)
def OpenSpec.upto (s : _root_.Go.ChangeSpec) : _root_.Go.OpenSpec := { _root_.Go.OpenSpec.ofChange s with cond := some uptoSmall }

/-- 'laws.FnContactForce', WHERE WHAT IT READS IS OF BULK AT MOST 1048576: true; the input reads as it did. -/
def fnContactForceUptoRow : OpenClaim := { program := "ytdjihdnnjkbjbaa", sum := "257ea67a54095be5affca0272bf22bbcd682d80e092ddd003e762600636d0a4b", func := "loop.example/robotcell/laws.FnContactForce", spec := "fnContactForce", apart := false, narrowed := true }
def FnContactForceUptoSaid : Prop := fnContactForceUptoRow.holds Try.pinned (OpenSpec.upto fnContactForceSpec)

/-- 'laws.FnPressStep', WHERE WHAT IT READS IS OF BULK AT MOST 1048576: true; the input reads as it did. -/
def fnPressStepUptoRow : OpenClaim := { program := "ytdjihdnnjkbjbaa", sum := "257ea67a54095be5affca0272bf22bbcd682d80e092ddd003e762600636d0a4b", func := "loop.example/robotcell/laws.FnPressStep", spec := "fnPressStep", unfollowed := true, recurses := true, apart := false, narrowed := true }
def FnPressStepUptoSaid : Prop := fnPressStepUptoRow.holds Try.pinned (OpenSpec.upto fnPressStepSpec)

/-- 'laws.FnPressTrace', WHERE WHAT IT READS IS OF BULK AT MOST 1048576: true; the input reads as it did. -/
def fnPressTraceUptoRow : OpenClaim := { program := "ytdjihdnnjkbjbaa", sum := "257ea67a54095be5affca0272bf22bbcd682d80e092ddd003e762600636d0a4b", func := "loop.example/robotcell/laws.FnPressTrace", spec := "fnPressTrace", unfollowed := true, recurses := true, apart := false, narrowed := true }
def FnPressTraceUptoSaid : Prop := fnPressTraceUptoRow.holds Try.pinned (OpenSpec.upto fnPressTraceSpec)

/-- 'laws.FnExactContactForce', WHERE WHAT IT READS IS OF BULK AT MOST 1048576: true; the input reads as it did. -/
def fnExactContactForceUptoRow : OpenClaim := { program := "ytdjihdnnjkbjbaa", sum := "257ea67a54095be5affca0272bf22bbcd682d80e092ddd003e762600636d0a4b", func := "loop.example/robotcell/laws.FnExactContactForce", spec := "fnExactContactForce", apart := false, narrowed := true }
def FnExactContactForceUptoSaid : Prop := fnExactContactForceUptoRow.holds Try.pinned (OpenSpec.upto fnExactContactForceSpec)

/-- 'laws.FnExactPressStep', WHERE WHAT IT READS IS OF BULK AT MOST 1048576: true; the input reads as it did. -/
def fnExactPressStepUptoRow : OpenClaim := { program := "ytdjihdnnjkbjbaa", sum := "257ea67a54095be5affca0272bf22bbcd682d80e092ddd003e762600636d0a4b", func := "loop.example/robotcell/laws.FnExactPressStep", spec := "fnExactPressStep", unfollowed := true, recurses := true, apart := false, narrowed := true }
def FnExactPressStepUptoSaid : Prop := fnExactPressStepUptoRow.holds Try.pinned (OpenSpec.upto fnExactPressStepSpec)

/-- 'laws.FnExactPressTrace', WHERE WHAT IT READS IS OF BULK AT MOST 1048576: true; the input reads as it did. -/
def fnExactPressTraceUptoRow : OpenClaim := { program := "ytdjihdnnjkbjbaa", sum := "257ea67a54095be5affca0272bf22bbcd682d80e092ddd003e762600636d0a4b", func := "loop.example/robotcell/laws.FnExactPressTrace", spec := "fnExactPressTrace", unfollowed := true, recurses := true, apart := false, narrowed := true }
def FnExactPressTraceUptoSaid : Prop := fnExactPressTraceUptoRow.holds Try.pinned (OpenSpec.upto fnExactPressTraceSpec)

end Rows
end Go.Proofs.Ytdjihdnnjkbjbaa
