/-
  No cell of these rows narrows 'for every input' (looked for: loops, veiled, ifaces, maps, wideKeys, modest, calm, conditions, laid).
  DERIVED. THE GIVEN ROWS OF THIS SEAT. 11 by the template 'for every input the law returns true; each argument reads behind the call as it read before'; 0 by the template 'total and deterministic' (their statements: YtcamnkoiddighaaTotals.lean).
  GIVEN WITH THE SEED: the statements are not yours to turn. If you find one false, say at which input.
  Laid BY PROGRAM, IN A SANDBOX (cutbox-rows.mjs): the forced cells as the released guide's own fill.sh prints them over the translation 75dac4adb562e536… (all of the seat's roots in one cut). By AI agents, Wed Nov 11 2026. No macro, syntax, notation, axiom, sorry.
-/
import Derived.Test.YtcamnkoiddighaaChecked
import GoSem.Claim
import GoSem.ClaimJoined
import GoSem.ClaimMapViews
import Derived.JoinedTies
import Derived.KernelRfl
namespace Go.Proofs.Ytcamnkoiddighaa
/- THE CELL 'sum', in the pinned program and in every row, IS THE sha256 OF THE DUMP (.gsa) THAT YtcamnkoiddighaaProg.lean LOADS. Nothing in Lean hashes anything: it is a label: what it is worth is what the hold of that sum in a sandbox is worth. -/
noncomputable def Try.pinned : Pinned := { name := "ytcamnkoiddighaa", sum := "75dac4adb562e53626c60e8c488c9189bd132c7058438bd0e2a28427dd4b3bba", checked := Try.checked }
namespace Rows
def none {H : Type} : Left H := { results := [], args := [] }

/-- 'laws.FnStopDistance': WHATEVER THE INPUT: true; the input reads as it did. -/
def fnStopDistanceSpec : ChangeSpec := { name := "fnStopDistance", fn := fun _ => fun
  | [d] => { results := [.lit (.bool true)], args := [d] }
  | _ => none }
def fnStopDistanceRow : OpenClaim := { program := "ytcamnkoiddighaa", sum := "75dac4adb562e53626c60e8c488c9189bd132c7058438bd0e2a28427dd4b3bba", func := "loop.example/robotcell/laws.FnStopDistance", spec := "fnStopDistance", apart := false }
def FnStopDistanceSaid : Prop := fnStopDistanceRow.holds Try.pinned (OpenSpec.ofChange fnStopDistanceSpec)

/-- ITS FALSE NEIGHBOUR: 'it returns false'. Refute it at one input. -/
def fnStopDistanceWrong : ChangeSpec := { name := "fnStopDistance", fn := fun _ => fun
  | [d] => { results := [.lit (.bool false)], args := [d] }
  | _ => none }
def FnStopDistanceWrongFalsely : Prop := fnStopDistanceRow.holds Try.pinned (OpenSpec.ofChange fnStopDistanceWrong)

/-- 'laws.FnNextSpeed': WHATEVER THE INPUT: true; the input reads as it did. -/
def fnNextSpeedSpec : ChangeSpec := { name := "fnNextSpeed", fn := fun _ => fun
  | [d] => { results := [.lit (.bool true)], args := [d] }
  | _ => none }
def fnNextSpeedRow : OpenClaim := { program := "ytcamnkoiddighaa", sum := "75dac4adb562e53626c60e8c488c9189bd132c7058438bd0e2a28427dd4b3bba", func := "loop.example/robotcell/laws.FnNextSpeed", spec := "fnNextSpeed", apart := false }
def FnNextSpeedSaid : Prop := fnNextSpeedRow.holds Try.pinned (OpenSpec.ofChange fnNextSpeedSpec)

/-- ITS FALSE NEIGHBOUR: 'it returns false'. Refute it at one input. -/
def fnNextSpeedWrong : ChangeSpec := { name := "fnNextSpeed", fn := fun _ => fun
  | [d] => { results := [.lit (.bool false)], args := [d] }
  | _ => none }
def FnNextSpeedWrongFalsely : Prop := fnNextSpeedRow.holds Try.pinned (OpenSpec.ofChange fnNextSpeedWrong)

/-- 'laws.FnMotionProfile': WHATEVER THE INPUT: true; the input reads as it did. -/
def fnMotionProfileSpec : ChangeSpec := { name := "fnMotionProfile", fn := fun _ => fun
  | [d] => { results := [.lit (.bool true)], args := [d] }
  | _ => none }
def fnMotionProfileRow : OpenClaim := { program := "ytcamnkoiddighaa", sum := "75dac4adb562e53626c60e8c488c9189bd132c7058438bd0e2a28427dd4b3bba", func := "loop.example/robotcell/laws.FnMotionProfile", spec := "fnMotionProfile", unfollowed := true, recurses := true, apart := false }
def FnMotionProfileSaid : Prop := fnMotionProfileRow.holds Try.pinned (OpenSpec.ofChange fnMotionProfileSpec)

/-- ITS FALSE NEIGHBOUR: 'it returns false'. Refute it at one input. -/
def fnMotionProfileWrong : ChangeSpec := { name := "fnMotionProfile", fn := fun _ => fun
  | [d] => { results := [.lit (.bool false)], args := [d] }
  | _ => none }
def FnMotionProfileWrongFalsely : Prop := fnMotionProfileRow.holds Try.pinned (OpenSpec.ofChange fnMotionProfileWrong)

/-- 'laws.FnProfileTime': WHATEVER THE INPUT: true; the input reads as it did. -/
def fnProfileTimeSpec : ChangeSpec := { name := "fnProfileTime", fn := fun _ => fun
  | [d] => { results := [.lit (.bool true)], args := [d] }
  | _ => none }
def fnProfileTimeRow : OpenClaim := { program := "ytcamnkoiddighaa", sum := "75dac4adb562e53626c60e8c488c9189bd132c7058438bd0e2a28427dd4b3bba", func := "loop.example/robotcell/laws.FnProfileTime", spec := "fnProfileTime", unfollowed := true, recurses := true, apart := false }
def FnProfileTimeSaid : Prop := fnProfileTimeRow.holds Try.pinned (OpenSpec.ofChange fnProfileTimeSpec)

/-- ITS FALSE NEIGHBOUR: 'it returns false'. Refute it at one input. -/
def fnProfileTimeWrong : ChangeSpec := { name := "fnProfileTime", fn := fun _ => fun
  | [d] => { results := [.lit (.bool false)], args := [d] }
  | _ => none }
def FnProfileTimeWrongFalsely : Prop := fnProfileTimeRow.holds Try.pinned (OpenSpec.ofChange fnProfileTimeWrong)

/-- 'laws.FnProfileValid': WHATEVER THE INPUT: true; the input reads as it did. -/
def fnProfileValidSpec : ChangeSpec := { name := "fnProfileValid", fn := fun _ => fun
  | [d] => { results := [.lit (.bool true)], args := [d] }
  | _ => none }
def fnProfileValidRow : OpenClaim := { program := "ytcamnkoiddighaa", sum := "75dac4adb562e53626c60e8c488c9189bd132c7058438bd0e2a28427dd4b3bba", func := "loop.example/robotcell/laws.FnProfileValid", spec := "fnProfileValid", apart := false }
def FnProfileValidSaid : Prop := fnProfileValidRow.holds Try.pinned (OpenSpec.ofChange fnProfileValidSpec)

/-- ITS FALSE NEIGHBOUR: 'it returns false'. Refute it at one input. -/
def fnProfileValidWrong : ChangeSpec := { name := "fnProfileValid", fn := fun _ => fun
  | [d] => { results := [.lit (.bool false)], args := [d] }
  | _ => none }
def FnProfileValidWrongFalsely : Prop := fnProfileValidRow.holds Try.pinned (OpenSpec.ofChange fnProfileValidWrong)

/-- 'laws.FnProfileDistance': WHATEVER THE INPUT: true; the input reads as it did. -/
def fnProfileDistanceSpec : ChangeSpec := { name := "fnProfileDistance", fn := fun _ => fun
  | [d] => { results := [.lit (.bool true)], args := [d] }
  | _ => none }
def fnProfileDistanceRow : OpenClaim := { program := "ytcamnkoiddighaa", sum := "75dac4adb562e53626c60e8c488c9189bd132c7058438bd0e2a28427dd4b3bba", func := "loop.example/robotcell/laws.FnProfileDistance", spec := "fnProfileDistance", unfollowed := true, recurses := true, apart := false }
def FnProfileDistanceSaid : Prop := fnProfileDistanceRow.holds Try.pinned (OpenSpec.ofChange fnProfileDistanceSpec)

/-- ITS FALSE NEIGHBOUR: 'it returns false'. Refute it at one input. -/
def fnProfileDistanceWrong : ChangeSpec := { name := "fnProfileDistance", fn := fun _ => fun
  | [d] => { results := [.lit (.bool false)], args := [d] }
  | _ => none }
def FnProfileDistanceWrongFalsely : Prop := fnProfileDistanceRow.holds Try.pinned (OpenSpec.ofChange fnProfileDistanceWrong)

/-- 'laws.FnExactStopDistance': WHATEVER THE INPUT: true; the input reads as it did. -/
def fnExactStopDistanceSpec : ChangeSpec := { name := "fnExactStopDistance", fn := fun _ => fun
  | [d1, d2] => { results := [.lit (.bool true)], args := [d1, d2] }
  | _ => none }
def fnExactStopDistanceRow : OpenClaim := { program := "ytcamnkoiddighaa", sum := "75dac4adb562e53626c60e8c488c9189bd132c7058438bd0e2a28427dd4b3bba", func := "loop.example/robotcell/laws.FnExactStopDistance", spec := "fnExactStopDistance", apart := false }
def FnExactStopDistanceSaid : Prop := fnExactStopDistanceRow.holds Try.pinned (OpenSpec.ofChange fnExactStopDistanceSpec)

/-- ITS FALSE NEIGHBOUR: 'it returns false'. Refute it at one input. -/
def fnExactStopDistanceWrong : ChangeSpec := { name := "fnExactStopDistance", fn := fun _ => fun
  | [d1, d2] => { results := [.lit (.bool false)], args := [d1, d2] }
  | _ => none }
def FnExactStopDistanceWrongFalsely : Prop := fnExactStopDistanceRow.holds Try.pinned (OpenSpec.ofChange fnExactStopDistanceWrong)

/-- 'laws.FnExactNextSpeed': WHATEVER THE INPUT: true; the input reads as it did. -/
def fnExactNextSpeedSpec : ChangeSpec := { name := "fnExactNextSpeed", fn := fun _ => fun
  | [d1, d2, d3, d4] => { results := [.lit (.bool true)], args := [d1, d2, d3, d4] }
  | _ => none }
def fnExactNextSpeedRow : OpenClaim := { program := "ytcamnkoiddighaa", sum := "75dac4adb562e53626c60e8c488c9189bd132c7058438bd0e2a28427dd4b3bba", func := "loop.example/robotcell/laws.FnExactNextSpeed", spec := "fnExactNextSpeed", apart := false }
def FnExactNextSpeedSaid : Prop := fnExactNextSpeedRow.holds Try.pinned (OpenSpec.ofChange fnExactNextSpeedSpec)

/-- ITS FALSE NEIGHBOUR: 'it returns false'. Refute it at one input. -/
def fnExactNextSpeedWrong : ChangeSpec := { name := "fnExactNextSpeed", fn := fun _ => fun
  | [d1, d2, d3, d4] => { results := [.lit (.bool false)], args := [d1, d2, d3, d4] }
  | _ => none }
def FnExactNextSpeedWrongFalsely : Prop := fnExactNextSpeedRow.holds Try.pinned (OpenSpec.ofChange fnExactNextSpeedWrong)

/-- 'laws.FnExactMotionProfile': WHATEVER THE INPUT: true; the input reads as it did. -/
def fnExactMotionProfileSpec : ChangeSpec := { name := "fnExactMotionProfile", fn := fun _ => fun
  | [d1, d2, d3] => { results := [.lit (.bool true)], args := [d1, d2, d3] }
  | _ => none }
def fnExactMotionProfileRow : OpenClaim := { program := "ytcamnkoiddighaa", sum := "75dac4adb562e53626c60e8c488c9189bd132c7058438bd0e2a28427dd4b3bba", func := "loop.example/robotcell/laws.FnExactMotionProfile", spec := "fnExactMotionProfile", unfollowed := true, recurses := true, apart := false }
def FnExactMotionProfileSaid : Prop := fnExactMotionProfileRow.holds Try.pinned (OpenSpec.ofChange fnExactMotionProfileSpec)

/-- ITS FALSE NEIGHBOUR: 'it returns false'. Refute it at one input. -/
def fnExactMotionProfileWrong : ChangeSpec := { name := "fnExactMotionProfile", fn := fun _ => fun
  | [d1, d2, d3] => { results := [.lit (.bool false)], args := [d1, d2, d3] }
  | _ => none }
def FnExactMotionProfileWrongFalsely : Prop := fnExactMotionProfileRow.holds Try.pinned (OpenSpec.ofChange fnExactMotionProfileWrong)

/-- 'laws.FnExactProfileTime': WHATEVER THE INPUT: true; the input reads as it did. -/
def fnExactProfileTimeSpec : ChangeSpec := { name := "fnExactProfileTime", fn := fun _ => fun
  | [d1, d2, d3] => { results := [.lit (.bool true)], args := [d1, d2, d3] }
  | _ => none }
def fnExactProfileTimeRow : OpenClaim := { program := "ytcamnkoiddighaa", sum := "75dac4adb562e53626c60e8c488c9189bd132c7058438bd0e2a28427dd4b3bba", func := "loop.example/robotcell/laws.FnExactProfileTime", spec := "fnExactProfileTime", unfollowed := true, recurses := true, apart := false }
def FnExactProfileTimeSaid : Prop := fnExactProfileTimeRow.holds Try.pinned (OpenSpec.ofChange fnExactProfileTimeSpec)

/-- ITS FALSE NEIGHBOUR: 'it returns false'. Refute it at one input. -/
def fnExactProfileTimeWrong : ChangeSpec := { name := "fnExactProfileTime", fn := fun _ => fun
  | [d1, d2, d3] => { results := [.lit (.bool false)], args := [d1, d2, d3] }
  | _ => none }
def FnExactProfileTimeWrongFalsely : Prop := fnExactProfileTimeRow.holds Try.pinned (OpenSpec.ofChange fnExactProfileTimeWrong)

/-- 'laws.FnExactProfileValid': WHATEVER THE INPUT: true; the input reads as it did. -/
def fnExactProfileValidSpec : ChangeSpec := { name := "fnExactProfileValid", fn := fun _ => fun
  | [d1, d2, d3] => { results := [.lit (.bool true)], args := [d1, d2, d3] }
  | _ => none }
def fnExactProfileValidRow : OpenClaim := { program := "ytcamnkoiddighaa", sum := "75dac4adb562e53626c60e8c488c9189bd132c7058438bd0e2a28427dd4b3bba", func := "loop.example/robotcell/laws.FnExactProfileValid", spec := "fnExactProfileValid", apart := false }
def FnExactProfileValidSaid : Prop := fnExactProfileValidRow.holds Try.pinned (OpenSpec.ofChange fnExactProfileValidSpec)

/-- ITS FALSE NEIGHBOUR: 'it returns false'. Refute it at one input. -/
def fnExactProfileValidWrong : ChangeSpec := { name := "fnExactProfileValid", fn := fun _ => fun
  | [d1, d2, d3] => { results := [.lit (.bool false)], args := [d1, d2, d3] }
  | _ => none }
def FnExactProfileValidWrongFalsely : Prop := fnExactProfileValidRow.holds Try.pinned (OpenSpec.ofChange fnExactProfileValidWrong)

/- THE SECOND FORM. 'bulk': how many values and letters a reading holds, each counted each time it is reached (what is shared counts as often as it is met; a slice's spare places count too). A statement '..UptoSaid' is the law's where the arguments, and the package variables that the reading takes, are together of bulk at most 1048576: NARROWER than '..Said'. Prove '..Said' where nothing that the law and all that it calls make is longer than what came in: it says more and counts as full. Else prove '..UptoSaid'. A law counts once. -/
mutual
def uptoBulk {H : Type} : DataW H → Nat
  | .lit (.string bytes) => bytes.length + 1
  | .lit _ => 1
  | .nil => 1
  | .ptr d => uptoBulk d + 1
  | .slice elems spare => uptoBulkAll elems + uptoBulkAll spare + 1
  | .agg parts => uptoBulkAll parts + 1
  | .iface _ d => uptoBulk d + 1
  | .map entries => uptoBulkEntries entries + 1
  | .held _ => 1
def uptoBulkAll {H : Type} : List (DataW H) → Nat
  | [] => 0
  | d :: r => uptoBulk d + uptoBulkAll r
def uptoBulkEntries {H : Type} : List (Lit × DataW H) → Nat
  | [] => 0
  | x :: r => uptoBulkEntry x + uptoBulkEntries r
def uptoBulkEntry {H : Type} : Lit × DataW H → Nat
  | (.string bytes, d) => bytes.length + uptoBulk d + 1
  | (_, d) => uptoBulk d + 1
 end
def uptoSmall : (H : Type) → List (DataW H) → Bool := fun _ ds => decide (uptoBulkAll ds ≤ 1048576)
def OpenSpec.upto (s : _root_.Go.ChangeSpec) : _root_.Go.OpenSpec := { _root_.Go.OpenSpec.ofChange s with cond := some uptoSmall }

/-- 'laws.FnStopDistance', WHERE WHAT IT READS IS OF BULK AT MOST 1048576: true; the input reads as it did. -/
def fnStopDistanceUptoRow : OpenClaim := { program := "ytcamnkoiddighaa", sum := "75dac4adb562e53626c60e8c488c9189bd132c7058438bd0e2a28427dd4b3bba", func := "loop.example/robotcell/laws.FnStopDistance", spec := "fnStopDistance", apart := false, narrowed := true }
def FnStopDistanceUptoSaid : Prop := fnStopDistanceUptoRow.holds Try.pinned (OpenSpec.upto fnStopDistanceSpec)

/-- 'laws.FnNextSpeed', WHERE WHAT IT READS IS OF BULK AT MOST 1048576: true; the input reads as it did. -/
def fnNextSpeedUptoRow : OpenClaim := { program := "ytcamnkoiddighaa", sum := "75dac4adb562e53626c60e8c488c9189bd132c7058438bd0e2a28427dd4b3bba", func := "loop.example/robotcell/laws.FnNextSpeed", spec := "fnNextSpeed", apart := false, narrowed := true }
def FnNextSpeedUptoSaid : Prop := fnNextSpeedUptoRow.holds Try.pinned (OpenSpec.upto fnNextSpeedSpec)

/-- 'laws.FnMotionProfile', WHERE WHAT IT READS IS OF BULK AT MOST 1048576: true; the input reads as it did. -/
def fnMotionProfileUptoRow : OpenClaim := { program := "ytcamnkoiddighaa", sum := "75dac4adb562e53626c60e8c488c9189bd132c7058438bd0e2a28427dd4b3bba", func := "loop.example/robotcell/laws.FnMotionProfile", spec := "fnMotionProfile", unfollowed := true, recurses := true, apart := false, narrowed := true }
def FnMotionProfileUptoSaid : Prop := fnMotionProfileUptoRow.holds Try.pinned (OpenSpec.upto fnMotionProfileSpec)

/-- 'laws.FnProfileTime', WHERE WHAT IT READS IS OF BULK AT MOST 1048576: true; the input reads as it did. -/
def fnProfileTimeUptoRow : OpenClaim := { program := "ytcamnkoiddighaa", sum := "75dac4adb562e53626c60e8c488c9189bd132c7058438bd0e2a28427dd4b3bba", func := "loop.example/robotcell/laws.FnProfileTime", spec := "fnProfileTime", unfollowed := true, recurses := true, apart := false, narrowed := true }
def FnProfileTimeUptoSaid : Prop := fnProfileTimeUptoRow.holds Try.pinned (OpenSpec.upto fnProfileTimeSpec)

/-- 'laws.FnProfileValid', WHERE WHAT IT READS IS OF BULK AT MOST 1048576: true; the input reads as it did. -/
def fnProfileValidUptoRow : OpenClaim := { program := "ytcamnkoiddighaa", sum := "75dac4adb562e53626c60e8c488c9189bd132c7058438bd0e2a28427dd4b3bba", func := "loop.example/robotcell/laws.FnProfileValid", spec := "fnProfileValid", apart := false, narrowed := true }
def FnProfileValidUptoSaid : Prop := fnProfileValidUptoRow.holds Try.pinned (OpenSpec.upto fnProfileValidSpec)

/-- 'laws.FnProfileDistance', WHERE WHAT IT READS IS OF BULK AT MOST 1048576: true; the input reads as it did. -/
def fnProfileDistanceUptoRow : OpenClaim := { program := "ytcamnkoiddighaa", sum := "75dac4adb562e53626c60e8c488c9189bd132c7058438bd0e2a28427dd4b3bba", func := "loop.example/robotcell/laws.FnProfileDistance", spec := "fnProfileDistance", unfollowed := true, recurses := true, apart := false, narrowed := true }
def FnProfileDistanceUptoSaid : Prop := fnProfileDistanceUptoRow.holds Try.pinned (OpenSpec.upto fnProfileDistanceSpec)

/-- 'laws.FnExactStopDistance', WHERE WHAT IT READS IS OF BULK AT MOST 1048576: true; the input reads as it did. -/
def fnExactStopDistanceUptoRow : OpenClaim := { program := "ytcamnkoiddighaa", sum := "75dac4adb562e53626c60e8c488c9189bd132c7058438bd0e2a28427dd4b3bba", func := "loop.example/robotcell/laws.FnExactStopDistance", spec := "fnExactStopDistance", apart := false, narrowed := true }
def FnExactStopDistanceUptoSaid : Prop := fnExactStopDistanceUptoRow.holds Try.pinned (OpenSpec.upto fnExactStopDistanceSpec)

/-- 'laws.FnExactNextSpeed', WHERE WHAT IT READS IS OF BULK AT MOST 1048576: true; the input reads as it did. -/
def fnExactNextSpeedUptoRow : OpenClaim := { program := "ytcamnkoiddighaa", sum := "75dac4adb562e53626c60e8c488c9189bd132c7058438bd0e2a28427dd4b3bba", func := "loop.example/robotcell/laws.FnExactNextSpeed", spec := "fnExactNextSpeed", apart := false, narrowed := true }
def FnExactNextSpeedUptoSaid : Prop := fnExactNextSpeedUptoRow.holds Try.pinned (OpenSpec.upto fnExactNextSpeedSpec)

/-- 'laws.FnExactMotionProfile', WHERE WHAT IT READS IS OF BULK AT MOST 1048576: true; the input reads as it did. -/
def fnExactMotionProfileUptoRow : OpenClaim := { program := "ytcamnkoiddighaa", sum := "75dac4adb562e53626c60e8c488c9189bd132c7058438bd0e2a28427dd4b3bba", func := "loop.example/robotcell/laws.FnExactMotionProfile", spec := "fnExactMotionProfile", unfollowed := true, recurses := true, apart := false, narrowed := true }
def FnExactMotionProfileUptoSaid : Prop := fnExactMotionProfileUptoRow.holds Try.pinned (OpenSpec.upto fnExactMotionProfileSpec)

/-- 'laws.FnExactProfileTime', WHERE WHAT IT READS IS OF BULK AT MOST 1048576: true; the input reads as it did. -/
def fnExactProfileTimeUptoRow : OpenClaim := { program := "ytcamnkoiddighaa", sum := "75dac4adb562e53626c60e8c488c9189bd132c7058438bd0e2a28427dd4b3bba", func := "loop.example/robotcell/laws.FnExactProfileTime", spec := "fnExactProfileTime", unfollowed := true, recurses := true, apart := false, narrowed := true }
def FnExactProfileTimeUptoSaid : Prop := fnExactProfileTimeUptoRow.holds Try.pinned (OpenSpec.upto fnExactProfileTimeSpec)

/-- 'laws.FnExactProfileValid', WHERE WHAT IT READS IS OF BULK AT MOST 1048576: true; the input reads as it did. -/
def fnExactProfileValidUptoRow : OpenClaim := { program := "ytcamnkoiddighaa", sum := "75dac4adb562e53626c60e8c488c9189bd132c7058438bd0e2a28427dd4b3bba", func := "loop.example/robotcell/laws.FnExactProfileValid", spec := "fnExactProfileValid", apart := false, narrowed := true }
def FnExactProfileValidUptoSaid : Prop := fnExactProfileValidUptoRow.holds Try.pinned (OpenSpec.upto fnExactProfileValidSpec)

end Rows
end Go.Proofs.Ytcamnkoiddighaa
