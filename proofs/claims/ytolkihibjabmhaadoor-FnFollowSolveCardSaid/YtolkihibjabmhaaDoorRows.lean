/-
  NARROWER THAN 'FOR EVERY INPUT', by the rows' own cells (each row's printed sentence says how): FnArmPoints: laid · FnExactArmPoints: laid · FnTipOf: laid · FnExactTipOf: laid · FnSolveArm: laid · FnExactSolveArm: laid · FnStepJoints: laid · FnExactStepJoints: laid · FnFollowPoint: laid · FnExactFollowPoint: laid · FnReachSolve: laid · FnFollowSolve: laid.
  DERIVED. THE GIVEN ROWS OF THIS SEAT. 12 by the template 'for every input the law returns true; each argument reads behind the call as it read before'; 0 by the template 'total and deterministic' (their statements: YtolkihibjabmhaaDoorTotals.lean).
  GIVEN WITH THE SEED: the statements are not yours to turn. If you find one false, say at which input.
  Laid BY PROGRAM, IN A SANDBOX (cutbox-rows.mjs): the forced cells as the released guide's own fill.sh prints them over the translation fed090cf7d00a9bf… (all of the seat's roots in one cut). By AI agents, Wed Nov 11 2026. No macro, syntax, notation, axiom, sorry.
-/
import Derived.Test.YtolkihibjabmhaaDoorChecked
import GoSem.Claim
import GoSem.ClaimJoined
import GoSem.ClaimMapViews
import Derived.JoinedTies
import Derived.KernelRfl
namespace Go.Proofs.YtolkihibjabmhaaDoor
/- THE CELL 'sum', in the pinned program and in every row, IS THE sha256 OF THE DUMP (.gsa) THAT YtolkihibjabmhaaDoorProg.lean LOADS. Nothing in Lean hashes anything: it is a label: what it is worth is what the hold of that sum in a sandbox is worth. -/
noncomputable def Tryd.pinned : Pinned := { name := "ytolkihibjabmhaadoor", sum := "fed090cf7d00a9bf59db22adaab696d23a7ddf2e80d514bc886ef22c0a34a401", checked := Tryd.checked }
namespace Rows
def none {H : Type} : Left H := { results := [], args := [] }

/- WHAT THE LISTED PACKAGE-LEVEL VARIABLES READ AS WHEN THE CALL BEGINS. Each datum BY PROGRAM (the guide's laid-datum.mjs) off the statement by which the dump's own 'gosem.cut.vars' lays the variable. In a bare row this is a premise. The card (YtolkihibjabmhaaDoorCards.lean) ties it to the program's text. -/
def laid_loop_example_robotcell_impl_sines {H : Type} : DataW H := .agg [.lit (.int .i64 0), .lit (.int .i64 71), .lit (.int .i64 143), .lit (.int .i64 214), .lit (.int .i64 286), .lit (.int .i64 357), .lit (.int .i64 428), .lit (.int .i64 499), .lit (.int .i64 570), .lit (.int .i64 641), .lit (.int .i64 711), .lit (.int .i64 782), .lit (.int .i64 852), .lit (.int .i64 921), .lit (.int .i64 991), .lit (.int .i64 1060), .lit (.int .i64 1129), .lit (.int .i64 1198), .lit (.int .i64 1266), .lit (.int .i64 1334), .lit (.int .i64 1401), .lit (.int .i64 1468), .lit (.int .i64 1534), .lit (.int .i64 1600), .lit (.int .i64 1666), .lit (.int .i64 1731), .lit (.int .i64 1796), .lit (.int .i64 1860), .lit (.int .i64 1923), .lit (.int .i64 1986), .lit (.int .i64 2048), .lit (.int .i64 2110), .lit (.int .i64 2171), .lit (.int .i64 2231), .lit (.int .i64 2290), .lit (.int .i64 2349), .lit (.int .i64 2408), .lit (.int .i64 2465), .lit (.int .i64 2522), .lit (.int .i64 2578), .lit (.int .i64 2633), .lit (.int .i64 2687), .lit (.int .i64 2741), .lit (.int .i64 2793), .lit (.int .i64 2845), .lit (.int .i64 2896), .lit (.int .i64 2946), .lit (.int .i64 2996), .lit (.int .i64 3044), .lit (.int .i64 3091), .lit (.int .i64 3138), .lit (.int .i64 3183), .lit (.int .i64 3228), .lit (.int .i64 3271), .lit (.int .i64 3314), .lit (.int .i64 3355), .lit (.int .i64 3396), .lit (.int .i64 3435), .lit (.int .i64 3474), .lit (.int .i64 3511), .lit (.int .i64 3547), .lit (.int .i64 3582), .lit (.int .i64 3617), .lit (.int .i64 3650), .lit (.int .i64 3681), .lit (.int .i64 3712), .lit (.int .i64 3742), .lit (.int .i64 3770), .lit (.int .i64 3798), .lit (.int .i64 3824), .lit (.int .i64 3849), .lit (.int .i64 3873), .lit (.int .i64 3896), .lit (.int .i64 3917), .lit (.int .i64 3937), .lit (.int .i64 3956), .lit (.int .i64 3974), .lit (.int .i64 3991), .lit (.int .i64 4006), .lit (.int .i64 4021), .lit (.int .i64 4034), .lit (.int .i64 4046), .lit (.int .i64 4056), .lit (.int .i64 4065), .lit (.int .i64 4074), .lit (.int .i64 4080), .lit (.int .i64 4086), .lit (.int .i64 4090), .lit (.int .i64 4094), .lit (.int .i64 4095), .lit (.int .i64 4096)]

/-- 'laws.FnArmPoints': WHATEVER THE INPUT: true; the input reads as it did. -/
def fnArmPointsSpec : ChangeSpec := { name := "fnArmPoints", vars := ["loop.example/robotcell/impl.sines"], fn := fun _ => fun
  | [d, g1] => { results := [.lit (.bool true)], args := [d], vars := [g1] }
  | _ => none }
def fnArmPointsRow : OpenClaim := { program := "ytolkihibjabmhaadoor", sum := "fed090cf7d00a9bf59db22adaab696d23a7ddf2e80d514bc886ef22c0a34a401", func := "loop.example/robotcell/laws.FnArmPoints", spec := "fnArmPoints", named := ["loop.example/robotcell/impl.sines"], apart := false, laid := [("loop.example/robotcell/impl.sines", laid_loop_example_robotcell_impl_sines)] }
def FnArmPointsSaid : Prop := fnArmPointsRow.holds Tryd.pinned (OpenSpec.ofChange fnArmPointsSpec)

/-- ITS FALSE NEIGHBOUR: 'it returns false'. Refute it at one input. -/
def fnArmPointsWrong : ChangeSpec := { name := "fnArmPoints", vars := ["loop.example/robotcell/impl.sines"], fn := fun _ => fun
  | [d, g1] => { results := [.lit (.bool false)], args := [d], vars := [g1] }
  | _ => none }
def FnArmPointsWrongFalsely : Prop := fnArmPointsRow.holds Tryd.pinned (OpenSpec.ofChange fnArmPointsWrong)

/-- 'laws.FnExactArmPoints': WHATEVER THE INPUT: true; the input reads as it did. -/
def fnExactArmPointsSpec : ChangeSpec := { name := "fnExactArmPoints", vars := ["loop.example/robotcell/impl.sines"], fn := fun _ => fun
  | [d1, d2, g1] => { results := [.lit (.bool true)], args := [d1, d2], vars := [g1] }
  | _ => none }
def fnExactArmPointsRow : OpenClaim := { program := "ytolkihibjabmhaadoor", sum := "fed090cf7d00a9bf59db22adaab696d23a7ddf2e80d514bc886ef22c0a34a401", func := "loop.example/robotcell/laws.FnExactArmPoints", spec := "fnExactArmPoints", named := ["loop.example/robotcell/impl.sines"], apart := false, laid := [("loop.example/robotcell/impl.sines", laid_loop_example_robotcell_impl_sines)] }
def FnExactArmPointsSaid : Prop := fnExactArmPointsRow.holds Tryd.pinned (OpenSpec.ofChange fnExactArmPointsSpec)

/-- ITS FALSE NEIGHBOUR: 'it returns false'. Refute it at one input. -/
def fnExactArmPointsWrong : ChangeSpec := { name := "fnExactArmPoints", vars := ["loop.example/robotcell/impl.sines"], fn := fun _ => fun
  | [d1, d2, g1] => { results := [.lit (.bool false)], args := [d1, d2], vars := [g1] }
  | _ => none }
def FnExactArmPointsWrongFalsely : Prop := fnExactArmPointsRow.holds Tryd.pinned (OpenSpec.ofChange fnExactArmPointsWrong)

/-- 'laws.FnTipOf': WHATEVER THE INPUT: true; the input reads as it did. -/
def fnTipOfSpec : ChangeSpec := { name := "fnTipOf", vars := ["loop.example/robotcell/impl.sines"], fn := fun _ => fun
  | [d, g1] => { results := [.lit (.bool true)], args := [d], vars := [g1] }
  | _ => none }
def fnTipOfRow : OpenClaim := { program := "ytolkihibjabmhaadoor", sum := "fed090cf7d00a9bf59db22adaab696d23a7ddf2e80d514bc886ef22c0a34a401", func := "loop.example/robotcell/laws.FnTipOf", spec := "fnTipOf", named := ["loop.example/robotcell/impl.sines"], apart := false, laid := [("loop.example/robotcell/impl.sines", laid_loop_example_robotcell_impl_sines)] }
def FnTipOfSaid : Prop := fnTipOfRow.holds Tryd.pinned (OpenSpec.ofChange fnTipOfSpec)

/-- ITS FALSE NEIGHBOUR: 'it returns false'. Refute it at one input. -/
def fnTipOfWrong : ChangeSpec := { name := "fnTipOf", vars := ["loop.example/robotcell/impl.sines"], fn := fun _ => fun
  | [d, g1] => { results := [.lit (.bool false)], args := [d], vars := [g1] }
  | _ => none }
def FnTipOfWrongFalsely : Prop := fnTipOfRow.holds Tryd.pinned (OpenSpec.ofChange fnTipOfWrong)

/-- 'laws.FnExactTipOf': WHATEVER THE INPUT: true; the input reads as it did. -/
def fnExactTipOfSpec : ChangeSpec := { name := "fnExactTipOf", vars := ["loop.example/robotcell/impl.sines"], fn := fun _ => fun
  | [d1, d2, g1] => { results := [.lit (.bool true)], args := [d1, d2], vars := [g1] }
  | _ => none }
def fnExactTipOfRow : OpenClaim := { program := "ytolkihibjabmhaadoor", sum := "fed090cf7d00a9bf59db22adaab696d23a7ddf2e80d514bc886ef22c0a34a401", func := "loop.example/robotcell/laws.FnExactTipOf", spec := "fnExactTipOf", named := ["loop.example/robotcell/impl.sines"], apart := false, laid := [("loop.example/robotcell/impl.sines", laid_loop_example_robotcell_impl_sines)] }
def FnExactTipOfSaid : Prop := fnExactTipOfRow.holds Tryd.pinned (OpenSpec.ofChange fnExactTipOfSpec)

/-- ITS FALSE NEIGHBOUR: 'it returns false'. Refute it at one input. -/
def fnExactTipOfWrong : ChangeSpec := { name := "fnExactTipOf", vars := ["loop.example/robotcell/impl.sines"], fn := fun _ => fun
  | [d1, d2, g1] => { results := [.lit (.bool false)], args := [d1, d2], vars := [g1] }
  | _ => none }
def FnExactTipOfWrongFalsely : Prop := fnExactTipOfRow.holds Tryd.pinned (OpenSpec.ofChange fnExactTipOfWrong)

/-- 'laws.FnSolveArm': WHATEVER THE INPUT: true; the input reads as it did. -/
def fnSolveArmSpec : ChangeSpec := { name := "fnSolveArm", vars := ["loop.example/robotcell/impl.sines"], fn := fun _ => fun
  | [d1, d2, g1] => { results := [.lit (.bool true)], args := [d1, d2], vars := [g1] }
  | _ => none }
def fnSolveArmRow : OpenClaim := { program := "ytolkihibjabmhaadoor", sum := "fed090cf7d00a9bf59db22adaab696d23a7ddf2e80d514bc886ef22c0a34a401", func := "loop.example/robotcell/laws.FnSolveArm", spec := "fnSolveArm", unfollowed := true, recurses := true, named := ["loop.example/robotcell/impl.sines"], apart := false, laid := [("loop.example/robotcell/impl.sines", laid_loop_example_robotcell_impl_sines)] }
def FnSolveArmSaid : Prop := fnSolveArmRow.holds Tryd.pinned (OpenSpec.ofChange fnSolveArmSpec)

/-- ITS FALSE NEIGHBOUR: 'it returns false'. Refute it at one input. -/
def fnSolveArmWrong : ChangeSpec := { name := "fnSolveArm", vars := ["loop.example/robotcell/impl.sines"], fn := fun _ => fun
  | [d1, d2, g1] => { results := [.lit (.bool false)], args := [d1, d2], vars := [g1] }
  | _ => none }
def FnSolveArmWrongFalsely : Prop := fnSolveArmRow.holds Tryd.pinned (OpenSpec.ofChange fnSolveArmWrong)

/-- 'laws.FnExactSolveArm': WHATEVER THE INPUT: true; the input reads as it did. -/
def fnExactSolveArmSpec : ChangeSpec := { name := "fnExactSolveArm", vars := ["loop.example/robotcell/impl.sines"], fn := fun _ => fun
  | [d1, d2, g1] => { results := [.lit (.bool true)], args := [d1, d2], vars := [g1] }
  | _ => none }
def fnExactSolveArmRow : OpenClaim := { program := "ytolkihibjabmhaadoor", sum := "fed090cf7d00a9bf59db22adaab696d23a7ddf2e80d514bc886ef22c0a34a401", func := "loop.example/robotcell/laws.FnExactSolveArm", spec := "fnExactSolveArm", unfollowed := true, recurses := true, named := ["loop.example/robotcell/impl.sines"], apart := false, laid := [("loop.example/robotcell/impl.sines", laid_loop_example_robotcell_impl_sines)] }
def FnExactSolveArmSaid : Prop := fnExactSolveArmRow.holds Tryd.pinned (OpenSpec.ofChange fnExactSolveArmSpec)

/-- ITS FALSE NEIGHBOUR: 'it returns false'. Refute it at one input. -/
def fnExactSolveArmWrong : ChangeSpec := { name := "fnExactSolveArm", vars := ["loop.example/robotcell/impl.sines"], fn := fun _ => fun
  | [d1, d2, g1] => { results := [.lit (.bool false)], args := [d1, d2], vars := [g1] }
  | _ => none }
def FnExactSolveArmWrongFalsely : Prop := fnExactSolveArmRow.holds Tryd.pinned (OpenSpec.ofChange fnExactSolveArmWrong)

/-- 'laws.FnStepJoints': WHATEVER THE INPUT: true; the input reads as it did. -/
def fnStepJointsSpec : ChangeSpec := { name := "fnStepJoints", vars := ["loop.example/robotcell/impl.sines"], fn := fun _ => fun
  | [d, g1] => { results := [.lit (.bool true)], args := [d], vars := [g1] }
  | _ => none }
def fnStepJointsRow : OpenClaim := { program := "ytolkihibjabmhaadoor", sum := "fed090cf7d00a9bf59db22adaab696d23a7ddf2e80d514bc886ef22c0a34a401", func := "loop.example/robotcell/laws.FnStepJoints", spec := "fnStepJoints", unfollowed := true, recurses := true, named := ["loop.example/robotcell/impl.sines"], apart := false, laid := [("loop.example/robotcell/impl.sines", laid_loop_example_robotcell_impl_sines)] }
def FnStepJointsSaid : Prop := fnStepJointsRow.holds Tryd.pinned (OpenSpec.ofChange fnStepJointsSpec)

/-- ITS FALSE NEIGHBOUR: 'it returns false'. Refute it at one input. -/
def fnStepJointsWrong : ChangeSpec := { name := "fnStepJoints", vars := ["loop.example/robotcell/impl.sines"], fn := fun _ => fun
  | [d, g1] => { results := [.lit (.bool false)], args := [d], vars := [g1] }
  | _ => none }
def FnStepJointsWrongFalsely : Prop := fnStepJointsRow.holds Tryd.pinned (OpenSpec.ofChange fnStepJointsWrong)

/-- 'laws.FnExactStepJoints': WHATEVER THE INPUT: true; the input reads as it did. -/
def fnExactStepJointsSpec : ChangeSpec := { name := "fnExactStepJoints", vars := ["loop.example/robotcell/impl.sines"], fn := fun _ => fun
  | [d1, d2, d3, g1] => { results := [.lit (.bool true)], args := [d1, d2, d3], vars := [g1] }
  | _ => none }
def fnExactStepJointsRow : OpenClaim := { program := "ytolkihibjabmhaadoor", sum := "fed090cf7d00a9bf59db22adaab696d23a7ddf2e80d514bc886ef22c0a34a401", func := "loop.example/robotcell/laws.FnExactStepJoints", spec := "fnExactStepJoints", unfollowed := true, recurses := true, named := ["loop.example/robotcell/impl.sines"], apart := false, laid := [("loop.example/robotcell/impl.sines", laid_loop_example_robotcell_impl_sines)] }
def FnExactStepJointsSaid : Prop := fnExactStepJointsRow.holds Tryd.pinned (OpenSpec.ofChange fnExactStepJointsSpec)

/-- ITS FALSE NEIGHBOUR: 'it returns false'. Refute it at one input. -/
def fnExactStepJointsWrong : ChangeSpec := { name := "fnExactStepJoints", vars := ["loop.example/robotcell/impl.sines"], fn := fun _ => fun
  | [d1, d2, d3, g1] => { results := [.lit (.bool false)], args := [d1, d2, d3], vars := [g1] }
  | _ => none }
def FnExactStepJointsWrongFalsely : Prop := fnExactStepJointsRow.holds Tryd.pinned (OpenSpec.ofChange fnExactStepJointsWrong)

/-- 'laws.FnFollowPoint': WHATEVER THE INPUT: true; the input reads as it did. -/
def fnFollowPointSpec : ChangeSpec := { name := "fnFollowPoint", vars := ["loop.example/robotcell/impl.sines"], fn := fun _ => fun
  | [d, g1] => { results := [.lit (.bool true)], args := [d], vars := [g1] }
  | _ => none }
def fnFollowPointRow : OpenClaim := { program := "ytolkihibjabmhaadoor", sum := "fed090cf7d00a9bf59db22adaab696d23a7ddf2e80d514bc886ef22c0a34a401", func := "loop.example/robotcell/laws.FnFollowPoint", spec := "fnFollowPoint", unfollowed := true, recurses := true, named := ["loop.example/robotcell/impl.sines"], apart := false, laid := [("loop.example/robotcell/impl.sines", laid_loop_example_robotcell_impl_sines)] }
def FnFollowPointSaid : Prop := fnFollowPointRow.holds Tryd.pinned (OpenSpec.ofChange fnFollowPointSpec)

/-- ITS FALSE NEIGHBOUR: 'it returns false'. Refute it at one input. -/
def fnFollowPointWrong : ChangeSpec := { name := "fnFollowPoint", vars := ["loop.example/robotcell/impl.sines"], fn := fun _ => fun
  | [d, g1] => { results := [.lit (.bool false)], args := [d], vars := [g1] }
  | _ => none }
def FnFollowPointWrongFalsely : Prop := fnFollowPointRow.holds Tryd.pinned (OpenSpec.ofChange fnFollowPointWrong)

/-- 'laws.FnExactFollowPoint': WHATEVER THE INPUT: true; the input reads as it did. -/
def fnExactFollowPointSpec : ChangeSpec := { name := "fnExactFollowPoint", vars := ["loop.example/robotcell/impl.sines"], fn := fun _ => fun
  | [d1, d2, d3, d4, g1] => { results := [.lit (.bool true)], args := [d1, d2, d3, d4], vars := [g1] }
  | _ => none }
def fnExactFollowPointRow : OpenClaim := { program := "ytolkihibjabmhaadoor", sum := "fed090cf7d00a9bf59db22adaab696d23a7ddf2e80d514bc886ef22c0a34a401", func := "loop.example/robotcell/laws.FnExactFollowPoint", spec := "fnExactFollowPoint", unfollowed := true, recurses := true, named := ["loop.example/robotcell/impl.sines"], apart := false, laid := [("loop.example/robotcell/impl.sines", laid_loop_example_robotcell_impl_sines)] }
def FnExactFollowPointSaid : Prop := fnExactFollowPointRow.holds Tryd.pinned (OpenSpec.ofChange fnExactFollowPointSpec)

/-- ITS FALSE NEIGHBOUR: 'it returns false'. Refute it at one input. -/
def fnExactFollowPointWrong : ChangeSpec := { name := "fnExactFollowPoint", vars := ["loop.example/robotcell/impl.sines"], fn := fun _ => fun
  | [d1, d2, d3, d4, g1] => { results := [.lit (.bool false)], args := [d1, d2, d3, d4], vars := [g1] }
  | _ => none }
def FnExactFollowPointWrongFalsely : Prop := fnExactFollowPointRow.holds Tryd.pinned (OpenSpec.ofChange fnExactFollowPointWrong)

/-- 'laws.FnReachSolve': WHATEVER THE INPUT: true; the input reads as it did. -/
def fnReachSolveSpec : ChangeSpec := { name := "fnReachSolve", vars := ["loop.example/robotcell/impl.sines"], fn := fun _ => fun
  | [d, g1] => { results := [.lit (.bool true)], args := [d], vars := [g1] }
  | _ => none }
def fnReachSolveRow : OpenClaim := { program := "ytolkihibjabmhaadoor", sum := "fed090cf7d00a9bf59db22adaab696d23a7ddf2e80d514bc886ef22c0a34a401", func := "loop.example/robotcell/laws.FnReachSolve", spec := "fnReachSolve", unfollowed := true, recurses := true, named := ["loop.example/robotcell/impl.sines"], apart := false, laid := [("loop.example/robotcell/impl.sines", laid_loop_example_robotcell_impl_sines)] }
def FnReachSolveSaid : Prop := fnReachSolveRow.holds Tryd.pinned (OpenSpec.ofChange fnReachSolveSpec)

/-- ITS FALSE NEIGHBOUR: 'it returns false'. Refute it at one input. -/
def fnReachSolveWrong : ChangeSpec := { name := "fnReachSolve", vars := ["loop.example/robotcell/impl.sines"], fn := fun _ => fun
  | [d, g1] => { results := [.lit (.bool false)], args := [d], vars := [g1] }
  | _ => none }
def FnReachSolveWrongFalsely : Prop := fnReachSolveRow.holds Tryd.pinned (OpenSpec.ofChange fnReachSolveWrong)

/-- 'laws.FnFollowSolve': WHATEVER THE INPUT: true; the input reads as it did. -/
def fnFollowSolveSpec : ChangeSpec := { name := "fnFollowSolve", vars := ["loop.example/robotcell/impl.sines"], fn := fun _ => fun
  | [d, g1] => { results := [.lit (.bool true)], args := [d], vars := [g1] }
  | _ => none }
def fnFollowSolveRow : OpenClaim := { program := "ytolkihibjabmhaadoor", sum := "fed090cf7d00a9bf59db22adaab696d23a7ddf2e80d514bc886ef22c0a34a401", func := "loop.example/robotcell/laws.FnFollowSolve", spec := "fnFollowSolve", unfollowed := true, recurses := true, named := ["loop.example/robotcell/impl.sines"], apart := false, laid := [("loop.example/robotcell/impl.sines", laid_loop_example_robotcell_impl_sines)] }
def FnFollowSolveSaid : Prop := fnFollowSolveRow.holds Tryd.pinned (OpenSpec.ofChange fnFollowSolveSpec)

/-- ITS FALSE NEIGHBOUR: 'it returns false'. Refute it at one input. -/
def fnFollowSolveWrong : ChangeSpec := { name := "fnFollowSolve", vars := ["loop.example/robotcell/impl.sines"], fn := fun _ => fun
  | [d, g1] => { results := [.lit (.bool false)], args := [d], vars := [g1] }
  | _ => none }
def FnFollowSolveWrongFalsely : Prop := fnFollowSolveRow.holds Tryd.pinned (OpenSpec.ofChange fnFollowSolveWrong)

/- THE SECOND FORM. 'bulk': how many values and letters a reading holds, each counted each time it is reached (what is shared counts as often as it is met; a slice's spare places count too). A statement '..UptoSaid' is the law's where the arguments, and the package variables that the reading takes, are together of bulk at most 1048576: NARROWER than '..Said'. Prove '..Said' where nothing that the law and all that it calls make is longer than what came in: it says more and counts as full. Else prove '..UptoSaid'. A law counts once. -/
mutual
def uptoBulk {H : Type} : DataW H → Nat
  | .lit (.string bytes) => bytes.length + 1
  | .lit _ => 1
  | .nil => 1
  | .ptr d => uptoBulk d + 1
  | .slice elems spare => uptoBulkAll elems + uptoBulkAll spare + 1
  | .agg parts => uptoBulkAll parts + 1
  | .iface _ d => uptoBulk d + 1
  | .map entries => uptoBulkEntries entries + 1
  | .held _ => 1
def uptoBulkAll {H : Type} : List (DataW H) → Nat
  | [] => 0
  | d :: r => uptoBulk d + uptoBulkAll r
def uptoBulkEntries {H : Type} : List (Lit × DataW H) → Nat
  | [] => 0
  | x :: r => uptoBulkEntry x + uptoBulkEntries r
def uptoBulkEntry {H : Type} : Lit × DataW H → Nat
  | (.string bytes, d) => bytes.length + uptoBulk d + 1
  | (_, d) => uptoBulk d + 1
 end
def uptoSmall : (H : Type) → List (DataW H) → Bool := fun _ ds => decide (uptoBulkAll ds ≤ 1048576)
def OpenSpec.upto (s : _root_.Go.ChangeSpec) : _root_.Go.OpenSpec := { _root_.Go.OpenSpec.ofChange s with cond := some uptoSmall }

/-- 'laws.FnArmPoints', WHERE WHAT IT READS IS OF BULK AT MOST 1048576: true; the input reads as it did. -/
def fnArmPointsUptoRow : OpenClaim := { program := "ytolkihibjabmhaadoor", sum := "fed090cf7d00a9bf59db22adaab696d23a7ddf2e80d514bc886ef22c0a34a401", func := "loop.example/robotcell/laws.FnArmPoints", spec := "fnArmPoints", named := ["loop.example/robotcell/impl.sines"], apart := false, laid := [("loop.example/robotcell/impl.sines", laid_loop_example_robotcell_impl_sines)], narrowed := true }
def FnArmPointsUptoSaid : Prop := fnArmPointsUptoRow.holds Tryd.pinned (OpenSpec.upto fnArmPointsSpec)

/-- 'laws.FnExactArmPoints', WHERE WHAT IT READS IS OF BULK AT MOST 1048576: true; the input reads as it did. -/
def fnExactArmPointsUptoRow : OpenClaim := { program := "ytolkihibjabmhaadoor", sum := "fed090cf7d00a9bf59db22adaab696d23a7ddf2e80d514bc886ef22c0a34a401", func := "loop.example/robotcell/laws.FnExactArmPoints", spec := "fnExactArmPoints", named := ["loop.example/robotcell/impl.sines"], apart := false, laid := [("loop.example/robotcell/impl.sines", laid_loop_example_robotcell_impl_sines)], narrowed := true }
def FnExactArmPointsUptoSaid : Prop := fnExactArmPointsUptoRow.holds Tryd.pinned (OpenSpec.upto fnExactArmPointsSpec)

/-- 'laws.FnTipOf', WHERE WHAT IT READS IS OF BULK AT MOST 1048576: true; the input reads as it did. -/
def fnTipOfUptoRow : OpenClaim := { program := "ytolkihibjabmhaadoor", sum := "fed090cf7d00a9bf59db22adaab696d23a7ddf2e80d514bc886ef22c0a34a401", func := "loop.example/robotcell/laws.FnTipOf", spec := "fnTipOf", named := ["loop.example/robotcell/impl.sines"], apart := false, laid := [("loop.example/robotcell/impl.sines", laid_loop_example_robotcell_impl_sines)], narrowed := true }
def FnTipOfUptoSaid : Prop := fnTipOfUptoRow.holds Tryd.pinned (OpenSpec.upto fnTipOfSpec)

/-- 'laws.FnExactTipOf', WHERE WHAT IT READS IS OF BULK AT MOST 1048576: true; the input reads as it did. -/
def fnExactTipOfUptoRow : OpenClaim := { program := "ytolkihibjabmhaadoor", sum := "fed090cf7d00a9bf59db22adaab696d23a7ddf2e80d514bc886ef22c0a34a401", func := "loop.example/robotcell/laws.FnExactTipOf", spec := "fnExactTipOf", named := ["loop.example/robotcell/impl.sines"], apart := false, laid := [("loop.example/robotcell/impl.sines", laid_loop_example_robotcell_impl_sines)], narrowed := true }
def FnExactTipOfUptoSaid : Prop := fnExactTipOfUptoRow.holds Tryd.pinned (OpenSpec.upto fnExactTipOfSpec)

/-- 'laws.FnSolveArm', WHERE WHAT IT READS IS OF BULK AT MOST 1048576: true; the input reads as it did. -/
def fnSolveArmUptoRow : OpenClaim := { program := "ytolkihibjabmhaadoor", sum := "fed090cf7d00a9bf59db22adaab696d23a7ddf2e80d514bc886ef22c0a34a401", func := "loop.example/robotcell/laws.FnSolveArm", spec := "fnSolveArm", unfollowed := true, recurses := true, named := ["loop.example/robotcell/impl.sines"], apart := false, laid := [("loop.example/robotcell/impl.sines", laid_loop_example_robotcell_impl_sines)], narrowed := true }
def FnSolveArmUptoSaid : Prop := fnSolveArmUptoRow.holds Tryd.pinned (OpenSpec.upto fnSolveArmSpec)

/-- 'laws.FnExactSolveArm', WHERE WHAT IT READS IS OF BULK AT MOST 1048576: true; the input reads as it did. -/
def fnExactSolveArmUptoRow : OpenClaim := { program := "ytolkihibjabmhaadoor", sum := "fed090cf7d00a9bf59db22adaab696d23a7ddf2e80d514bc886ef22c0a34a401", func := "loop.example/robotcell/laws.FnExactSolveArm", spec := "fnExactSolveArm", unfollowed := true, recurses := true, named := ["loop.example/robotcell/impl.sines"], apart := false, laid := [("loop.example/robotcell/impl.sines", laid_loop_example_robotcell_impl_sines)], narrowed := true }
def FnExactSolveArmUptoSaid : Prop := fnExactSolveArmUptoRow.holds Tryd.pinned (OpenSpec.upto fnExactSolveArmSpec)

/-- 'laws.FnStepJoints', WHERE WHAT IT READS IS OF BULK AT MOST 1048576: true; the input reads as it did. -/
def fnStepJointsUptoRow : OpenClaim := { program := "ytolkihibjabmhaadoor", sum := "fed090cf7d00a9bf59db22adaab696d23a7ddf2e80d514bc886ef22c0a34a401", func := "loop.example/robotcell/laws.FnStepJoints", spec := "fnStepJoints", unfollowed := true, recurses := true, named := ["loop.example/robotcell/impl.sines"], apart := false, laid := [("loop.example/robotcell/impl.sines", laid_loop_example_robotcell_impl_sines)], narrowed := true }
def FnStepJointsUptoSaid : Prop := fnStepJointsUptoRow.holds Tryd.pinned (OpenSpec.upto fnStepJointsSpec)

/-- 'laws.FnExactStepJoints', WHERE WHAT IT READS IS OF BULK AT MOST 1048576: true; the input reads as it did. -/
def fnExactStepJointsUptoRow : OpenClaim := { program := "ytolkihibjabmhaadoor", sum := "fed090cf7d00a9bf59db22adaab696d23a7ddf2e80d514bc886ef22c0a34a401", func := "loop.example/robotcell/laws.FnExactStepJoints", spec := "fnExactStepJoints", unfollowed := true, recurses := true, named := ["loop.example/robotcell/impl.sines"], apart := false, laid := [("loop.example/robotcell/impl.sines", laid_loop_example_robotcell_impl_sines)], narrowed := true }
def FnExactStepJointsUptoSaid : Prop := fnExactStepJointsUptoRow.holds Tryd.pinned (OpenSpec.upto fnExactStepJointsSpec)

/-- 'laws.FnFollowPoint', WHERE WHAT IT READS IS OF BULK AT MOST 1048576: true; the input reads as it did. -/
def fnFollowPointUptoRow : OpenClaim := { program := "ytolkihibjabmhaadoor", sum := "fed090cf7d00a9bf59db22adaab696d23a7ddf2e80d514bc886ef22c0a34a401", func := "loop.example/robotcell/laws.FnFollowPoint", spec := "fnFollowPoint", unfollowed := true, recurses := true, named := ["loop.example/robotcell/impl.sines"], apart := false, laid := [("loop.example/robotcell/impl.sines", laid_loop_example_robotcell_impl_sines)], narrowed := true }
def FnFollowPointUptoSaid : Prop := fnFollowPointUptoRow.holds Tryd.pinned (OpenSpec.upto fnFollowPointSpec)

/-- 'laws.FnExactFollowPoint', WHERE WHAT IT READS IS OF BULK AT MOST 1048576: true; the input reads as it did. -/
def fnExactFollowPointUptoRow : OpenClaim := { program := "ytolkihibjabmhaadoor", sum := "fed090cf7d00a9bf59db22adaab696d23a7ddf2e80d514bc886ef22c0a34a401", func := "loop.example/robotcell/laws.FnExactFollowPoint", spec := "fnExactFollowPoint", unfollowed := true, recurses := true, named := ["loop.example/robotcell/impl.sines"], apart := false, laid := [("loop.example/robotcell/impl.sines", laid_loop_example_robotcell_impl_sines)], narrowed := true }
def FnExactFollowPointUptoSaid : Prop := fnExactFollowPointUptoRow.holds Tryd.pinned (OpenSpec.upto fnExactFollowPointSpec)

/-- 'laws.FnReachSolve', WHERE WHAT IT READS IS OF BULK AT MOST 1048576: true; the input reads as it did. -/
def fnReachSolveUptoRow : OpenClaim := { program := "ytolkihibjabmhaadoor", sum := "fed090cf7d00a9bf59db22adaab696d23a7ddf2e80d514bc886ef22c0a34a401", func := "loop.example/robotcell/laws.FnReachSolve", spec := "fnReachSolve", unfollowed := true, recurses := true, named := ["loop.example/robotcell/impl.sines"], apart := false, laid := [("loop.example/robotcell/impl.sines", laid_loop_example_robotcell_impl_sines)], narrowed := true }
def FnReachSolveUptoSaid : Prop := fnReachSolveUptoRow.holds Tryd.pinned (OpenSpec.upto fnReachSolveSpec)

/-- 'laws.FnFollowSolve', WHERE WHAT IT READS IS OF BULK AT MOST 1048576: true; the input reads as it did. -/
def fnFollowSolveUptoRow : OpenClaim := { program := "ytolkihibjabmhaadoor", sum := "fed090cf7d00a9bf59db22adaab696d23a7ddf2e80d514bc886ef22c0a34a401", func := "loop.example/robotcell/laws.FnFollowSolve", spec := "fnFollowSolve", unfollowed := true, recurses := true, named := ["loop.example/robotcell/impl.sines"], apart := false, laid := [("loop.example/robotcell/impl.sines", laid_loop_example_robotcell_impl_sines)], narrowed := true }
def FnFollowSolveUptoSaid : Prop := fnFollowSolveUptoRow.holds Tryd.pinned (OpenSpec.upto fnFollowSolveSpec)

end Rows
end Go.Proofs.YtolkihibjabmhaaDoor
