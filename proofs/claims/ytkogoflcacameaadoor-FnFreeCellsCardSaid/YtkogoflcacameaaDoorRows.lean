/-
  NARROWER THAN 'FOR EVERY INPUT', by the rows' own cells (each row's printed sentence says how): FnFreeCells: laid · FnExactFreeCells: laid.
  DERIVED. THE GIVEN ROWS OF THIS SEAT. 2 by the template 'for every input the law returns true; each argument reads behind the call as it read before'; 0 by the template 'total and deterministic' (their statements: YtkogoflcacameaaDoorTotals.lean).
  GIVEN WITH THE SEED: the statements are not yours to turn. If you find one false, say at which input.
  Laid BY PROGRAM, IN A SANDBOX (cutbox-rows.mjs): the forced cells as the released guide's own fill.sh prints them over the translation 34bbac51512cd134… (all of the seat's roots in one cut). By AI agents, Wed Nov 11 2026. No macro, syntax, notation, axiom, sorry.
-/
import Derived.Test.YtkogoflcacameaaDoorChecked
import GoSem.Claim
import GoSem.ClaimJoined
import GoSem.ClaimMapViews
import Derived.JoinedTies
import Derived.KernelRfl
namespace Go.Proofs.YtkogoflcacameaaDoor
/- THE CELL 'sum', in the pinned program and in every row, IS THE sha256 OF THE DUMP (.gsa) THAT YtkogoflcacameaaDoorProg.lean LOADS. Nothing in Lean hashes anything: it is a label: what it is worth is what the hold of that sum in a sandbox is worth. -/
noncomputable def Tryd.pinned : Pinned := { name := "ytkogoflcacameaadoor", sum := "34bbac51512cd1342e2899d78239fd03a5d611e801b5e080445d1bdfab7a1acf", checked := Tryd.checked }
namespace Rows
def none {H : Type} : Left H := { results := [], args := [] }

/- WHAT THE LISTED PACKAGE-LEVEL VARIABLES READ AS WHEN THE CALL BEGINS. Each datum BY PROGRAM (the guide's laid-datum.mjs) off the statement by which the dump's own 'gosem.cut.vars' lays the variable. In a bare row this is a premise. The card (YtkogoflcacameaaDoorCards.lean) ties it to the program's text. -/
def laid_loop_example_robotcell_impl_sines {H : Type} : DataW H := .agg [.lit (.int .i64 0), .lit (.int .i64 71), .lit (.int .i64 143), .lit (.int .i64 214), .lit (.int .i64 286), .lit (.int .i64 357), .lit (.int .i64 428), .lit (.int .i64 499), .lit (.int .i64 570), .lit (.int .i64 641), .lit (.int .i64 711), .lit (.int .i64 782), .lit (.int .i64 852), .lit (.int .i64 921), .lit (.int .i64 991), .lit (.int .i64 1060), .lit (.int .i64 1129), .lit (.int .i64 1198), .lit (.int .i64 1266), .lit (.int .i64 1334), .lit (.int .i64 1401), .lit (.int .i64 1468), .lit (.int .i64 1534), .lit (.int .i64 1600), .lit (.int .i64 1666), .lit (.int .i64 1731), .lit (.int .i64 1796), .lit (.int .i64 1860), .lit (.int .i64 1923), .lit (.int .i64 1986), .lit (.int .i64 2048), .lit (.int .i64 2110), .lit (.int .i64 2171), .lit (.int .i64 2231), .lit (.int .i64 2290), .lit (.int .i64 2349), .lit (.int .i64 2408), .lit (.int .i64 2465), .lit (.int .i64 2522), .lit (.int .i64 2578), .lit (.int .i64 2633), .lit (.int .i64 2687), .lit (.int .i64 2741), .lit (.int .i64 2793), .lit (.int .i64 2845), .lit (.int .i64 2896), .lit (.int .i64 2946), .lit (.int .i64 2996), .lit (.int .i64 3044), .lit (.int .i64 3091), .lit (.int .i64 3138), .lit (.int .i64 3183), .lit (.int .i64 3228), .lit (.int .i64 3271), .lit (.int .i64 3314), .lit (.int .i64 3355), .lit (.int .i64 3396), .lit (.int .i64 3435), .lit (.int .i64 3474), .lit (.int .i64 3511), .lit (.int .i64 3547), .lit (.int .i64 3582), .lit (.int .i64 3617), .lit (.int .i64 3650), .lit (.int .i64 3681), .lit (.int .i64 3712), .lit (.int .i64 3742), .lit (.int .i64 3770), .lit (.int .i64 3798), .lit (.int .i64 3824), .lit (.int .i64 3849), .lit (.int .i64 3873), .lit (.int .i64 3896), .lit (.int .i64 3917), .lit (.int .i64 3937), .lit (.int .i64 3956), .lit (.int .i64 3974), .lit (.int .i64 3991), .lit (.int .i64 4006), .lit (.int .i64 4021), .lit (.int .i64 4034), .lit (.int .i64 4046), .lit (.int .i64 4056), .lit (.int .i64 4065), .lit (.int .i64 4074), .lit (.int .i64 4080), .lit (.int .i64 4086), .lit (.int .i64 4090), .lit (.int .i64 4094), .lit (.int .i64 4095), .lit (.int .i64 4096)]

/-- 'laws.FnFreeCells': WHATEVER THE INPUT: true; the input reads as it did. -/
def fnFreeCellsSpec : ChangeSpec := { name := "fnFreeCells", vars := ["loop.example/robotcell/impl.sines"], fn := fun _ => fun
  | [d, g1] => { results := [.lit (.bool true)], args := [d], vars := [g1] }
  | _ => none }
def fnFreeCellsRow : OpenClaim := { program := "ytkogoflcacameaadoor", sum := "34bbac51512cd1342e2899d78239fd03a5d611e801b5e080445d1bdfab7a1acf", func := "loop.example/robotcell/laws.FnFreeCells", spec := "fnFreeCells", unfollowed := true, recurses := true, named := ["loop.example/robotcell/impl.sines"], apart := false, laid := [("loop.example/robotcell/impl.sines", laid_loop_example_robotcell_impl_sines)] }
def FnFreeCellsSaid : Prop := fnFreeCellsRow.holds Tryd.pinned (OpenSpec.ofChange fnFreeCellsSpec)

/-- ITS FALSE NEIGHBOUR: 'it returns false'. Refute it at one input. -/
def fnFreeCellsWrong : ChangeSpec := { name := "fnFreeCells", vars := ["loop.example/robotcell/impl.sines"], fn := fun _ => fun
  | [d, g1] => { results := [.lit (.bool false)], args := [d], vars := [g1] }
  | _ => none }
def FnFreeCellsWrongFalsely : Prop := fnFreeCellsRow.holds Tryd.pinned (OpenSpec.ofChange fnFreeCellsWrong)

/-- 'laws.FnExactFreeCells': WHATEVER THE INPUT: true; the input reads as it did. -/
def fnExactFreeCellsSpec : ChangeSpec := { name := "fnExactFreeCells", vars := ["loop.example/robotcell/impl.sines"], fn := fun _ => fun
  | [d1, d2, d3, g1] => { results := [.lit (.bool true)], args := [d1, d2, d3], vars := [g1] }
  | _ => none }
def fnExactFreeCellsRow : OpenClaim := { program := "ytkogoflcacameaadoor", sum := "34bbac51512cd1342e2899d78239fd03a5d611e801b5e080445d1bdfab7a1acf", func := "loop.example/robotcell/laws.FnExactFreeCells", spec := "fnExactFreeCells", unfollowed := true, recurses := true, named := ["loop.example/robotcell/impl.sines"], apart := false, laid := [("loop.example/robotcell/impl.sines", laid_loop_example_robotcell_impl_sines)] }
def FnExactFreeCellsSaid : Prop := fnExactFreeCellsRow.holds Tryd.pinned (OpenSpec.ofChange fnExactFreeCellsSpec)

/-- ITS FALSE NEIGHBOUR: 'it returns false'. Refute it at one input. -/
def fnExactFreeCellsWrong : ChangeSpec := { name := "fnExactFreeCells", vars := ["loop.example/robotcell/impl.sines"], fn := fun _ => fun
  | [d1, d2, d3, g1] => { results := [.lit (.bool false)], args := [d1, d2, d3], vars := [g1] }
  | _ => none }
def FnExactFreeCellsWrongFalsely : Prop := fnExactFreeCellsRow.holds Tryd.pinned (OpenSpec.ofChange fnExactFreeCellsWrong)

/- THE SECOND FORM. 'bulk': how many values and letters a reading holds, each counted each time it is reached (what is shared counts as often as it is met; a slice's spare places count too). A statement '..UptoSaid' is the law's where the arguments, and the package variables that the reading takes, are together of bulk at most 1048576: NARROWER than '..Said'. Prove '..Said' where nothing that the law and all that it calls make is longer than what came in: it says more and counts as full. Else prove '..UptoSaid'. A law counts once. -/
mutual
def uptoBulk {H : Type} : DataW H → Nat
  | .lit (.string bytes) => bytes.length + 1
  | .lit _ => 1
  | .nil => 1
  | .ptr d => uptoBulk d + 1
  | .slice elems spare => uptoBulkAll elems + uptoBulkAll spare + 1
  | .agg parts => uptoBulkAll parts + 1
  | .iface _ d => uptoBulk d + 1
  | .map entries => uptoBulkEntries entries + 1
  | .held _ => 1
def uptoBulkAll {H : Type} : List (DataW H) → Nat
  | [] => 0
  | d :: r => uptoBulk d + uptoBulkAll r
def uptoBulkEntries {H : Type} : List (Lit × DataW H) → Nat
  | [] => 0
  | x :: r => uptoBulkEntry x + uptoBulkEntries r
def uptoBulkEntry {H : Type} : Lit × DataW H → Nat
  | (.string bytes, d) => bytes.length + uptoBulk d + 1
  | (_, d) => uptoBulk d + 1
 end
def uptoSmall : (H : Type) → List (DataW H) → Bool := fun _ ds => decide (uptoBulkAll ds ≤ 1048576)
def OpenSpec.upto (s : _root_.Go.ChangeSpec) : _root_.Go.OpenSpec := { _root_.Go.OpenSpec.ofChange s with cond := some uptoSmall }

/-- 'laws.FnFreeCells', WHERE WHAT IT READS IS OF BULK AT MOST 1048576: true; the input reads as it did. -/
def fnFreeCellsUptoRow : OpenClaim := { program := "ytkogoflcacameaadoor", sum := "34bbac51512cd1342e2899d78239fd03a5d611e801b5e080445d1bdfab7a1acf", func := "loop.example/robotcell/laws.FnFreeCells", spec := "fnFreeCells", unfollowed := true, recurses := true, named := ["loop.example/robotcell/impl.sines"], apart := false, laid := [("loop.example/robotcell/impl.sines", laid_loop_example_robotcell_impl_sines)], narrowed := true }
def FnFreeCellsUptoSaid : Prop := fnFreeCellsUptoRow.holds Tryd.pinned (OpenSpec.upto fnFreeCellsSpec)

/-- 'laws.FnExactFreeCells', WHERE WHAT IT READS IS OF BULK AT MOST 1048576: true; the input reads as it did. -/
def fnExactFreeCellsUptoRow : OpenClaim := { program := "ytkogoflcacameaadoor", sum := "34bbac51512cd1342e2899d78239fd03a5d611e801b5e080445d1bdfab7a1acf", func := "loop.example/robotcell/laws.FnExactFreeCells", spec := "fnExactFreeCells", unfollowed := true, recurses := true, named := ["loop.example/robotcell/impl.sines"], apart := false, laid := [("loop.example/robotcell/impl.sines", laid_loop_example_robotcell_impl_sines)], narrowed := true }
def FnExactFreeCellsUptoSaid : Prop := fnExactFreeCellsUptoRow.holds Tryd.pinned (OpenSpec.upto fnExactFreeCellsSpec)

end Rows
end Go.Proofs.YtkogoflcacameaaDoor
