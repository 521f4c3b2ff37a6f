/-
  No cell of these rows narrows 'for every input' (looked for: loops, veiled, ifaces, maps, wideKeys, modest, calm, conditions, laid).
  DERIVED. THE GIVEN ROWS OF THIS SEAT. 16 by the template 'for every input the law returns true; each argument reads behind the call as it read before'; 0 by the template 'total and deterministic' (their statements: YtkmopgdnaohcdaaTotals.lean).
  GIVEN WITH THE SEED: the statements are not yours to turn. If you find one false, say at which input.
  Laid BY PROGRAM, IN A SANDBOX (cutbox-rows.mjs): the forced cells as the released guide's own fill.sh prints them over the translation 7cbfe01411b13172… (all of the seat's roots in one cut). By AI agents, Wed Nov 11 2026. No macro, syntax, notation, axiom, sorry.
-/
import Derived.Test.YtkmopgdnaohcdaaChecked
import GoSem.Claim
import GoSem.ClaimJoined
import GoSem.ClaimMapViews
import Derived.JoinedTies
import Derived.KernelRfl
namespace Go.Proofs.Ytkmopgdnaohcdaa
/- THE CELL 'sum', in the pinned program and in every row, IS THE sha256 OF THE DUMP (.gsa) THAT YtkmopgdnaohcdaaProg.lean LOADS. Nothing in Lean hashes anything: it is a label: what it is worth is what the hold of that sum in a sandbox is worth. -/
noncomputable def Try.pinned : Pinned := { name := "ytkmopgdnaohcdaa", sum := "7cbfe01411b1317286d66d17612c5c714cdfb13a174b950a8ebc69915d63f397", checked := Try.checked }
namespace Rows
def none {H : Type} : Left H := { results := [], args := [] }

/-- 'laws.FnConvexValid': WHATEVER THE INPUT: true; the input reads as it did. -/
def fnConvexValidSpec : ChangeSpec := { name := "fnConvexValid", fn := fun _ => fun
  | [d] => { results := [.lit (.bool true)], args := [d] }
  | _ => none }
def fnConvexValidRow : OpenClaim := { program := "ytkmopgdnaohcdaa", sum := "7cbfe01411b1317286d66d17612c5c714cdfb13a174b950a8ebc69915d63f397", func := "loop.example/robotcell/laws.FnConvexValid", spec := "fnConvexValid", unfollowed := true, recurses := true, apart := false }
def FnConvexValidSaid : Prop := fnConvexValidRow.holds Try.pinned (OpenSpec.ofChange fnConvexValidSpec)

/-- ITS FALSE NEIGHBOUR: 'it returns false'. Refute it at one input. -/
def fnConvexValidWrong : ChangeSpec := { name := "fnConvexValid", fn := fun _ => fun
  | [d] => { results := [.lit (.bool false)], args := [d] }
  | _ => none }
def FnConvexValidWrongFalsely : Prop := fnConvexValidRow.holds Try.pinned (OpenSpec.ofChange fnConvexValidWrong)

/-- 'laws.FnInsideConvex': WHATEVER THE INPUT: true; the input reads as it did. -/
def fnInsideConvexSpec : ChangeSpec := { name := "fnInsideConvex", fn := fun _ => fun
  | [d] => { results := [.lit (.bool true)], args := [d] }
  | _ => none }
def fnInsideConvexRow : OpenClaim := { program := "ytkmopgdnaohcdaa", sum := "7cbfe01411b1317286d66d17612c5c714cdfb13a174b950a8ebc69915d63f397", func := "loop.example/robotcell/laws.FnInsideConvex", spec := "fnInsideConvex", unfollowed := true, recurses := true, apart := false }
def FnInsideConvexSaid : Prop := fnInsideConvexRow.holds Try.pinned (OpenSpec.ofChange fnInsideConvexSpec)

/-- ITS FALSE NEIGHBOUR: 'it returns false'. Refute it at one input. -/
def fnInsideConvexWrong : ChangeSpec := { name := "fnInsideConvex", fn := fun _ => fun
  | [d] => { results := [.lit (.bool false)], args := [d] }
  | _ => none }
def FnInsideConvexWrongFalsely : Prop := fnInsideConvexRow.holds Try.pinned (OpenSpec.ofChange fnInsideConvexWrong)

/-- 'laws.FnSegmentsMeet': WHATEVER THE INPUT: true; the input reads as it did. -/
def fnSegmentsMeetSpec : ChangeSpec := { name := "fnSegmentsMeet", fn := fun _ => fun
  | [d] => { results := [.lit (.bool true)], args := [d] }
  | _ => none }
def fnSegmentsMeetRow : OpenClaim := { program := "ytkmopgdnaohcdaa", sum := "7cbfe01411b1317286d66d17612c5c714cdfb13a174b950a8ebc69915d63f397", func := "loop.example/robotcell/laws.FnSegmentsMeet", spec := "fnSegmentsMeet", apart := false }
def FnSegmentsMeetSaid : Prop := fnSegmentsMeetRow.holds Try.pinned (OpenSpec.ofChange fnSegmentsMeetSpec)

/-- ITS FALSE NEIGHBOUR: 'it returns false'. Refute it at one input. -/
def fnSegmentsMeetWrong : ChangeSpec := { name := "fnSegmentsMeet", fn := fun _ => fun
  | [d] => { results := [.lit (.bool false)], args := [d] }
  | _ => none }
def FnSegmentsMeetWrongFalsely : Prop := fnSegmentsMeetRow.holds Try.pinned (OpenSpec.ofChange fnSegmentsMeetWrong)

/-- 'laws.FnSegmentHits': WHATEVER THE INPUT: true; the input reads as it did. -/
def fnSegmentHitsSpec : ChangeSpec := { name := "fnSegmentHits", fn := fun _ => fun
  | [d] => { results := [.lit (.bool true)], args := [d] }
  | _ => none }
def fnSegmentHitsRow : OpenClaim := { program := "ytkmopgdnaohcdaa", sum := "7cbfe01411b1317286d66d17612c5c714cdfb13a174b950a8ebc69915d63f397", func := "loop.example/robotcell/laws.FnSegmentHits", spec := "fnSegmentHits", unfollowed := true, recurses := true, apart := false }
def FnSegmentHitsSaid : Prop := fnSegmentHitsRow.holds Try.pinned (OpenSpec.ofChange fnSegmentHitsSpec)

/-- ITS FALSE NEIGHBOUR: 'it returns false'. Refute it at one input. -/
def fnSegmentHitsWrong : ChangeSpec := { name := "fnSegmentHits", fn := fun _ => fun
  | [d] => { results := [.lit (.bool false)], args := [d] }
  | _ => none }
def FnSegmentHitsWrongFalsely : Prop := fnSegmentHitsRow.holds Try.pinned (OpenSpec.ofChange fnSegmentHitsWrong)

/-- 'laws.FnConvexMeet': WHATEVER THE INPUT: true; the input reads as it did. -/
def fnConvexMeetSpec : ChangeSpec := { name := "fnConvexMeet", fn := fun _ => fun
  | [d] => { results := [.lit (.bool true)], args := [d] }
  | _ => none }
def fnConvexMeetRow : OpenClaim := { program := "ytkmopgdnaohcdaa", sum := "7cbfe01411b1317286d66d17612c5c714cdfb13a174b950a8ebc69915d63f397", func := "loop.example/robotcell/laws.FnConvexMeet", spec := "fnConvexMeet", unfollowed := true, recurses := true, apart := false }
def FnConvexMeetSaid : Prop := fnConvexMeetRow.holds Try.pinned (OpenSpec.ofChange fnConvexMeetSpec)

/-- ITS FALSE NEIGHBOUR: 'it returns false'. Refute it at one input. -/
def fnConvexMeetWrong : ChangeSpec := { name := "fnConvexMeet", fn := fun _ => fun
  | [d] => { results := [.lit (.bool false)], args := [d] }
  | _ => none }
def FnConvexMeetWrongFalsely : Prop := fnConvexMeetRow.holds Try.pinned (OpenSpec.ofChange fnConvexMeetWrong)

/-- 'laws.FnDoubleArea': WHATEVER THE INPUT: true; the input reads as it did. -/
def fnDoubleAreaSpec : ChangeSpec := { name := "fnDoubleArea", fn := fun _ => fun
  | [d] => { results := [.lit (.bool true)], args := [d] }
  | _ => none }
def fnDoubleAreaRow : OpenClaim := { program := "ytkmopgdnaohcdaa", sum := "7cbfe01411b1317286d66d17612c5c714cdfb13a174b950a8ebc69915d63f397", func := "loop.example/robotcell/laws.FnDoubleArea", spec := "fnDoubleArea", unfollowed := true, recurses := true, apart := false }
def FnDoubleAreaSaid : Prop := fnDoubleAreaRow.holds Try.pinned (OpenSpec.ofChange fnDoubleAreaSpec)

/-- ITS FALSE NEIGHBOUR: 'it returns false'. Refute it at one input. -/
def fnDoubleAreaWrong : ChangeSpec := { name := "fnDoubleArea", fn := fun _ => fun
  | [d] => { results := [.lit (.bool false)], args := [d] }
  | _ => none }
def FnDoubleAreaWrongFalsely : Prop := fnDoubleAreaRow.holds Try.pinned (OpenSpec.ofChange fnDoubleAreaWrong)

/-- 'laws.FnHullOf': WHATEVER THE INPUT: true; the input reads as it did. -/
def fnHullOfSpec : ChangeSpec := { name := "fnHullOf", fn := fun _ => fun
  | [d] => { results := [.lit (.bool true)], args := [d] }
  | _ => none }
def fnHullOfRow : OpenClaim := { program := "ytkmopgdnaohcdaa", sum := "7cbfe01411b1317286d66d17612c5c714cdfb13a174b950a8ebc69915d63f397", func := "loop.example/robotcell/laws.FnHullOf", spec := "fnHullOf", unfollowed := true, recurses := true, apart := false }
def FnHullOfSaid : Prop := fnHullOfRow.holds Try.pinned (OpenSpec.ofChange fnHullOfSpec)

/-- ITS FALSE NEIGHBOUR: 'it returns false'. Refute it at one input. -/
def fnHullOfWrong : ChangeSpec := { name := "fnHullOf", fn := fun _ => fun
  | [d] => { results := [.lit (.bool false)], args := [d] }
  | _ => none }
def FnHullOfWrongFalsely : Prop := fnHullOfRow.holds Try.pinned (OpenSpec.ofChange fnHullOfWrong)

/-- 'laws.FnHullArea': WHATEVER THE INPUT: true; the input reads as it did. -/
def fnHullAreaSpec : ChangeSpec := { name := "fnHullArea", fn := fun _ => fun
  | [d] => { results := [.lit (.bool true)], args := [d] }
  | _ => none }
def fnHullAreaRow : OpenClaim := { program := "ytkmopgdnaohcdaa", sum := "7cbfe01411b1317286d66d17612c5c714cdfb13a174b950a8ebc69915d63f397", func := "loop.example/robotcell/laws.FnHullArea", spec := "fnHullArea", unfollowed := true, recurses := true, apart := false }
def FnHullAreaSaid : Prop := fnHullAreaRow.holds Try.pinned (OpenSpec.ofChange fnHullAreaSpec)

/-- ITS FALSE NEIGHBOUR: 'it returns false'. Refute it at one input. -/
def fnHullAreaWrong : ChangeSpec := { name := "fnHullArea", fn := fun _ => fun
  | [d] => { results := [.lit (.bool false)], args := [d] }
  | _ => none }
def FnHullAreaWrongFalsely : Prop := fnHullAreaRow.holds Try.pinned (OpenSpec.ofChange fnHullAreaWrong)

/-- 'laws.FnOrientArea': WHATEVER THE INPUT: true; the input reads as it did. -/
def fnOrientAreaSpec : ChangeSpec := { name := "fnOrientArea", fn := fun _ => fun
  | [d] => { results := [.lit (.bool true)], args := [d] }
  | _ => none }
def fnOrientAreaRow : OpenClaim := { program := "ytkmopgdnaohcdaa", sum := "7cbfe01411b1317286d66d17612c5c714cdfb13a174b950a8ebc69915d63f397", func := "loop.example/robotcell/laws.FnOrientArea", spec := "fnOrientArea", unfollowed := true, recurses := true, apart := false }
def FnOrientAreaSaid : Prop := fnOrientAreaRow.holds Try.pinned (OpenSpec.ofChange fnOrientAreaSpec)

/-- ITS FALSE NEIGHBOUR: 'it returns false'. Refute it at one input. -/
def fnOrientAreaWrong : ChangeSpec := { name := "fnOrientArea", fn := fun _ => fun
  | [d] => { results := [.lit (.bool false)], args := [d] }
  | _ => none }
def FnOrientAreaWrongFalsely : Prop := fnOrientAreaRow.holds Try.pinned (OpenSpec.ofChange fnOrientAreaWrong)

/-- 'laws.FnExactConvexValid': WHATEVER THE INPUT: true; the input reads as it did. -/
def fnExactConvexValidSpec : ChangeSpec := { name := "fnExactConvexValid", fn := fun _ => fun
  | [d] => { results := [.lit (.bool true)], args := [d] }
  | _ => none }
def fnExactConvexValidRow : OpenClaim := { program := "ytkmopgdnaohcdaa", sum := "7cbfe01411b1317286d66d17612c5c714cdfb13a174b950a8ebc69915d63f397", func := "loop.example/robotcell/laws.FnExactConvexValid", spec := "fnExactConvexValid", unfollowed := true, recurses := true, apart := false }
def FnExactConvexValidSaid : Prop := fnExactConvexValidRow.holds Try.pinned (OpenSpec.ofChange fnExactConvexValidSpec)

/-- ITS FALSE NEIGHBOUR: 'it returns false'. Refute it at one input. -/
def fnExactConvexValidWrong : ChangeSpec := { name := "fnExactConvexValid", fn := fun _ => fun
  | [d] => { results := [.lit (.bool false)], args := [d] }
  | _ => none }
def FnExactConvexValidWrongFalsely : Prop := fnExactConvexValidRow.holds Try.pinned (OpenSpec.ofChange fnExactConvexValidWrong)

/-- 'laws.FnExactInsideConvex': WHATEVER THE INPUT: true; the input reads as it did. -/
def fnExactInsideConvexSpec : ChangeSpec := { name := "fnExactInsideConvex", fn := fun _ => fun
  | [d1, d2] => { results := [.lit (.bool true)], args := [d1, d2] }
  | _ => none }
def fnExactInsideConvexRow : OpenClaim := { program := "ytkmopgdnaohcdaa", sum := "7cbfe01411b1317286d66d17612c5c714cdfb13a174b950a8ebc69915d63f397", func := "loop.example/robotcell/laws.FnExactInsideConvex", spec := "fnExactInsideConvex", unfollowed := true, recurses := true, apart := false }
def FnExactInsideConvexSaid : Prop := fnExactInsideConvexRow.holds Try.pinned (OpenSpec.ofChange fnExactInsideConvexSpec)

/-- ITS FALSE NEIGHBOUR: 'it returns false'. Refute it at one input. -/
def fnExactInsideConvexWrong : ChangeSpec := { name := "fnExactInsideConvex", fn := fun _ => fun
  | [d1, d2] => { results := [.lit (.bool false)], args := [d1, d2] }
  | _ => none }
def FnExactInsideConvexWrongFalsely : Prop := fnExactInsideConvexRow.holds Try.pinned (OpenSpec.ofChange fnExactInsideConvexWrong)

/-- 'laws.FnExactSegmentsMeet': WHATEVER THE INPUT: true; the input reads as it did. -/
def fnExactSegmentsMeetSpec : ChangeSpec := { name := "fnExactSegmentsMeet", fn := fun _ => fun
  | [d1, d2, d3, d4] => { results := [.lit (.bool true)], args := [d1, d2, d3, d4] }
  | _ => none }
def fnExactSegmentsMeetRow : OpenClaim := { program := "ytkmopgdnaohcdaa", sum := "7cbfe01411b1317286d66d17612c5c714cdfb13a174b950a8ebc69915d63f397", func := "loop.example/robotcell/laws.FnExactSegmentsMeet", spec := "fnExactSegmentsMeet", apart := false }
def FnExactSegmentsMeetSaid : Prop := fnExactSegmentsMeetRow.holds Try.pinned (OpenSpec.ofChange fnExactSegmentsMeetSpec)

/-- ITS FALSE NEIGHBOUR: 'it returns false'. Refute it at one input. -/
def fnExactSegmentsMeetWrong : ChangeSpec := { name := "fnExactSegmentsMeet", fn := fun _ => fun
  | [d1, d2, d3, d4] => { results := [.lit (.bool false)], args := [d1, d2, d3, d4] }
  | _ => none }
def FnExactSegmentsMeetWrongFalsely : Prop := fnExactSegmentsMeetRow.holds Try.pinned (OpenSpec.ofChange fnExactSegmentsMeetWrong)

/-- 'laws.FnExactSegmentHits': WHATEVER THE INPUT: true; the input reads as it did. -/
def fnExactSegmentHitsSpec : ChangeSpec := { name := "fnExactSegmentHits", fn := fun _ => fun
  | [d1, d2, d3] => { results := [.lit (.bool true)], args := [d1, d2, d3] }
  | _ => none }
def fnExactSegmentHitsRow : OpenClaim := { program := "ytkmopgdnaohcdaa", sum := "7cbfe01411b1317286d66d17612c5c714cdfb13a174b950a8ebc69915d63f397", func := "loop.example/robotcell/laws.FnExactSegmentHits", spec := "fnExactSegmentHits", unfollowed := true, recurses := true, apart := false }
def FnExactSegmentHitsSaid : Prop := fnExactSegmentHitsRow.holds Try.pinned (OpenSpec.ofChange fnExactSegmentHitsSpec)

/-- ITS FALSE NEIGHBOUR: 'it returns false'. Refute it at one input. -/
def fnExactSegmentHitsWrong : ChangeSpec := { name := "fnExactSegmentHits", fn := fun _ => fun
  | [d1, d2, d3] => { results := [.lit (.bool false)], args := [d1, d2, d3] }
  | _ => none }
def FnExactSegmentHitsWrongFalsely : Prop := fnExactSegmentHitsRow.holds Try.pinned (OpenSpec.ofChange fnExactSegmentHitsWrong)

/-- 'laws.FnExactConvexMeet': WHATEVER THE INPUT: true; the input reads as it did. -/
def fnExactConvexMeetSpec : ChangeSpec := { name := "fnExactConvexMeet", fn := fun _ => fun
  | [d1, d2] => { results := [.lit (.bool true)], args := [d1, d2] }
  | _ => none }
def fnExactConvexMeetRow : OpenClaim := { program := "ytkmopgdnaohcdaa", sum := "7cbfe01411b1317286d66d17612c5c714cdfb13a174b950a8ebc69915d63f397", func := "loop.example/robotcell/laws.FnExactConvexMeet", spec := "fnExactConvexMeet", unfollowed := true, recurses := true, apart := false }
def FnExactConvexMeetSaid : Prop := fnExactConvexMeetRow.holds Try.pinned (OpenSpec.ofChange fnExactConvexMeetSpec)

/-- ITS FALSE NEIGHBOUR: 'it returns false'. Refute it at one input. -/
def fnExactConvexMeetWrong : ChangeSpec := { name := "fnExactConvexMeet", fn := fun _ => fun
  | [d1, d2] => { results := [.lit (.bool false)], args := [d1, d2] }
  | _ => none }
def FnExactConvexMeetWrongFalsely : Prop := fnExactConvexMeetRow.holds Try.pinned (OpenSpec.ofChange fnExactConvexMeetWrong)

/-- 'laws.FnExactDoubleArea': WHATEVER THE INPUT: true; the input reads as it did. -/
def fnExactDoubleAreaSpec : ChangeSpec := { name := "fnExactDoubleArea", fn := fun _ => fun
  | [d] => { results := [.lit (.bool true)], args := [d] }
  | _ => none }
def fnExactDoubleAreaRow : OpenClaim := { program := "ytkmopgdnaohcdaa", sum := "7cbfe01411b1317286d66d17612c5c714cdfb13a174b950a8ebc69915d63f397", func := "loop.example/robotcell/laws.FnExactDoubleArea", spec := "fnExactDoubleArea", unfollowed := true, recurses := true, apart := false }
def FnExactDoubleAreaSaid : Prop := fnExactDoubleAreaRow.holds Try.pinned (OpenSpec.ofChange fnExactDoubleAreaSpec)

/-- ITS FALSE NEIGHBOUR: 'it returns false'. Refute it at one input. -/
def fnExactDoubleAreaWrong : ChangeSpec := { name := "fnExactDoubleArea", fn := fun _ => fun
  | [d] => { results := [.lit (.bool false)], args := [d] }
  | _ => none }
def FnExactDoubleAreaWrongFalsely : Prop := fnExactDoubleAreaRow.holds Try.pinned (OpenSpec.ofChange fnExactDoubleAreaWrong)

/-- 'laws.FnExactHullOf': WHATEVER THE INPUT: true; the input reads as it did. -/
def fnExactHullOfSpec : ChangeSpec := { name := "fnExactHullOf", fn := fun _ => fun
  | [d] => { results := [.lit (.bool true)], args := [d] }
  | _ => none }
def fnExactHullOfRow : OpenClaim := { program := "ytkmopgdnaohcdaa", sum := "7cbfe01411b1317286d66d17612c5c714cdfb13a174b950a8ebc69915d63f397", func := "loop.example/robotcell/laws.FnExactHullOf", spec := "fnExactHullOf", unfollowed := true, recurses := true, apart := false }
def FnExactHullOfSaid : Prop := fnExactHullOfRow.holds Try.pinned (OpenSpec.ofChange fnExactHullOfSpec)

/-- ITS FALSE NEIGHBOUR: 'it returns false'. Refute it at one input. -/
def fnExactHullOfWrong : ChangeSpec := { name := "fnExactHullOf", fn := fun _ => fun
  | [d] => { results := [.lit (.bool false)], args := [d] }
  | _ => none }
def FnExactHullOfWrongFalsely : Prop := fnExactHullOfRow.holds Try.pinned (OpenSpec.ofChange fnExactHullOfWrong)

/- THE SECOND FORM. 'bulk': how many values and letters a reading holds, each counted each time it is reached (what is shared counts as often as it is met; a slice's spare places count too). A statement '..UptoSaid' is the law's where the arguments, and the package variables that the reading takes, are together of bulk at most 1048576: NARROWER than '..Said'. Prove '..Said' where nothing that the law and all that it calls make is longer than what came in: it says more and counts as full. Else prove '..UptoSaid'. A law counts once. -/
mutual
def uptoBulk {H : Type} : DataW H → Nat
  | .lit (.string bytes) => bytes.length + 1
  | .lit _ => 1
  | .nil => 1
  | .ptr d => uptoBulk d + 1
  | .slice elems spare => uptoBulkAll elems + uptoBulkAll spare + 1
  | .agg parts => uptoBulkAll parts + 1
  | .iface _ d => uptoBulk d + 1
  | .map entries => uptoBulkEntries entries + 1
  | .held _ => 1
def uptoBulkAll {H : Type} : List (DataW H) → Nat
  | [] => 0
  | d :: r => uptoBulk d + uptoBulkAll r
def uptoBulkEntries {H : Type} : List (Lit × DataW H) → Nat
  | [] => 0
  | x :: r => uptoBulkEntry x + uptoBulkEntries r
def uptoBulkEntry {H : Type} : Lit × DataW H → Nat
  | (.string bytes, d) => bytes.length + uptoBulk d + 1
  | (_, d) => uptoBulk d + 1
 end
def uptoSmall : (H : Type) → List (DataW H) → Bool := fun _ ds => decide (uptoBulkAll ds ≤ 1048576)
def OpenSpec.upto (s : _root_.Go.ChangeSpec) : _root_.Go.OpenSpec := { _root_.Go.OpenSpec.ofChange s with cond := some uptoSmall }

/-- 'laws.FnConvexValid', WHERE WHAT IT READS IS OF BULK AT MOST 1048576: true; the input reads as it did. -/
def fnConvexValidUptoRow : OpenClaim := { program := "ytkmopgdnaohcdaa", sum := "7cbfe01411b1317286d66d17612c5c714cdfb13a174b950a8ebc69915d63f397", func := "loop.example/robotcell/laws.FnConvexValid", spec := "fnConvexValid", unfollowed := true, recurses := true, apart := false, narrowed := true }
def FnConvexValidUptoSaid : Prop := fnConvexValidUptoRow.holds Try.pinned (OpenSpec.upto fnConvexValidSpec)

/-- 'laws.FnInsideConvex', WHERE WHAT IT READS IS OF BULK AT MOST 1048576: true; the input reads as it did. -/
def fnInsideConvexUptoRow : OpenClaim := { program := "ytkmopgdnaohcdaa", sum := "7cbfe01411b1317286d66d17612c5c714cdfb13a174b950a8ebc69915d63f397", func := "loop.example/robotcell/laws.FnInsideConvex", spec := "fnInsideConvex", unfollowed := true, recurses := true, apart := false, narrowed := true }
def FnInsideConvexUptoSaid : Prop := fnInsideConvexUptoRow.holds Try.pinned (OpenSpec.upto fnInsideConvexSpec)

/-- 'laws.FnSegmentsMeet', WHERE WHAT IT READS IS OF BULK AT MOST 1048576: true; the input reads as it did. -/
def fnSegmentsMeetUptoRow : OpenClaim := { program := "ytkmopgdnaohcdaa", sum := "7cbfe01411b1317286d66d17612c5c714cdfb13a174b950a8ebc69915d63f397", func := "loop.example/robotcell/laws.FnSegmentsMeet", spec := "fnSegmentsMeet", apart := false, narrowed := true }
def FnSegmentsMeetUptoSaid : Prop := fnSegmentsMeetUptoRow.holds Try.pinned (OpenSpec.upto fnSegmentsMeetSpec)

/-- 'laws.FnSegmentHits', WHERE WHAT IT READS IS OF BULK AT MOST 1048576: true; the input reads as it did. -/
def fnSegmentHitsUptoRow : OpenClaim := { program := "ytkmopgdnaohcdaa", sum := "7cbfe01411b1317286d66d17612c5c714cdfb13a174b950a8ebc69915d63f397", func := "loop.example/robotcell/laws.FnSegmentHits", spec := "fnSegmentHits", unfollowed := true, recurses := true, apart := false, narrowed := true }
def FnSegmentHitsUptoSaid : Prop := fnSegmentHitsUptoRow.holds Try.pinned (OpenSpec.upto fnSegmentHitsSpec)

/-- 'laws.FnConvexMeet', WHERE WHAT IT READS IS OF BULK AT MOST 1048576: true; the input reads as it did. -/
def fnConvexMeetUptoRow : OpenClaim := { program := "ytkmopgdnaohcdaa", sum := "7cbfe01411b1317286d66d17612c5c714cdfb13a174b950a8ebc69915d63f397", func := "loop.example/robotcell/laws.FnConvexMeet", spec := "fnConvexMeet", unfollowed := true, recurses := true, apart := false, narrowed := true }
def FnConvexMeetUptoSaid : Prop := fnConvexMeetUptoRow.holds Try.pinned (OpenSpec.upto fnConvexMeetSpec)

/-- 'laws.FnDoubleArea', WHERE WHAT IT READS IS OF BULK AT MOST 1048576: true; the input reads as it did. -/
def fnDoubleAreaUptoRow : OpenClaim := { program := "ytkmopgdnaohcdaa", sum := "7cbfe01411b1317286d66d17612c5c714cdfb13a174b950a8ebc69915d63f397", func := "loop.example/robotcell/laws.FnDoubleArea", spec := "fnDoubleArea", unfollowed := true, recurses := true, apart := false, narrowed := true }
def FnDoubleAreaUptoSaid : Prop := fnDoubleAreaUptoRow.holds Try.pinned (OpenSpec.upto fnDoubleAreaSpec)

/-- 'laws.FnHullOf', WHERE WHAT IT READS IS OF BULK AT MOST 1048576: true; the input reads as it did. -/
def fnHullOfUptoRow : OpenClaim := { program := "ytkmopgdnaohcdaa", sum := "7cbfe01411b1317286d66d17612c5c714cdfb13a174b950a8ebc69915d63f397", func := "loop.example/robotcell/laws.FnHullOf", spec := "fnHullOf", unfollowed := true, recurses := true, apart := false, narrowed := true }
def FnHullOfUptoSaid : Prop := fnHullOfUptoRow.holds Try.pinned (OpenSpec.upto fnHullOfSpec)

/-- 'laws.FnHullArea', WHERE WHAT IT READS IS OF BULK AT MOST 1048576: true; the input reads as it did. -/
def fnHullAreaUptoRow : OpenClaim := { program := "ytkmopgdnaohcdaa", sum := "7cbfe01411b1317286d66d17612c5c714cdfb13a174b950a8ebc69915d63f397", func := "loop.example/robotcell/laws.FnHullArea", spec := "fnHullArea", unfollowed := true, recurses := true, apart := false, narrowed := true }
def FnHullAreaUptoSaid : Prop := fnHullAreaUptoRow.holds Try.pinned (OpenSpec.upto fnHullAreaSpec)

/-- 'laws.FnOrientArea', WHERE WHAT IT READS IS OF BULK AT MOST 1048576: true; the input reads as it did. -/
def fnOrientAreaUptoRow : OpenClaim := { program := "ytkmopgdnaohcdaa", sum := "7cbfe01411b1317286d66d17612c5c714cdfb13a174b950a8ebc69915d63f397", func := "loop.example/robotcell/laws.FnOrientArea", spec := "fnOrientArea", unfollowed := true, recurses := true, apart := false, narrowed := true }
def FnOrientAreaUptoSaid : Prop := fnOrientAreaUptoRow.holds Try.pinned (OpenSpec.upto fnOrientAreaSpec)

/-- 'laws.FnExactConvexValid', WHERE WHAT IT READS IS OF BULK AT MOST 1048576: true; the input reads as it did. -/
def fnExactConvexValidUptoRow : OpenClaim := { program := "ytkmopgdnaohcdaa", sum := "7cbfe01411b1317286d66d17612c5c714cdfb13a174b950a8ebc69915d63f397", func := "loop.example/robotcell/laws.FnExactConvexValid", spec := "fnExactConvexValid", unfollowed := true, recurses := true, apart := false, narrowed := true }
def FnExactConvexValidUptoSaid : Prop := fnExactConvexValidUptoRow.holds Try.pinned (OpenSpec.upto fnExactConvexValidSpec)

/-- 'laws.FnExactInsideConvex', WHERE WHAT IT READS IS OF BULK AT MOST 1048576: true; the input reads as it did. -/
def fnExactInsideConvexUptoRow : OpenClaim := { program := "ytkmopgdnaohcdaa", sum := "7cbfe01411b1317286d66d17612c5c714cdfb13a174b950a8ebc69915d63f397", func := "loop.example/robotcell/laws.FnExactInsideConvex", spec := "fnExactInsideConvex", unfollowed := true, recurses := true, apart := false, narrowed := true }
def FnExactInsideConvexUptoSaid : Prop := fnExactInsideConvexUptoRow.holds Try.pinned (OpenSpec.upto fnExactInsideConvexSpec)

/-- 'laws.FnExactSegmentsMeet', WHERE WHAT IT READS IS OF BULK AT MOST 1048576: true; the input reads as it did. -/
def fnExactSegmentsMeetUptoRow : OpenClaim := { program := "ytkmopgdnaohcdaa", sum := "7cbfe01411b1317286d66d17612c5c714cdfb13a174b950a8ebc69915d63f397", func := "loop.example/robotcell/laws.FnExactSegmentsMeet", spec := "fnExactSegmentsMeet", apart := false, narrowed := true }
def FnExactSegmentsMeetUptoSaid : Prop := fnExactSegmentsMeetUptoRow.holds Try.pinned (OpenSpec.upto fnExactSegmentsMeetSpec)

/-- 'laws.FnExactSegmentHits', WHERE WHAT IT READS IS OF BULK AT MOST 1048576: true; the input reads as it did. -/
def fnExactSegmentHitsUptoRow : OpenClaim := { program := "ytkmopgdnaohcdaa", sum := "7cbfe01411b1317286d66d17612c5c714cdfb13a174b950a8ebc69915d63f397", func := "loop.example/robotcell/laws.FnExactSegmentHits", spec := "fnExactSegmentHits", unfollowed := true, recurses := true, apart := false, narrowed := true }
def FnExactSegmentHitsUptoSaid : Prop := fnExactSegmentHitsUptoRow.holds Try.pinned (OpenSpec.upto fnExactSegmentHitsSpec)

/-- 'laws.FnExactConvexMeet', WHERE WHAT IT READS IS OF BULK AT MOST 1048576: true; the input reads as it did. -/
def fnExactConvexMeetUptoRow : OpenClaim := { program := "ytkmopgdnaohcdaa", sum := "7cbfe01411b1317286d66d17612c5c714cdfb13a174b950a8ebc69915d63f397", func := "loop.example/robotcell/laws.FnExactConvexMeet", spec := "fnExactConvexMeet", unfollowed := true, recurses := true, apart := false, narrowed := true }
def FnExactConvexMeetUptoSaid : Prop := fnExactConvexMeetUptoRow.holds Try.pinned (OpenSpec.upto fnExactConvexMeetSpec)

/-- 'laws.FnExactDoubleArea', WHERE WHAT IT READS IS OF BULK AT MOST 1048576: true; the input reads as it did. -/
def fnExactDoubleAreaUptoRow : OpenClaim := { program := "ytkmopgdnaohcdaa", sum := "7cbfe01411b1317286d66d17612c5c714cdfb13a174b950a8ebc69915d63f397", func := "loop.example/robotcell/laws.FnExactDoubleArea", spec := "fnExactDoubleArea", unfollowed := true, recurses := true, apart := false, narrowed := true }
def FnExactDoubleAreaUptoSaid : Prop := fnExactDoubleAreaUptoRow.holds Try.pinned (OpenSpec.upto fnExactDoubleAreaSpec)

/-- 'laws.FnExactHullOf', WHERE WHAT IT READS IS OF BULK AT MOST 1048576: true; the input reads as it did. -/
def fnExactHullOfUptoRow : OpenClaim := { program := "ytkmopgdnaohcdaa", sum := "7cbfe01411b1317286d66d17612c5c714cdfb13a174b950a8ebc69915d63f397", func := "loop.example/robotcell/laws.FnExactHullOf", spec := "fnExactHullOf", unfollowed := true, recurses := true, apart := false, narrowed := true }
def FnExactHullOfUptoSaid : Prop := fnExactHullOfUptoRow.holds Try.pinned (OpenSpec.upto fnExactHullOfSpec)

end Rows
end Go.Proofs.Ytkmopgdnaohcdaa
