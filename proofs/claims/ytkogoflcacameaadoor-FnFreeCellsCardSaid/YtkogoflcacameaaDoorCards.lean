/-
  DERIVED. GIVEN WITH THE SEED: THE CARDS: each row of YtkogoflcacameaaDoorRows.lean that lists a variable, with what it lists TIED to the program's text (the seventh form; the later family's looks); each row that meets fmt, with fmt's text TOLD by the authors' own Lean function (tested against real Go, not proved from fmt's source: count such statements apart). THE CARD IS WHAT COUNTS. Prove the row's statement (the work); the ties are given (YtkogoflcacameaaDoorTie.lean); close each card by the builder's one call (the guide's Derived/Test/ToyasCard.lean, 'card_holds'). Laid BY PROGRAM, IN A SANDBOX (cutbox-door.mjs). By AI agents, Wed Nov 11 2026. No macro, syntax, notation, axiom, sorry.
-/
import Derived.Test.YtkogoflcacameaaDoorRows
import GoSem.ClaimSeven
namespace Go.Proofs.YtkogoflcacameaaDoor
namespace Rows

/-- THE TIED CARD OF 'laws.FnFreeCells'. -/
def fnFreeCellsCard : Claim7 := { stood := { row := fnFreeCellsRow, standIns := [], harness := (true, "47aa0fc0d932e242ee4968d4160ab23cf463242facd4ecaf8bf8557428cdf327"), looks := false }, kinds := [], alts := [], laidByText := true, laidKinds := [.data], laidTests := true, laidLooks := .later }
def FnFreeCellsCardSaid : Prop := Claim7.holds Tryd.pinned (.plain (OpenSpec.ofChange fnFreeCellsSpec)) fnFreeCellsCard

/-- THE TIED CARD OF 'laws.FnExactFreeCells'. -/
def fnExactFreeCellsCard : Claim7 := { stood := { row := fnExactFreeCellsRow, standIns := [], harness := (true, "47aa0fc0d932e242ee4968d4160ab23cf463242facd4ecaf8bf8557428cdf327"), looks := false }, kinds := [], alts := [], laidByText := true, laidKinds := [.data], laidTests := true, laidLooks := .later }
def FnExactFreeCellsCardSaid : Prop := Claim7.holds Tryd.pinned (.plain (OpenSpec.ofChange fnExactFreeCellsSpec)) fnExactFreeCellsCard

/-- THE SECOND FORM's CARD OF 'laws.FnFreeCells'. -/
def fnFreeCellsUptoCard : Claim7 := { stood := { row := fnFreeCellsUptoRow, standIns := [], harness := (true, "47aa0fc0d932e242ee4968d4160ab23cf463242facd4ecaf8bf8557428cdf327"), looks := false }, kinds := [], alts := [], laidByText := true, laidKinds := [.data], laidTests := true, laidLooks := .later }
def FnFreeCellsUptoCardSaid : Prop := Claim7.holds Tryd.pinned (.plain (OpenSpec.upto fnFreeCellsSpec)) fnFreeCellsUptoCard

/-- THE SECOND FORM's CARD OF 'laws.FnExactFreeCells'. -/
def fnExactFreeCellsUptoCard : Claim7 := { stood := { row := fnExactFreeCellsUptoRow, standIns := [], harness := (true, "47aa0fc0d932e242ee4968d4160ab23cf463242facd4ecaf8bf8557428cdf327"), looks := false }, kinds := [], alts := [], laidByText := true, laidKinds := [.data], laidTests := true, laidLooks := .later }
def FnExactFreeCellsUptoCardSaid : Prop := Claim7.holds Tryd.pinned (.plain (OpenSpec.upto fnExactFreeCellsSpec)) fnExactFreeCellsUptoCard
end Rows
end Go.Proofs.YtkogoflcacameaaDoor
