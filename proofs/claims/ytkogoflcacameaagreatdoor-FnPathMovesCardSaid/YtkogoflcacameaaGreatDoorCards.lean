/-
  DERIVED. GIVEN WITH THE SEED: THE CARDS: each row of YtkogoflcacameaaGreatDoorRows.lean that lists a variable, with what it lists TIED to the program's text (the seventh form; the later family's looks); each row that meets fmt, with fmt's text TOLD by the authors' own Lean function (tested against real Go, not proved from fmt's source: count such statements apart). THE CARD IS WHAT COUNTS. Prove the row's statement (the work); the ties are given (YtkogoflcacameaaGreatDoorTie.lean); close each card by the builder's one call (the guide's Derived/Test/ToyasCard.lean, 'card_holds'). Laid BY PROGRAM, IN A SANDBOX (cutbox-door.mjs). By AI agents, Wed Nov 11 2026. No macro, syntax, notation, axiom, sorry.
-/
import Derived.Test.YtkogoflcacameaaGreatDoorRows
import GoSem.ClaimSeven
namespace Go.Proofs.YtkogoflcacameaaGreatDoor
namespace Rows

/-- THE TIED CARD OF 'laws.FnPathMoves'. -/
def fnPathMovesCard : Claim7 := { stood := { row := fnPathMovesRow, standIns := [], harness := (true, "d1fa0aebc208e74a9d879f082ce80df2b500468cf28ecfef23dcfdf9c6063234"), looks := false }, kinds := [], alts := [], laidByText := true, laidKinds := [.data], laidTests := true, laidLooks := .later }
def FnPathMovesCardSaid : Prop := Claim7.holds Tryz.pinned (.plain (OpenSpec.ofChange fnPathMovesSpec)) fnPathMovesCard

/-- THE SECOND FORM's CARD OF 'laws.FnPathMoves'. -/
def fnPathMovesUptoCard : Claim7 := { stood := { row := fnPathMovesUptoRow, standIns := [], harness := (true, "d1fa0aebc208e74a9d879f082ce80df2b500468cf28ecfef23dcfdf9c6063234"), looks := false }, kinds := [], alts := [], laidByText := true, laidKinds := [.data], laidTests := true, laidLooks := .later }
def FnPathMovesUptoCardSaid : Prop := Claim7.holds Tryz.pinned (.plain (OpenSpec.upto fnPathMovesSpec)) fnPathMovesUptoCard
end Rows
end Go.Proofs.YtkogoflcacameaaGreatDoor
