/-
  DERIVED. GIVEN WITH THE SEED: THE CARDS: each row of YtlajpeoadgfobaaDoorRows.lean that lists a variable, with what it lists TIED to the program's text (the seventh form; the later family's looks); each row that meets fmt, with fmt's text TOLD by the authors' own Lean function (tested against real Go, not proved from fmt's source: count such statements apart). THE CARD IS WHAT COUNTS. Prove the row's statement (the work); the ties are given (YtlajpeoadgfobaaDoorTie.lean); close each card by the builder's one call (the guide's Derived/Test/ToyasCard.lean, 'card_holds'). Laid BY PROGRAM, IN A SANDBOX (cutbox-door.mjs). By AI agents, Wed Nov 11 2026. No macro, syntax, notation, axiom, sorry.
-/
import Derived.Test.YtlajpeoadgfobaaDoorRows
import GoSem.ClaimSeven
namespace Go.Proofs.YtlajpeoadgfobaaDoor
namespace Rows

/-- THE TIED CARD OF 'laws.FnRotatePoint'. -/
def fnRotatePointCard : Claim7 := { stood := { row := fnRotatePointRow, standIns := [], harness := (true, "a844ddeb43032e983062115eaba28080f68a9b82f9987eb9e26a7c60e8195d4c"), looks := false }, kinds := [], alts := [], laidByText := true, laidKinds := [.data], laidTests := true, laidLooks := .later }
def FnRotatePointCardSaid : Prop := Claim7.holds Tryd.pinned (.plain (OpenSpec.ofChange fnRotatePointSpec)) fnRotatePointCard

/-- THE TIED CARD OF 'laws.FnExactRotatePoint'. -/
def fnExactRotatePointCard : Claim7 := { stood := { row := fnExactRotatePointRow, standIns := [], harness := (true, "a844ddeb43032e983062115eaba28080f68a9b82f9987eb9e26a7c60e8195d4c"), looks := false }, kinds := [], alts := [], laidByText := true, laidKinds := [.data], laidTests := true, laidLooks := .later }
def FnExactRotatePointCardSaid : Prop := Claim7.holds Tryd.pinned (.plain (OpenSpec.ofChange fnExactRotatePointSpec)) fnExactRotatePointCard

/-- THE TIED CARD OF 'laws.FnArcPoints'. -/
def fnArcPointsCard : Claim7 := { stood := { row := fnArcPointsRow, standIns := [], harness := (true, "a844ddeb43032e983062115eaba28080f68a9b82f9987eb9e26a7c60e8195d4c"), looks := false }, kinds := [], alts := [], laidByText := true, laidKinds := [.data], laidTests := true, laidLooks := .later }
def FnArcPointsCardSaid : Prop := Claim7.holds Tryd.pinned (.plain (OpenSpec.ofChange fnArcPointsSpec)) fnArcPointsCard

/-- THE TIED CARD OF 'laws.FnExactArcPoints'. -/
def fnExactArcPointsCard : Claim7 := { stood := { row := fnExactArcPointsRow, standIns := [], harness := (true, "a844ddeb43032e983062115eaba28080f68a9b82f9987eb9e26a7c60e8195d4c"), looks := false }, kinds := [], alts := [], laidByText := true, laidKinds := [.data], laidTests := true, laidLooks := .later }
def FnExactArcPointsCardSaid : Prop := Claim7.holds Tryd.pinned (.plain (OpenSpec.ofChange fnExactArcPointsSpec)) fnExactArcPointsCard

/-- THE SECOND FORM's CARD OF 'laws.FnRotatePoint'. -/
def fnRotatePointUptoCard : Claim7 := { stood := { row := fnRotatePointUptoRow, standIns := [], harness := (true, "a844ddeb43032e983062115eaba28080f68a9b82f9987eb9e26a7c60e8195d4c"), looks := false }, kinds := [], alts := [], laidByText := true, laidKinds := [.data], laidTests := true, laidLooks := .later }
def FnRotatePointUptoCardSaid : Prop := Claim7.holds Tryd.pinned (.plain (OpenSpec.upto fnRotatePointSpec)) fnRotatePointUptoCard

/-- THE SECOND FORM's CARD OF 'laws.FnExactRotatePoint'. -/
def fnExactRotatePointUptoCard : Claim7 := { stood := { row := fnExactRotatePointUptoRow, standIns := [], harness := (true, "a844ddeb43032e983062115eaba28080f68a9b82f9987eb9e26a7c60e8195d4c"), looks := false }, kinds := [], alts := [], laidByText := true, laidKinds := [.data], laidTests := true, laidLooks := .later }
def FnExactRotatePointUptoCardSaid : Prop := Claim7.holds Tryd.pinned (.plain (OpenSpec.upto fnExactRotatePointSpec)) fnExactRotatePointUptoCard

/-- THE SECOND FORM's CARD OF 'laws.FnArcPoints'. -/
def fnArcPointsUptoCard : Claim7 := { stood := { row := fnArcPointsUptoRow, standIns := [], harness := (true, "a844ddeb43032e983062115eaba28080f68a9b82f9987eb9e26a7c60e8195d4c"), looks := false }, kinds := [], alts := [], laidByText := true, laidKinds := [.data], laidTests := true, laidLooks := .later }
def FnArcPointsUptoCardSaid : Prop := Claim7.holds Tryd.pinned (.plain (OpenSpec.upto fnArcPointsSpec)) fnArcPointsUptoCard

/-- THE SECOND FORM's CARD OF 'laws.FnExactArcPoints'. -/
def fnExactArcPointsUptoCard : Claim7 := { stood := { row := fnExactArcPointsUptoRow, standIns := [], harness := (true, "a844ddeb43032e983062115eaba28080f68a9b82f9987eb9e26a7c60e8195d4c"), looks := false }, kinds := [], alts := [], laidByText := true, laidKinds := [.data], laidTests := true, laidLooks := .later }
def FnExactArcPointsUptoCardSaid : Prop := Claim7.holds Tryd.pinned (.plain (OpenSpec.upto fnExactArcPointsSpec)) fnExactArcPointsUptoCard
end Rows
end Go.Proofs.YtlajpeoadgfobaaDoor
