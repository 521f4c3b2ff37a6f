/-
  DERIVED. GIVEN WITH THE SEED: THE CARDS: each row of YtooipdmckbehnaaDoorRows.lean that lists a variable, with what it lists TIED to the program's text (the seventh form; the later family's looks); each row that meets fmt, with fmt's text TOLD by the authors' own Lean function (tested against real Go, not proved from fmt's source: count such statements apart). THE CARD IS WHAT COUNTS. Prove the row's statement (the work); the ties are given (YtooipdmckbehnaaDoorTie.lean); close each card by the builder's one call (the guide's Derived/Test/ToyasCard.lean, 'card_holds'). Laid BY PROGRAM, IN A SANDBOX (cutbox-door.mjs). By AI agents, Wed Nov 11 2026. No macro, syntax, notation, axiom, sorry.
-/
import Derived.Test.YtooipdmckbehnaaDoorRows
import GoSem.ClaimSeven
namespace Go.Proofs.YtooipdmckbehnaaDoor
namespace Rows

/-- THE TIED CARD OF 'laws.FnSolveArm'. -/
def fnSolveArmCard : Claim7 := { stood := { row := fnSolveArmRow, standIns := [], harness := (true, "93b76d6133fc04994f8f76ed61aacb1d6341427998e2cd2f988cbc7c99e0f82b"), looks := false }, kinds := [], alts := [], laidByText := true, laidKinds := [.data], laidTests := true, laidLooks := .later }
def FnSolveArmCardSaid : Prop := Claim7.holds Tryd.pinned (.plain (OpenSpec.ofChange fnSolveArmSpec)) fnSolveArmCard

/-- THE TIED CARD OF 'laws.FnFollowPoint'. -/
def fnFollowPointCard : Claim7 := { stood := { row := fnFollowPointRow, standIns := [], harness := (true, "93b76d6133fc04994f8f76ed61aacb1d6341427998e2cd2f988cbc7c99e0f82b"), looks := false }, kinds := [], alts := [], laidByText := true, laidKinds := [.data], laidTests := true, laidLooks := .later }
def FnFollowPointCardSaid : Prop := Claim7.holds Tryd.pinned (.plain (OpenSpec.ofChange fnFollowPointSpec)) fnFollowPointCard

/-- THE SECOND FORM's CARD OF 'laws.FnSolveArm'. -/
def fnSolveArmUptoCard : Claim7 := { stood := { row := fnSolveArmUptoRow, standIns := [], harness := (true, "93b76d6133fc04994f8f76ed61aacb1d6341427998e2cd2f988cbc7c99e0f82b"), looks := false }, kinds := [], alts := [], laidByText := true, laidKinds := [.data], laidTests := true, laidLooks := .later }
def FnSolveArmUptoCardSaid : Prop := Claim7.holds Tryd.pinned (.plain (OpenSpec.upto fnSolveArmSpec)) fnSolveArmUptoCard

/-- THE SECOND FORM's CARD OF 'laws.FnFollowPoint'. -/
def fnFollowPointUptoCard : Claim7 := { stood := { row := fnFollowPointUptoRow, standIns := [], harness := (true, "93b76d6133fc04994f8f76ed61aacb1d6341427998e2cd2f988cbc7c99e0f82b"), looks := false }, kinds := [], alts := [], laidByText := true, laidKinds := [.data], laidTests := true, laidLooks := .later }
def FnFollowPointUptoCardSaid : Prop := Claim7.holds Tryd.pinned (.plain (OpenSpec.upto fnFollowPointSpec)) fnFollowPointUptoCard
end Rows
end Go.Proofs.YtooipdmckbehnaaDoor
