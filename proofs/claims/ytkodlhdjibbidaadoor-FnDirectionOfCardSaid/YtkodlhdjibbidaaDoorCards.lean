/-
  DERIVED. GIVEN WITH THE SEED: THE CARDS: each row of YtkodlhdjibbidaaDoorRows.lean that lists a variable, with what it lists TIED to the program's text (the seventh form; the later family's looks); each row that meets fmt, with fmt's text TOLD by the authors' own Lean function (tested against real Go, not proved from fmt's source: count such statements apart). THE CARD IS WHAT COUNTS. Prove the row's statement (the work); the ties are given (YtkodlhdjibbidaaDoorTie.lean); close each card by the builder's one call (the guide's Derived/Test/ToyasCard.lean, 'card_holds'). Laid BY PROGRAM, IN A SANDBOX (cutbox-door.mjs). By AI agents, Wed Nov 11 2026. No macro, syntax, notation, axiom, sorry.
-/
import Derived.Test.YtkodlhdjibbidaaDoorRows
import GoSem.ClaimSeven
namespace Go.Proofs.YtkodlhdjibbidaaDoor
namespace Rows

/-- THE TIED CARD OF 'laws.FnRotatePoint'. -/
def fnRotatePointCard : Claim7 := { stood := { row := fnRotatePointRow, standIns := [], harness := (true, "08918c2e4771b528dabdfbc65a4548ca59966568e274ad015fe7953c8644f860"), looks := false }, kinds := [], alts := [], laidByText := true, laidKinds := [.data], laidTests := true, laidLooks := .later }
def FnRotatePointCardSaid : Prop := Claim7.holds Tryd.pinned (.plain (OpenSpec.ofChange fnRotatePointSpec)) fnRotatePointCard

/-- THE TIED CARD OF 'laws.FnDirectionOf'. -/
def fnDirectionOfCard : Claim7 := { stood := { row := fnDirectionOfRow, standIns := [], harness := (true, "08918c2e4771b528dabdfbc65a4548ca59966568e274ad015fe7953c8644f860"), looks := false }, kinds := [], alts := [], laidByText := true, laidKinds := [.data], laidTests := true, laidLooks := .later }
def FnDirectionOfCardSaid : Prop := Claim7.holds Tryd.pinned (.plain (OpenSpec.ofChange fnDirectionOfSpec)) fnDirectionOfCard

/-- THE TIED CARD OF 'laws.FnExactRotatePoint'. -/
def fnExactRotatePointCard : Claim7 := { stood := { row := fnExactRotatePointRow, standIns := [], harness := (true, "08918c2e4771b528dabdfbc65a4548ca59966568e274ad015fe7953c8644f860"), looks := false }, kinds := [], alts := [], laidByText := true, laidKinds := [.data], laidTests := true, laidLooks := .later }
def FnExactRotatePointCardSaid : Prop := Claim7.holds Tryd.pinned (.plain (OpenSpec.ofChange fnExactRotatePointSpec)) fnExactRotatePointCard

/-- THE TIED CARD OF 'laws.FnExactDirectionOf'. -/
def fnExactDirectionOfCard : Claim7 := { stood := { row := fnExactDirectionOfRow, standIns := [], harness := (true, "08918c2e4771b528dabdfbc65a4548ca59966568e274ad015fe7953c8644f860"), looks := false }, kinds := [], alts := [], laidByText := true, laidKinds := [.data], laidTests := true, laidLooks := .later }
def FnExactDirectionOfCardSaid : Prop := Claim7.holds Tryd.pinned (.plain (OpenSpec.ofChange fnExactDirectionOfSpec)) fnExactDirectionOfCard

/-- THE SECOND FORM's CARD OF 'laws.FnRotatePoint'. -/
def fnRotatePointUptoCard : Claim7 := { stood := { row := fnRotatePointUptoRow, standIns := [], harness := (true, "08918c2e4771b528dabdfbc65a4548ca59966568e274ad015fe7953c8644f860"), looks := false }, kinds := [], alts := [], laidByText := true, laidKinds := [.data], laidTests := true, laidLooks := .later }
def FnRotatePointUptoCardSaid : Prop := Claim7.holds Tryd.pinned (.plain (OpenSpec.upto fnRotatePointSpec)) fnRotatePointUptoCard

/-- THE SECOND FORM's CARD OF 'laws.FnDirectionOf'. -/
def fnDirectionOfUptoCard : Claim7 := { stood := { row := fnDirectionOfUptoRow, standIns := [], harness := (true, "08918c2e4771b528dabdfbc65a4548ca59966568e274ad015fe7953c8644f860"), looks := false }, kinds := [], alts := [], laidByText := true, laidKinds := [.data], laidTests := true, laidLooks := .later }
def FnDirectionOfUptoCardSaid : Prop := Claim7.holds Tryd.pinned (.plain (OpenSpec.upto fnDirectionOfSpec)) fnDirectionOfUptoCard

/-- THE SECOND FORM's CARD OF 'laws.FnExactRotatePoint'. -/
def fnExactRotatePointUptoCard : Claim7 := { stood := { row := fnExactRotatePointUptoRow, standIns := [], harness := (true, "08918c2e4771b528dabdfbc65a4548ca59966568e274ad015fe7953c8644f860"), looks := false }, kinds := [], alts := [], laidByText := true, laidKinds := [.data], laidTests := true, laidLooks := .later }
def FnExactRotatePointUptoCardSaid : Prop := Claim7.holds Tryd.pinned (.plain (OpenSpec.upto fnExactRotatePointSpec)) fnExactRotatePointUptoCard

/-- THE SECOND FORM's CARD OF 'laws.FnExactDirectionOf'. -/
def fnExactDirectionOfUptoCard : Claim7 := { stood := { row := fnExactDirectionOfUptoRow, standIns := [], harness := (true, "08918c2e4771b528dabdfbc65a4548ca59966568e274ad015fe7953c8644f860"), looks := false }, kinds := [], alts := [], laidByText := true, laidKinds := [.data], laidTests := true, laidLooks := .later }
def FnExactDirectionOfUptoCardSaid : Prop := Claim7.holds Tryd.pinned (.plain (OpenSpec.upto fnExactDirectionOfSpec)) fnExactDirectionOfUptoCard
end Rows
end Go.Proofs.YtkodlhdjibbidaaDoor
