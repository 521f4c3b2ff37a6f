/-
  DERIVED. GIVEN WITH THE SEED: THE CARDS: each row of YtcifokihellcdaaDoorRows.lean that lists a variable, with what it lists TIED to the program's text (the seventh form; the later family's looks); each row that meets fmt, with fmt's text TOLD by the authors' own Lean function (tested against real Go, not proved from fmt's source: count such statements apart). THE CARD IS WHAT COUNTS. Prove the row's statement (the work); the ties are given (YtcifokihellcdaaDoorTie.lean); close each card by the builder's one call (the guide's Derived/Test/ToyasCard.lean, 'card_holds'). Laid BY PROGRAM, IN A SANDBOX (cutbox-door.mjs). By AI agents, Wed Nov 11 2026. No macro, syntax, notation, axiom, sorry.
-/
import Derived.Test.YtcifokihellcdaaDoorRows
import GoSem.ClaimSeven
namespace Go.Proofs.YtcifokihellcdaaDoor
namespace Rows

/-- THE TIED CARD OF 'laws.FnArmClear'. -/
def fnArmClearCard : Claim7 := { stood := { row := fnArmClearRow, standIns := [], harness := (true, "2d55c24b6ec5f684f9021da740b52b18fafc8c1d3f0b114ec663be4b0e694453"), looks := false }, kinds := [], alts := [], laidByText := true, laidKinds := [.data], laidTests := true, laidLooks := .later }
def FnArmClearCardSaid : Prop := Claim7.holds Tryd.pinned (.plain (OpenSpec.ofChange fnArmClearSpec)) fnArmClearCard

/-- THE TIED CARD OF 'laws.FnSelfClear'. -/
def fnSelfClearCard : Claim7 := { stood := { row := fnSelfClearRow, standIns := [], harness := (true, "2d55c24b6ec5f684f9021da740b52b18fafc8c1d3f0b114ec663be4b0e694453"), looks := false }, kinds := [], alts := [], laidByText := true, laidKinds := [.data], laidTests := true, laidLooks := .later }
def FnSelfClearCardSaid : Prop := Claim7.holds Tryd.pinned (.plain (OpenSpec.ofChange fnSelfClearSpec)) fnSelfClearCard

/-- THE TIED CARD OF 'laws.FnFirstContact'. -/
def fnFirstContactCard : Claim7 := { stood := { row := fnFirstContactRow, standIns := [], harness := (true, "2d55c24b6ec5f684f9021da740b52b18fafc8c1d3f0b114ec663be4b0e694453"), looks := false }, kinds := [], alts := [], laidByText := true, laidKinds := [.data], laidTests := true, laidLooks := .later }
def FnFirstContactCardSaid : Prop := Claim7.holds Tryd.pinned (.plain (OpenSpec.ofChange fnFirstContactSpec)) fnFirstContactCard

/-- THE TIED CARD OF 'laws.FnExactArmClear'. -/
def fnExactArmClearCard : Claim7 := { stood := { row := fnExactArmClearRow, standIns := [], harness := (true, "2d55c24b6ec5f684f9021da740b52b18fafc8c1d3f0b114ec663be4b0e694453"), looks := false }, kinds := [], alts := [], laidByText := true, laidKinds := [.data], laidTests := true, laidLooks := .later }
def FnExactArmClearCardSaid : Prop := Claim7.holds Tryd.pinned (.plain (OpenSpec.ofChange fnExactArmClearSpec)) fnExactArmClearCard

/-- THE TIED CARD OF 'laws.FnExactSelfClear'. -/
def fnExactSelfClearCard : Claim7 := { stood := { row := fnExactSelfClearRow, standIns := [], harness := (true, "2d55c24b6ec5f684f9021da740b52b18fafc8c1d3f0b114ec663be4b0e694453"), looks := false }, kinds := [], alts := [], laidByText := true, laidKinds := [.data], laidTests := true, laidLooks := .later }
def FnExactSelfClearCardSaid : Prop := Claim7.holds Tryd.pinned (.plain (OpenSpec.ofChange fnExactSelfClearSpec)) fnExactSelfClearCard

/-- THE TIED CARD OF 'laws.FnExactFirstContact'. -/
def fnExactFirstContactCard : Claim7 := { stood := { row := fnExactFirstContactRow, standIns := [], harness := (true, "2d55c24b6ec5f684f9021da740b52b18fafc8c1d3f0b114ec663be4b0e694453"), looks := false }, kinds := [], alts := [], laidByText := true, laidKinds := [.data], laidTests := true, laidLooks := .later }
def FnExactFirstContactCardSaid : Prop := Claim7.holds Tryd.pinned (.plain (OpenSpec.ofChange fnExactFirstContactSpec)) fnExactFirstContactCard

/-- THE SECOND FORM's CARD OF 'laws.FnArmClear'. -/
def fnArmClearUptoCard : Claim7 := { stood := { row := fnArmClearUptoRow, standIns := [], harness := (true, "2d55c24b6ec5f684f9021da740b52b18fafc8c1d3f0b114ec663be4b0e694453"), looks := false }, kinds := [], alts := [], laidByText := true, laidKinds := [.data], laidTests := true, laidLooks := .later }
def FnArmClearUptoCardSaid : Prop := Claim7.holds Tryd.pinned (.plain (OpenSpec.upto fnArmClearSpec)) fnArmClearUptoCard

/-- THE SECOND FORM's CARD OF 'laws.FnSelfClear'. -/
def fnSelfClearUptoCard : Claim7 := { stood := { row := fnSelfClearUptoRow, standIns := [], harness := (true, "2d55c24b6ec5f684f9021da740b52b18fafc8c1d3f0b114ec663be4b0e694453"), looks := false }, kinds := [], alts := [], laidByText := true, laidKinds := [.data], laidTests := true, laidLooks := .later }
def FnSelfClearUptoCardSaid : Prop := Claim7.holds Tryd.pinned (.plain (OpenSpec.upto fnSelfClearSpec)) fnSelfClearUptoCard

/-- THE SECOND FORM's CARD OF 'laws.FnFirstContact'. -/
def fnFirstContactUptoCard : Claim7 := { stood := { row := fnFirstContactUptoRow, standIns := [], harness := (true, "2d55c24b6ec5f684f9021da740b52b18fafc8c1d3f0b114ec663be4b0e694453"), looks := false }, kinds := [], alts := [], laidByText := true, laidKinds := [.data], laidTests := true, laidLooks := .later }
def FnFirstContactUptoCardSaid : Prop := Claim7.holds Tryd.pinned (.plain (OpenSpec.upto fnFirstContactSpec)) fnFirstContactUptoCard

/-- THE SECOND FORM's CARD OF 'laws.FnExactArmClear'. -/
def fnExactArmClearUptoCard : Claim7 := { stood := { row := fnExactArmClearUptoRow, standIns := [], harness := (true, "2d55c24b6ec5f684f9021da740b52b18fafc8c1d3f0b114ec663be4b0e694453"), looks := false }, kinds := [], alts := [], laidByText := true, laidKinds := [.data], laidTests := true, laidLooks := .later }
def FnExactArmClearUptoCardSaid : Prop := Claim7.holds Tryd.pinned (.plain (OpenSpec.upto fnExactArmClearSpec)) fnExactArmClearUptoCard

/-- THE SECOND FORM's CARD OF 'laws.FnExactSelfClear'. -/
def fnExactSelfClearUptoCard : Claim7 := { stood := { row := fnExactSelfClearUptoRow, standIns := [], harness := (true, "2d55c24b6ec5f684f9021da740b52b18fafc8c1d3f0b114ec663be4b0e694453"), looks := false }, kinds := [], alts := [], laidByText := true, laidKinds := [.data], laidTests := true, laidLooks := .later }
def FnExactSelfClearUptoCardSaid : Prop := Claim7.holds Tryd.pinned (.plain (OpenSpec.upto fnExactSelfClearSpec)) fnExactSelfClearUptoCard

/-- THE SECOND FORM's CARD OF 'laws.FnExactFirstContact'. -/
def fnExactFirstContactUptoCard : Claim7 := { stood := { row := fnExactFirstContactUptoRow, standIns := [], harness := (true, "2d55c24b6ec5f684f9021da740b52b18fafc8c1d3f0b114ec663be4b0e694453"), looks := false }, kinds := [], alts := [], laidByText := true, laidKinds := [.data], laidTests := true, laidLooks := .later }
def FnExactFirstContactUptoCardSaid : Prop := Claim7.holds Tryd.pinned (.plain (OpenSpec.upto fnExactFirstContactSpec)) fnExactFirstContactUptoCard
end Rows
end Go.Proofs.YtcifokihellcdaaDoor
