/-
  DERIVED. GIVEN WITH THE SEED: THE CARDS: each row of YtpiabkihbbfmoaaDoorRows.lean that lists a variable, with what it lists TIED to the program's text (the seventh form; the later family's looks); each row that meets fmt, with fmt's text TOLD by the authors' own Lean function (tested against real Go, not proved from fmt's source: count such statements apart). THE CARD IS WHAT COUNTS. Prove the row's statement (the work); the ties are given (YtpiabkihbbfmoaaDoorTie.lean); close each card by the builder's one call (the guide's Derived/Test/ToyasCard.lean, 'card_holds'). Laid BY PROGRAM, IN A SANDBOX (cutbox-door.mjs). By AI agents, Wed Nov 11 2026. No macro, syntax, notation, axiom, sorry.
-/
import Derived.Test.YtpiabkihbbfmoaaDoorRows
import GoSem.ClaimSeven
namespace Go.Proofs.YtpiabkihbbfmoaaDoor
namespace Rows

/-- THE TIED CARD OF 'laws.FnSine'. -/
def fnSineCard : Claim7 := { stood := { row := fnSineRow, standIns := [], harness := (true, "8d0e1191f3fb0d0a082a88485aa9222e46cf1adaffe4d5c886581e3d6ecafb47"), looks := false }, kinds := [], alts := [], laidByText := true, laidKinds := [.data], laidTests := true, laidLooks := .later }
def FnSineCardSaid : Prop := Claim7.holds Tryd.pinned (.plain (OpenSpec.ofChange fnSineSpec)) fnSineCard

/-- THE TIED CARD OF 'laws.FnCosine'. -/
def fnCosineCard : Claim7 := { stood := { row := fnCosineRow, standIns := [], harness := (true, "8d0e1191f3fb0d0a082a88485aa9222e46cf1adaffe4d5c886581e3d6ecafb47"), looks := false }, kinds := [], alts := [], laidByText := true, laidKinds := [.data], laidTests := true, laidLooks := .later }
def FnCosineCardSaid : Prop := Claim7.holds Tryd.pinned (.plain (OpenSpec.ofChange fnCosineSpec)) fnCosineCard

/-- THE TIED CARD OF 'laws.FnExactSine'. -/
def fnExactSineCard : Claim7 := { stood := { row := fnExactSineRow, standIns := [], harness := (true, "8d0e1191f3fb0d0a082a88485aa9222e46cf1adaffe4d5c886581e3d6ecafb47"), looks := false }, kinds := [], alts := [], laidByText := true, laidKinds := [.data], laidTests := true, laidLooks := .later }
def FnExactSineCardSaid : Prop := Claim7.holds Tryd.pinned (.plain (OpenSpec.ofChange fnExactSineSpec)) fnExactSineCard

/-- THE TIED CARD OF 'laws.FnExactCosine'. -/
def fnExactCosineCard : Claim7 := { stood := { row := fnExactCosineRow, standIns := [], harness := (true, "8d0e1191f3fb0d0a082a88485aa9222e46cf1adaffe4d5c886581e3d6ecafb47"), looks := false }, kinds := [], alts := [], laidByText := true, laidKinds := [.data], laidTests := true, laidLooks := .later }
def FnExactCosineCardSaid : Prop := Claim7.holds Tryd.pinned (.plain (OpenSpec.ofChange fnExactCosineSpec)) fnExactCosineCard

/-- THE SECOND FORM's CARD OF 'laws.FnSine'. -/
def fnSineUptoCard : Claim7 := { stood := { row := fnSineUptoRow, standIns := [], harness := (true, "8d0e1191f3fb0d0a082a88485aa9222e46cf1adaffe4d5c886581e3d6ecafb47"), looks := false }, kinds := [], alts := [], laidByText := true, laidKinds := [.data], laidTests := true, laidLooks := .later }
def FnSineUptoCardSaid : Prop := Claim7.holds Tryd.pinned (.plain (OpenSpec.upto fnSineSpec)) fnSineUptoCard

/-- THE SECOND FORM's CARD OF 'laws.FnCosine'. -/
def fnCosineUptoCard : Claim7 := { stood := { row := fnCosineUptoRow, standIns := [], harness := (true, "8d0e1191f3fb0d0a082a88485aa9222e46cf1adaffe4d5c886581e3d6ecafb47"), looks := false }, kinds := [], alts := [], laidByText := true, laidKinds := [.data], laidTests := true, laidLooks := .later }
def FnCosineUptoCardSaid : Prop := Claim7.holds Tryd.pinned (.plain (OpenSpec.upto fnCosineSpec)) fnCosineUptoCard

/-- THE SECOND FORM's CARD OF 'laws.FnExactSine'. -/
def fnExactSineUptoCard : Claim7 := { stood := { row := fnExactSineUptoRow, standIns := [], harness := (true, "8d0e1191f3fb0d0a082a88485aa9222e46cf1adaffe4d5c886581e3d6ecafb47"), looks := false }, kinds := [], alts := [], laidByText := true, laidKinds := [.data], laidTests := true, laidLooks := .later }
def FnExactSineUptoCardSaid : Prop := Claim7.holds Tryd.pinned (.plain (OpenSpec.upto fnExactSineSpec)) fnExactSineUptoCard

/-- THE SECOND FORM's CARD OF 'laws.FnExactCosine'. -/
def fnExactCosineUptoCard : Claim7 := { stood := { row := fnExactCosineUptoRow, standIns := [], harness := (true, "8d0e1191f3fb0d0a082a88485aa9222e46cf1adaffe4d5c886581e3d6ecafb47"), looks := false }, kinds := [], alts := [], laidByText := true, laidKinds := [.data], laidTests := true, laidLooks := .later }
def FnExactCosineUptoCardSaid : Prop := Claim7.holds Tryd.pinned (.plain (OpenSpec.upto fnExactCosineSpec)) fnExactCosineUptoCard
end Rows
end Go.Proofs.YtpiabkihbbfmoaaDoor
