/-
  DERIVED. GIVEN WITH THE SEED: THE CARDS: each row of YtcfiojfegiemoaaDoorRows.lean that lists a variable, with what it lists TIED to the program's text (the seventh form; the later family's looks); each row that meets fmt, with fmt's text TOLD by the authors' own Lean function (tested against real Go, not proved from fmt's source: count such statements apart). THE CARD IS WHAT COUNTS. Prove the row's statement (the work); the ties are given (YtcfiojfegiemoaaDoorTie.lean); close each card by the builder's one call (the guide's Derived/Test/ToyasCard.lean, 'card_holds'). Laid BY PROGRAM, IN A SANDBOX (cutbox-door.mjs). By AI agents, Wed Nov 11 2026. No macro, syntax, notation, axiom, sorry.
-/
import Derived.Test.YtcfiojfegiemoaaDoorRows
import GoSem.ClaimSeven
namespace Go.Proofs.YtcfiojfegiemoaaDoor
namespace Rows

/-- THE TIED CARD OF 'laws.FnArmPoints'. -/
def fnArmPointsCard : Claim7 := { stood := { row := fnArmPointsRow, standIns := [], harness := (true, "03dba9334a45bc7b085d0f9a80ed0278662ef3abbb823ff8eebd6b65e37a3fa8"), looks := false }, kinds := [], alts := [], laidByText := true, laidKinds := [.data], laidTests := true, laidLooks := .later }
def FnArmPointsCardSaid : Prop := Claim7.holds Tryd.pinned (.plain (OpenSpec.ofChange fnArmPointsSpec)) fnArmPointsCard

/-- THE TIED CARD OF 'laws.FnTipOf'. -/
def fnTipOfCard : Claim7 := { stood := { row := fnTipOfRow, standIns := [], harness := (true, "03dba9334a45bc7b085d0f9a80ed0278662ef3abbb823ff8eebd6b65e37a3fa8"), looks := false }, kinds := [], alts := [], laidByText := true, laidKinds := [.data], laidTests := true, laidLooks := .later }
def FnTipOfCardSaid : Prop := Claim7.holds Tryd.pinned (.plain (OpenSpec.ofChange fnTipOfSpec)) fnTipOfCard

/-- THE TIED CARD OF 'laws.FnExactArmPoints'. -/
def fnExactArmPointsCard : Claim7 := { stood := { row := fnExactArmPointsRow, standIns := [], harness := (true, "03dba9334a45bc7b085d0f9a80ed0278662ef3abbb823ff8eebd6b65e37a3fa8"), looks := false }, kinds := [], alts := [], laidByText := true, laidKinds := [.data], laidTests := true, laidLooks := .later }
def FnExactArmPointsCardSaid : Prop := Claim7.holds Tryd.pinned (.plain (OpenSpec.ofChange fnExactArmPointsSpec)) fnExactArmPointsCard

/-- THE TIED CARD OF 'laws.FnExactTipOf'. -/
def fnExactTipOfCard : Claim7 := { stood := { row := fnExactTipOfRow, standIns := [], harness := (true, "03dba9334a45bc7b085d0f9a80ed0278662ef3abbb823ff8eebd6b65e37a3fa8"), looks := false }, kinds := [], alts := [], laidByText := true, laidKinds := [.data], laidTests := true, laidLooks := .later }
def FnExactTipOfCardSaid : Prop := Claim7.holds Tryd.pinned (.plain (OpenSpec.ofChange fnExactTipOfSpec)) fnExactTipOfCard

/-- THE SECOND FORM's CARD OF 'laws.FnArmPoints'. -/
def fnArmPointsUptoCard : Claim7 := { stood := { row := fnArmPointsUptoRow, standIns := [], harness := (true, "03dba9334a45bc7b085d0f9a80ed0278662ef3abbb823ff8eebd6b65e37a3fa8"), looks := false }, kinds := [], alts := [], laidByText := true, laidKinds := [.data], laidTests := true, laidLooks := .later }
def FnArmPointsUptoCardSaid : Prop := Claim7.holds Tryd.pinned (.plain (OpenSpec.upto fnArmPointsSpec)) fnArmPointsUptoCard

/-- THE SECOND FORM's CARD OF 'laws.FnTipOf'. -/
def fnTipOfUptoCard : Claim7 := { stood := { row := fnTipOfUptoRow, standIns := [], harness := (true, "03dba9334a45bc7b085d0f9a80ed0278662ef3abbb823ff8eebd6b65e37a3fa8"), looks := false }, kinds := [], alts := [], laidByText := true, laidKinds := [.data], laidTests := true, laidLooks := .later }
def FnTipOfUptoCardSaid : Prop := Claim7.holds Tryd.pinned (.plain (OpenSpec.upto fnTipOfSpec)) fnTipOfUptoCard

/-- THE SECOND FORM's CARD OF 'laws.FnExactArmPoints'. -/
def fnExactArmPointsUptoCard : Claim7 := { stood := { row := fnExactArmPointsUptoRow, standIns := [], harness := (true, "03dba9334a45bc7b085d0f9a80ed0278662ef3abbb823ff8eebd6b65e37a3fa8"), looks := false }, kinds := [], alts := [], laidByText := true, laidKinds := [.data], laidTests := true, laidLooks := .later }
def FnExactArmPointsUptoCardSaid : Prop := Claim7.holds Tryd.pinned (.plain (OpenSpec.upto fnExactArmPointsSpec)) fnExactArmPointsUptoCard

/-- THE SECOND FORM's CARD OF 'laws.FnExactTipOf'. -/
def fnExactTipOfUptoCard : Claim7 := { stood := { row := fnExactTipOfUptoRow, standIns := [], harness := (true, "03dba9334a45bc7b085d0f9a80ed0278662ef3abbb823ff8eebd6b65e37a3fa8"), looks := false }, kinds := [], alts := [], laidByText := true, laidKinds := [.data], laidTests := true, laidLooks := .later }
def FnExactTipOfUptoCardSaid : Prop := Claim7.holds Tryd.pinned (.plain (OpenSpec.upto fnExactTipOfSpec)) fnExactTipOfUptoCard
end Rows
end Go.Proofs.YtcfiojfegiemoaaDoor
