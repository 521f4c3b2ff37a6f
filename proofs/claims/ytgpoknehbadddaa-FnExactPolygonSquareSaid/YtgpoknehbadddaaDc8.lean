/- The document's ConvexMeet and DoubleArea. -/
import Derived.Test.YtgpoknehbadddaaZbDh
namespace Go.Proofs.Ytgpoknehbadddaa
set_option maxRecDepth 100000
open Go.RowKit
attribute [local go_sem ↓] Go.wp_at_zero Go.wp_at_succ
noncomputable instance decCM (ps qs : List P2) : Decidable (CMeet ps qs) := Classical.propDecidable _
/-- What the document's ConvexMeet asks. -/
def cmV (ps qs : List P2) : Prop := okCvx ps ∧ okCvx qs ∧ CMeet ps qs
noncomputable instance (ps qs : List P2) : Decidable (cmV ps qs) := Classical.propDecidable _
/-- Twice the area; 0 for other lists. -/
noncomputable def daV (ps : List P2) : Int := if okCvx ps then loopSum ps (0, 0) else 0
theorem daV_yes {ps : List P2} (h : okCvx ps) : daV ps = loopSum ps (0, 0) := if_pos h
theorem daV_no {ps : List P2} (h : ¬ okCvx ps) : daV ps = 0 := if_neg h
theorem fan_bd {ps : List P2} (hk : okPts ps) (h0 : 0 < ps.length) : ∀ m, m + 1 ≤ ps.length → -(800000000 * (m : Int)) ≤ fan ps (cor ps 0) m ∧ fan ps (cor ps 0) m ≤ 800000000 * (m : Int) := by
  intro m
  induction m with
  | zero => intro _; exact ⟨by simp [fan], by simp [fan]⟩
  | succ m ih =>
    intro h
    have i := ih (by omega)
    have c := cr_bd (hk.cor h0) (hk.cor (i := m) (by omega)) (hk.cor (i := m + 1) (by omega))
    unfold fan
    omega
theorem fan_full {ps : List P2} (_ : 2 ≤ ps.length) : fan ps (cor ps 0) (ps.length - 1) = loopSum ps (0, 0) := by
  rw [loopSum_move ps (0, 0) (cor ps 0)]
  unfold loopSum
  rw [cr_same3]; omega
theorem fan_one (ps : List P2) : fan ps (cor ps 0) 1 = 0 := by unfold fan; rw [cr_same]; simp [fan]
end Go.Proofs.Ytgpoknehbadddaa
