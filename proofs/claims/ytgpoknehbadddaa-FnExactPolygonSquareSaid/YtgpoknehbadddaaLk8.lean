/- The functions on polygons, of the program and of the document, in the same words. -/
import Derived.Test.YtgpoknehbadddaaEx8
import Derived.Test.YtgpoknehbadddaaDx8
import Derived.Test.YtgpoknehbadddaaDc8
import Derived.Test.YtgpoknehbadddaaOq7
namespace Go.Proofs.Ytgpoknehbadddaa
set_option maxRecDepth 100000
open Go.RowKit
theorem same_dec {P Q : Prop} (i : Decidable P) (j : Decidable Q) (h : P ↔ Q) : @decide P i = @decide Q j := by
  by_cases p : P
  · rw [decide_eq_true p, decide_eq_true (h.1 p)]
  · rw [decide_eq_false p, decide_eq_false (fun q => p (h.2 q))]
def insV (ps : List P2) (p : P2) : Prop := okCvx ps ∧ okQ p ∧ Ins ps p
noncomputable instance (ps : List P2) (p : P2) : Decidable (insV ps p) := Classical.propDecidable _
def segV (a b c d : P2) : Prop := okQ a ∧ okQ b ∧ okQ c ∧ okQ d ∧ Meet a b c d
noncomputable instance (a b c d : P2) : Decidable (segV a b c d) := Classical.propDecidable _
def shV (ps : List P2) (p q : P2) : Prop := okCvx ps ∧ okQ p ∧ okQ q ∧ Hit ps p q
noncomputable instance (ps : List P2) (p q : P2) : Decidable (shV ps p q) := Classical.propDecidable _
theorem iInside (a : Option Addr) (len cap : Nat) (ps : List P2) (p : P2) (w : World) (hp : PL w a len ps) (hl : len ≤ 9223372036854775807) :
    Calls Try.prog 18 #[.slice a len cap, pt p.1 p.2] w fun e w' => e = .returned (.bool (decide (insV ps p))) ∧ Below w.heap.size w w' :=
  (implInsideConvex a len cap ps p w hp hl).mono fun _ _ ⟨h, b⟩ => ⟨h.trans (ret_bool (same_dec _ _ Iff.rfl)), b⟩
end Go.Proofs.Ytgpoknehbadddaa
