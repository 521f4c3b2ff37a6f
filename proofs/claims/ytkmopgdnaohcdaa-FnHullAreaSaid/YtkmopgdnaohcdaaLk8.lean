/- The functions on polygons, of the program and of the document, in the same words. -/
import Derived.Test.YtkmopgdnaohcdaaEx8
import Derived.Test.YtkmopgdnaohcdaaDx8
import Derived.Test.YtkmopgdnaohcdaaDc8
import Derived.Test.YtkmopgdnaohcdaaOq7
namespace Go.Proofs.Ytkmopgdnaohcdaa
set_option maxRecDepth 100000
open Go.RowKit
theorem same_dec {P Q : Prop} (i : Decidable P) (j : Decidable Q) (h : P ↔ Q) : @decide P i = @decide Q j := by
  by_cases p : P
  · rw [decide_eq_true p, decide_eq_true (h.1 p)]
  · rw [decide_eq_false p, decide_eq_false (fun q => p (h.2 q))]
def insV (ps : List P2) (p : P2) : Prop := okCvx ps ∧ okQ p ∧ Ins ps p
noncomputable instance (ps : List P2) (p : P2) : Decidable (insV ps p) := Classical.propDecidable _
def segV (a b c d : P2) : Prop := okQ a ∧ okQ b ∧ okQ c ∧ okQ d ∧ Meet a b c d
noncomputable instance (a b c d : P2) : Decidable (segV a b c d) := Classical.propDecidable _
def shV (ps : List P2) (p q : P2) : Prop := okCvx ps ∧ okQ p ∧ okQ q ∧ Hit ps p q
noncomputable instance (ps : List P2) (p q : P2) : Decidable (shV ps p q) := Classical.propDecidable _
theorem iInside (a : Option Addr) (len cap : Nat) (ps : List P2) (p : P2) (w : World) (hp : PL w a len ps) (hl : len ≤ 9223372036854775807) :
    Calls Try.prog 25 #[.slice a len cap, pt p.1 p.2] w fun e w' => e = .returned (.bool (decide (insV ps p))) ∧ Below w.heap.size w w' :=
  (implInsideConvex a len cap ps p w hp hl).mono fun _ _ ⟨h, b⟩ => ⟨h.trans (ret_bool (same_dec _ _ Iff.rfl)), b⟩
theorem sInside (a : Option Addr) (len cap : Nat) (ps : List P2) (p : P2) (w : World) (hp : PL w a len ps) (hl : len ≤ 9223372036854775807) :
    Calls Try.prog 26 #[.slice a len cap, pt p.1 p.2] w fun e w' => e = .returned (.bool (decide (insV ps p))) ∧ Below w.heap.size w w' :=
  (specInsideConvex a len cap ps p w hp hl).mono fun _ _ ⟨h, b⟩ => ⟨h.trans (ret_bool (same_dec _ _ Iff.rfl)), b⟩
theorem iSegs (a b c d : P2) (w : World) :
    Calls Try.prog 31 #[pt a.1 a.2, pt b.1 b.2, pt c.1 c.2, pt d.1 d.2] w fun e w' => e = .returned (.bool (decide (segV a b c d))) ∧ Below w.heap.size w w' :=
  (implSegmentsMeet a b c d w).mono fun _ _ ⟨h, b⟩ => ⟨h.trans (ret_bool (same_dec _ _ Iff.rfl)), b⟩
theorem sSegs (a b c d : P2) (w : World) :
    Calls Try.prog 32 #[pt a.1 a.2, pt b.1 b.2, pt c.1 c.2, pt d.1 d.2] w fun e w' => e = .returned (.bool (decide (segV a b c d))) ∧ Below w.heap.size w w' :=
  (specSegmentsMeet a b c d w).mono fun _ _ ⟨h, b⟩ => ⟨h.trans (ret_bool (same_dec _ _ Iff.rfl)), b⟩
theorem iHits (a : Option Addr) (len cap : Nat) (ps : List P2) (p q : P2) (w : World) (hp : PL w a len ps) (hl : len ≤ 9223372036854775807) :
    Calls Try.prog 35 #[.slice a len cap, pt p.1 p.2, pt q.1 q.2] w fun e w' => e = .returned (.bool (decide (shV ps p q))) ∧ Below w.heap.size w w' :=
  (implSegmentHits a len cap ps p q w hp hl).mono fun _ _ ⟨h, b⟩ => ⟨h.trans (ret_bool (same_dec _ _ Iff.rfl)), b⟩
theorem sHits (a : Option Addr) (len cap : Nat) (ps : List P2) (p q : P2) (w : World) (hp : PL w a len ps) (hl : len ≤ 9223372036854775807) :
    Calls Try.prog 36 #[.slice a len cap, pt p.1 p.2, pt q.1 q.2] w fun e w' => e = .returned (.bool (decide (shV ps p q))) ∧ Below w.heap.size w w' :=
  (specSegmentHits a len cap ps p q w hp hl).mono fun _ _ ⟨h, b⟩ => ⟨h.trans (ret_bool (same_dec _ _ Iff.rfl)), b⟩
theorem iMeets (a a2 : Option Addr) (len cap len2 cap2 : Nat) (ps qs : List P2) (w : World) (hp : PL w a len ps) (hl : len ≤ 9223372036854775807) (hq : PL w a2 len2 qs) (hl2 : len2 ≤ 9223372036854775807) :
    Calls Try.prog 38 #[.slice a len cap, .slice a2 len2 cap2] w fun e w' => e = .returned (.bool (decide (cmV ps qs))) ∧ Below w.heap.size w w' :=
  (implConvexMeet a len cap ps a2 len2 cap2 qs w hp hl hq hl2).mono fun _ _ ⟨h, b⟩ => ⟨h.trans (ret_bool (same_dec _ _ Iff.rfl)), b⟩
theorem iArea (a : Option Addr) (len cap : Nat) (ps : List P2) (w : World) (hp : PL w a len ps) (hl : len ≤ 9223372036854775807) :
    Calls Try.prog 29 #[.slice a len cap] w fun e w' => e = .returned (.int .i64 (daV ps)) ∧ Below w.heap.size w w' :=
  implDoubleArea a len cap ps w hp hl
end Go.Proofs.Ytkmopgdnaohcdaa
