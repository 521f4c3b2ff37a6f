/- For small cells the program's corners are the document's. -/
import Derived.Test.YtkogoflcacameaaIm11k
namespace Go.Proofs.Ytkogoflcacameaa
set_option maxRecDepth 100000
/-- The cells are small. -/
def SmC (L : List C2) : Prop := ∀ i, i < L.length → (-1000000 ≤ (L.getD i (0, 0)).1 ∧ (L.getD i (0, 0)).1 ≤ 1000000) ∧ -1000000 ≤ (L.getD i (0, 0)).2 ∧ (L.getD i (0, 0)).2 ≤ 1000000
theorem dif_is {x y : Int} (h1 : -1000000 ≤ x) (h2 : x ≤ 1000000) (h3 : -1000000 ≤ y) (h4 : y ≤ 1000000) : dif x y = x - y := wrap_in (by omega) (by omega)
theorem even_small {a b c : Int} (h1 : -1000000 ≤ a ∧ a ≤ 1000000) (h2 : -1000000 ≤ b ∧ b ≤ 1000000) (h3 : -1000000 ≤ c ∧ c ≤ 1000000) : evenV a b c = decide (dif b a = dif c b) := by
  unfold evenV
  rw [dif_is h2.1 h2.2 h1.1 h1.2, dif_is h3.1 h3.2 h2.1 h2.2]
  by_cases e : b - a = c - b
  · have e2 : decide (a < b) = decide (b < c) := by
      by_cases q : a < b
      · rw [decide_eq_true q, decide_eq_true (by omega)]
      · rw [decide_eq_false q, decide_eq_false (by omega)]
    rw [decide_eq_true e, e2, e]
    simp
  · rw [decide_eq_false e]
    have : (b - a == c - b) = false := by simpa using e
    rw [this]; rfl
theorem corn_small {L : List C2} (h : SmC L) {k : Nat} (hk : k < L.length) : cornI L k = cornV L k := by
  by_cases h0 : k = 0
  · subst h0; unfold cornI cornV; simp
  by_cases h1 : k + 1 = L.length
  · unfold cornI cornV; rw [decide_eq_true (.inr h1), decide_eq_true (.inr (.inl h1))]; rfl
  have a := h (k - 1) (by omega)
  have b := h k hk
  have c := h (k + 1) (by omega)
  unfold cornI strI cornV
  rw [decide_eq_false (by rintro (q | q); exact h0 q; exact h1 q), even_small a.1 b.1 c.1, even_small a.2 b.2 c.2, Bool.false_or]
  by_cases e1 : dif (L.getD k (0, 0)).1 (L.getD (k - 1) (0, 0)).1 = dif (L.getD (k + 1) (0, 0)).1 (L.getD k (0, 0)).1
  · by_cases e2 : dif (L.getD k (0, 0)).2 (L.getD (k - 1) (0, 0)).2 = dif (L.getD (k + 1) (0, 0)).2 (L.getD k (0, 0)).2
    · rw [decide_eq_true e1, decide_eq_true e2, decide_eq_false (by rintro (q | q | q | q); exact h0 q; exact h1 q; exact q e1; exact q e2)]; rfl
    · rw [decide_eq_true e1, decide_eq_false e2]; exact (decide_eq_true (Or.inr (Or.inr (Or.inr e2)))).symm
  · rw [decide_eq_false e1]; exact (decide_eq_true (Or.inr (Or.inr (Or.inl e1)))).symm
theorem corners_small {L : List C2} (h : SmC L) : cornersI L = cornersV L := by
  unfold cornersI cornersV
  split
  · rfl
  · show _ = byP (cornV L) L L.length
    unfold byP
    rw [List.filter_congr (fun k hk => corn_small h (by simpa using hk))]
end Go.Proofs.Ytkogoflcacameaa
