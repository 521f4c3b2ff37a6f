/- Marking a row of points; and rows of points that grow. -/
import Derived.Test.YtooipdmckbehnaaDoorPRow
namespace Go.Proofs.YtooipdmckbehnaaDoor
set_option maxRecDepth 100000
open Go.RowKit
attribute [local go_sem ↓] Go.wp_at_zero Go.wp_at_succ
/-- Cells of which the first m are f's, the others g's. -/
def cpart (f g : Nat → Int) (n m : Nat) : List Value := (List.range n).map fun (i : Nat) => Value.int .i64 (if i < m then f i else g i)
theorem cpart_len (f g : Nat → Int) (n m : Nat) : (cpart f g n m).length = n := by simp [cpart]
theorem cpart_at (f g : Nat → Int) (n m i : Nat) (h : i < n) : (cpart f g n m)[i]? = some (.int .i64 (if i < m then f i else g i)) := by
  unfold cpart; rw [List.getElem?_map, List.getElem?_range h]; rfl
theorem cpart_set (f g : Nat → Int) (n m : Nat) : (cpart f g n m).set m (.int .i64 (f m)) = cpart f g n (m + 1) := by
  apply List.ext_getElem?
  intro i
  rw [List.getElem?_set, cpart_len]
  by_cases hi : i < n
  · rw [cpart_at f g n m i hi, cpart_at f g n (m + 1) i hi]
    by_cases hj : m = i
    · subst hj; rw [if_pos rfl, if_pos hi, if_pos (by omega)]
    · rw [if_neg hj]
      by_cases h1 : i < m
      · rw [if_pos h1, if_pos (by omega)]
      · rw [if_neg h1, if_neg (by omega)]
  · rw [List.getElem?_eq_none (by rw [cpart_len]; omega), List.getElem?_eq_none (by rw [cpart_len]; omega)]
    split
    · rw [if_neg (by omega)]
    · rfl
theorem cpart_congr (f g f' g' : Nat → Int) (n m m' : Nat) (h : ∀ i, i < n → (if i < m then f i else g i) = if i < m' then f' i else g' i) : cpart f g n m = cpart f' g' n m' := by
  apply List.ext_getElem?
  intro i
  by_cases hi : i < n
  · rw [cpart_at f g n m i hi, cpart_at f' g' n m' i hi, h i hi]
  · rw [List.getElem?_eq_none (by rw [cpart_len]; omega), List.getElem?_eq_none (by rw [cpart_len]; omega)]
theorem pvals_cpart (ps : List (Int × Int)) (g : Nat → Int) : pvals ps = cpart (cz ps) g (ps.length * 2) (ps.length * 2) := by
  apply List.ext_getElem?
  intro i
  by_cases hi : i < ps.length * 2
  · rw [pvals_at ps i hi, cpart_at _ _ _ _ i hi, if_pos hi]
  · rw [List.getElem?_eq_none (by rw [pvals_len]; omega), List.getElem?_eq_none (by rw [cpart_len]; omega)]
theorem cz_pmarks (k : Int) (n j : Nat) (h : j < n * 2) : cz (pmarks k n) j = k + (j : Int) := by
  unfold cz
  rw [pmarks_at k n (j / 2) (by omega)]
  split <;> simp only <;> omega
end Go.Proofs.YtooipdmckbehnaaDoor
