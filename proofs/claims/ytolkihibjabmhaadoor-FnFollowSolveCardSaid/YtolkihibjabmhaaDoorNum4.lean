/- Plain facts on searches: the first of the least in a list, all pairs of angles, single steps and their repetition. -/
import Derived.Test.YtolkihibjabmhaaDoorNum3
namespace Go.Proofs.YtolkihibjabmhaaDoor
set_option maxRecDepth 100000

/-- The costs d, e are less than d', e': by the first, then by the second. -/
def lessC (d e d' e' : Int) : Prop := d < d' ∨ (d = d' ∧ e < e')
instance (d e d' e' : Int) : Decidable (lessC d e d' e') := by unfold lessC; infer_instance
section
variable {α β : Type}
/-- One more is looked at: it is taken if it is less, or the first. -/
def bstep (D E : α → Int) (o : Option α) (x : α) : Option α :=
  match o with
  | none => some x
  | some b => if lessC (D x) (E x) (D b) (E b) then some x else some b
/-- The first of the least. -/
def bestL (D E : α → Int) (xs : List α) : Option α := xs.foldl (bstep D E) none
theorem bestL_nil (D E : α → Int) : bestL D E [] = none := rfl
theorem bestL_snoc (D E : α → Int) (xs : List α) (x : α) : bestL D E (xs ++ [x]) = bstep D E (bestL D E xs) x := by simp [bestL]
theorem bestL_one (D E : α → Int) (x : α) : bestL D E [x] = some x := rfl
theorem bstep_take {D E : α → Int} {b x : α} (h : lessC (D x) (E x) (D b) (E b)) : bstep D E (some b) x = some x := by simp only [bstep]; rw [if_pos h]
theorem bstep_keep {D E : α → Int} {b x : α} (h : ¬ lessC (D x) (E x) (D b) (E b)) : bstep D E (some b) x = some b := by simp only [bstep]; rw [if_neg h]
theorem bstep_none (D E : α → Int) (x : α) : bstep D E none x = some x := rfl
theorem fold_best (D E : α → Int) : ∀ (xs : List α) (b : α), ∃ c, xs.foldl (bstep D E) (some b) = some c ∧ (c = b ∨ c ∈ xs) ∧ D c ≤ D b ∧ ∀ x ∈ xs, D c ≤ D x
  | [], b => ⟨b, rfl, .inl rfl, Int.le_refl _, fun _ h => by cases h⟩
  | x :: xs, b => by
    by_cases h : lessC (D x) (E x) (D b) (E b)
    · obtain ⟨c, h1, h2, h3, h4⟩ := fold_best D E xs x
      refine ⟨c, by rw [List.foldl_cons, bstep_take h]; exact h1, .inr ?_, ?_, ?_⟩
      · rcases h2 with rfl | h2
        · exact List.mem_cons_self ..
        · exact List.mem_cons_of_mem _ h2
      · unfold lessC at h; omega
      · intro y hy
        rcases List.mem_cons.1 hy with rfl | hy
        · exact h3
        · exact h4 y hy
    · obtain ⟨c, h1, h2, h3, h4⟩ := fold_best D E xs b
      refine ⟨c, by rw [List.foldl_cons, bstep_keep h]; exact h1, ?_, h3, ?_⟩
      · rcases h2 with rfl | h2
        · exact .inl rfl
        · exact .inr (List.mem_cons_of_mem _ h2)
      · intro y hy
        rcases List.mem_cons.1 hy with rfl | hy
        · unfold lessC at h; omega
        · exact h4 y hy
theorem bestL_is (D E : α → Int) (xs : List α) (h : xs ≠ []) : ∃ c, bestL D E xs = some c ∧ c ∈ xs ∧ ∀ x ∈ xs, D c ≤ D x := by
  cases xs with
  | nil => exact absurd rfl h
  | cons x xs =>
    obtain ⟨c, h1, h2, h3, h4⟩ := fold_best D E xs x
    refine ⟨c, h1, ?_, ?_⟩
    · rcases h2 with rfl | h2
      · exact List.mem_cons_self ..
      · exact List.mem_cons_of_mem _ h2
    · intro y hy
      rcases List.mem_cons.1 hy with rfl | hy
      · exact h3
      · exact h4 y hy
theorem fold_map (D E : β → Int) (f : α → β) : ∀ (xs : List α) (o : Option α), (xs.map f).foldl (bstep D E) (o.map f) = (xs.foldl (bstep (fun x => D (f x)) (fun x => E (f x))) o).map f
  | [], o => rfl
  | x :: xs, o => by
    rw [List.map_cons, List.foldl_cons, List.foldl_cons, ← fold_map D E f xs]
    congr 1
    cases o with
    | none => rfl
    | some b =>
      simp only [Option.map_some, bstep]
      split <;> rfl
theorem bestL_map (D E : β → Int) (f : α → β) (xs : List α) : bestL D E (xs.map f) = (bestL (fun x => D (f x)) (fun x => E (f x)) xs).map f := fold_map D E f xs none
end

/-- A candidate: four angles, the distance, the effort. -/
structure Cand where
  p0 : Int
  p1 : Int
  p2 : Int
  p3 : Int
  d : Int
  e : Int

/-- The sum of the absolute values. -/
def sumAbs (p : Int × Int) : Int := max p.1 (-p.1) + max p.2 (-p.2)
/-- All pairs with the first number i. -/
def rowL (i lo : Int) (n : Nat) : List (Int × Int) := (List.range n).map fun (j : Nat) => (i, lo + (j : Int))
theorem rowL_zero (i lo : Int) : rowL i lo 0 = [] := rfl
theorem rowL_succ (i lo : Int) (n : Nat) : rowL i lo (n + 1) = rowL i lo n ++ [(i, lo + (n : Int))] := by simp [rowL, List.range_succ]
/-- All pairs, by the first number, then by the second. -/
def rowsL (lo0 lo1 : Int) (n1 : Nat) : Nat → List (Int × Int)
  | 0 => []
  | k + 1 => rowsL lo0 lo1 n1 k ++ rowL (lo0 + (k : Int)) lo1 n1
theorem mem_rowL {i lo : Int} {n : Nat} {p : Int × Int} : p ∈ rowL i lo n ↔ p.1 = i ∧ lo ≤ p.2 ∧ p.2 < lo + (n : Int) := by
  unfold rowL
  rw [List.mem_map]
  constructor
  · rintro ⟨j, hj, rfl⟩
    rw [List.mem_range] at hj
    exact ⟨rfl, show lo ≤ lo + (j : Int) by omega, show lo + (j : Int) < lo + (n : Int) by omega⟩
  · rintro ⟨h1, h2, h3⟩
    refine ⟨(p.2 - lo).toNat, by rw [List.mem_range]; omega, ?_⟩
    have e : lo + (((p.2 - lo).toNat : Nat) : Int) = p.2 := by omega
    show (i, lo + (((p.2 - lo).toNat : Nat) : Int)) = p
    rw [e, ← h1]
theorem mem_rowsL {lo0 lo1 : Int} {n1 n0 : Nat} {p : Int × Int} : p ∈ rowsL lo0 lo1 n1 n0 ↔ (lo0 ≤ p.1 ∧ p.1 < lo0 + (n0 : Int)) ∧ lo1 ≤ p.2 ∧ p.2 < lo1 + (n1 : Int) := by
  induction n0 with
  | zero => simp only [rowsL]; constructor
            · intro h; cases h
            · intro h; omega
  | succ k ih =>
    simp only [rowsL, List.mem_append, ih, mem_rowL]
    omega
theorem rowsL_len (lo0 lo1 : Int) (n1 n0 : Nat) : (rowsL lo0 lo1 n1 n0).length = n0 * n1 := by
  induction n0 with
  | zero => simp [rowsL]
  | succ k ih => simp only [rowsL, List.length_append, ih, rowL, List.length_map, List.length_range, Nat.succ_mul]

/-- How far the tip is from a point, squared. -/
def distV (ls : List Int) (tx ty : Int) (js : List Int) : Int := sqV (ptX ls js ls.length) (ptY ls js ls.length) tx ty
/-- The distance for a pair of angles. -/
def pairD (ls : List Int) (tx ty : Int) (p : Int × Int) : Int := distV ls tx ty [p.1, p.2]
theorem pair_pt {ls : List Int} (h : ls.length = 2) (i j : Int) : ptX ls [i, j] ls.length = rotX (ls.getD 0 0) 0 i + rotX (ls.getD 1 0) 0 (i + j) ∧ ptY ls [i, j] ls.length = rotY (ls.getD 0 0) 0 i + rotY (ls.getD 1 0) 0 (i + j) := by
  rw [h]
  have e1 : sumN [i, j] 1 = i := by simp [sumN]
  have e2 : sumN [i, j] 2 = i + j := by simp [sumN]
  simp only [ptX, ptY, Nat.zero_add, e1, e2]
  exact ⟨by omega, by omega⟩
/-- How many angles a joint has. -/
def wide (lo hi : List Int) (k : Nat) : Nat := (hi.getD k 0 - lo.getD k 0 + 1).toNat
def allPairs (lo hi : List Int) : List (Int × Int) := rowsL (lo.getD 0 0) (lo.getD 1 0) (wide lo hi 1) (wide lo hi 0)
/-- The best pair. -/
def solveP (ls lo hi : List Int) (tx ty : Int) : Option (Int × Int) := bestL (pairD ls tx ty) sumAbs (allPairs lo hi)
def pairL : Option (Int × Int) → List Int
  | none => []
  | some p => [p.1, p.2]

/-- The angles with one of them changed. -/
def tryL (js : List Int) (k : Nat) (d : Int) : List Int := js.set k (js.getD k 0 + d)
theorem tryL_len (js : List Int) (k : Nat) (d : Int) : (tryL js k d).length = js.length := by simp [tryL]
theorem tryL_at (js : List Int) (k i : Nat) (d : Int) (hk : k < js.length) : (tryL js k d).getD i 0 = if i = k then js.getD k 0 + d else js.getD i 0 := by
  unfold tryL
  simp only [List.getD_eq_getElem?_getD, List.getElem?_set]
  by_cases h : k = i
  · subst h; simp [hk]
  · rw [if_neg h, if_neg (by omega)]
def turnOf (m : Nat) : Int := if m % 2 = 0 then -1 else 1
theorem turnOf_even (k : Nat) : turnOf (2 * k) = -1 := by unfold turnOf; rw [if_pos (by omega)]
theorem turnOf_odd (k : Nat) : turnOf (2 * k + 1) = 1 := by unfold turnOf; rw [if_neg (by omega)]
/-- The m-th single step. -/
def candM (js : List Int) (m : Nat) : List Int := tryL js (m / 2) (turnOf m)
section
variable (ok : List Int → Prop) [DecidablePred ok] (D : List Int → Int) (js : List Int)
/-- The best of the angles themselves and the first m single steps. -/
def stepM : Nat → List Int
  | 0 => js
  | m + 1 => if ok (candM js m) ∧ D (candM js m) < D (stepM m) then candM js m else stepM m
theorem stepM_or (m : Nat) : stepM ok D js m = js ∨ ∃ i, i < m ∧ stepM ok D js m = candM js i ∧ ok (candM js i) := by
  induction m with
  | zero => exact .inl rfl
  | succ m ih =>
    simp only [stepM]
    split
    · rename_i h; exact .inr ⟨m, by omega, rfl, h.1⟩
    · rcases ih with h | ⟨i, h1, h2, h3⟩
      · exact .inl h
      · exact .inr ⟨i, by omega, h2, h3⟩
theorem stepM_le (m : Nat) : D (stepM ok D js m) ≤ D js := by
  induction m with
  | zero => exact Int.le_refl _
  | succ m ih =>
    simp only [stepM]
    split
    · rename_i h; omega
    · exact ih
theorem stepM_len (m : Nat) : (stepM ok D js m).length = js.length := by
  rcases stepM_or ok D js m with h | ⟨i, _, h, _⟩
  · rw [h]
  · rw [h]; exact tryL_len _ _ _
theorem stepM_ok (m : Nat) (h : ok js) : ok (stepM ok D js m) := by
  rcases stepM_or ok D js m with h1 | ⟨i, _, h1, h2⟩
  · rw [h1]; exact h
  · rw [h1]; exact h2
end
section
variable (ok : List Int → Prop) [DecidablePred ok] (D : List Int → Int)
/-- One step. -/
def stepV (js : List Int) : List Int := stepM ok D js (2 * js.length)
/-- Many steps. -/
def followM (js : List Int) : Nat → List Int
  | 0 => js
  | m + 1 => stepV ok D (followM js m)
theorem stepV_len (js : List Int) : (stepV ok D js).length = js.length := stepM_len ok D js _
theorem stepV_ok {js : List Int} (h : ok js) : ok (stepV ok D js) := stepM_ok ok D js _ h
theorem stepV_le (js : List Int) : D (stepV ok D js) ≤ D js := stepM_le ok D js _
theorem followM_len (js : List Int) (m : Nat) : (followM ok D js m).length = js.length := by
  induction m with
  | zero => rfl
  | succ m ih => simp only [followM]; rw [stepV_len, ih]
theorem followM_ok {js : List Int} (h : ok js) (m : Nat) : ok (followM ok D js m) := by
  induction m with
  | zero => exact h
  | succ m ih => exact stepV_ok ok D ih
theorem followM_le (js : List Int) (m : Nat) : D (followM ok D js m) ≤ D js := by
  induction m with
  | zero => exact Int.le_refl _
  | succ m ih => simp only [followM]; have := stepV_le ok D (followM ok D js m); omega
theorem followM_add (js : List Int) (m n : Nat) : followM ok D (followM ok D js m) n = followM ok D js (m + n) := by
  induction n with
  | zero => rfl
  | succ n ih => rw [show m + (n + 1) = (m + n) + 1 by omega]; simp only [followM]; rw [ih]
theorem followM_stays {js : List Int} (m n : Nat) (h : stepV ok D (followM ok D js m) = followM ok D js m) : followM ok D js (m + n) = followM ok D js m := by
  induction n with
  | zero => rfl
  | succ n ih => rw [Nat.add_succ]; simp only [followM]; rw [ih, h]
theorem followM_one (js : List Int) : followM ok D js 1 = stepV ok D js := rfl
end
/-- The candidate of some angles. -/
def candOf (D : List Int → Int) (js : List Int) : Cand := ⟨js.getD 0 0, js.getD 1 0, js.getD 2 0, js.getD 3 0, D js, 0⟩
/-- The candidates of the first m single steps. -/
def candsM (ok : List Int → Prop) [DecidablePred ok] (D : List Int → Int) (js : List Int) : Nat → List Cand
  | 0 => [candOf D js]
  | m + 1 => candsM ok D js m ++ (if ok (candM js m) then [candOf D (candM js m)] else [])
theorem candsM_best (ok : List Int → Prop) [DecidablePred ok] (D : List Int → Int) (js : List Int) (m : Nat) : bestL Cand.d Cand.e (candsM ok D js m) = some (candOf D (stepM ok D js m)) := by
  induction m with
  | zero => rfl
  | succ m ih =>
    simp only [candsM, stepM]
    by_cases h : ok (candM js m)
    · rw [if_pos h, bestL_snoc, ih]
      by_cases h2 : D (candM js m) < D (stepM ok D js m)
      · rw [if_pos ⟨h, h2⟩, bstep_take (D := Cand.d) (E := Cand.e) (show lessC (candOf D (candM js m)).d (candOf D (candM js m)).e (candOf D (stepM ok D js m)).d (candOf D (stepM ok D js m)).e from .inl h2)]
      · rw [if_neg fun k => h2 k.2, bstep_keep]
        unfold lessC candOf
        simp only
        omega
    · rw [if_neg h, List.append_nil, ih, if_neg fun k => h k.1]
theorem candsM_len (ok : List Int → Prop) [DecidablePred ok] (D : List Int → Int) (js : List Int) (m : Nat) : (candsM ok D js m).length ≤ m + 1 := by
  induction m with
  | zero => simp [candsM]
  | succ m ih =>
    simp only [candsM, List.length_append]
    split <;> simp <;> omega
end Go.Proofs.YtolkihibjabmhaaDoor
