/- Plain mathematics: the document's walk round the points, step by step. -/
import Derived.Test.YtkmopgdnaohcdaaMon8b
import Derived.Test.YtkmopgdnaohcdaaNum8
namespace Go.Proofs.Ytkmopgdnaohcdaa
set_option maxRecDepth 100000
/-- The last one seen from 'a' among the first j. -/
def NxTo (ps : List P2) (a : P2) (j : Nat) (q : P2) : Prop :=
  (q = a ∧ ∀ i, i < j → cor ps i = a) ∨ (q ≠ a ∧ q ∈ ps ∧ ∀ i, i < j → cor ps i ≠ a → 0 < cr a q (cor ps i) ∨ (cr a q (cor ps i) = 0 ∧ sq2 a (cor ps i) ≤ sq2 a q))
theorem NxTo.start (ps : List P2) (a : P2) : NxTo ps a 0 a := .inl ⟨rfl, fun i hi => by omega⟩
theorem NxTo.mem {ps : List P2} {a q : P2} {j : Nat} (h : NxTo ps a j q) (ha : a ∈ ps) : q ∈ ps := by
  rcases h with ⟨e, _⟩ | ⟨_, m, _⟩
  · rw [e]; exact ha
  · exact m
theorem NxTo.same {ps : List P2} {a q : P2} {j : Nat} (h : NxTo ps a j q) (e : cor ps j = a) : NxTo ps a (j + 1) q := by
  rcases h with ⟨h1, h2⟩ | ⟨h1, h2, h3⟩
  · refine .inl ⟨h1, fun i hi => ?_⟩
    by_cases q : i = j
    · rw [q]; exact e
    · exact h2 i (by omega)
  · refine .inr ⟨h1, h2, fun i hi hne => ?_⟩
    by_cases q : i = j
    · rw [q] at hne; exact absurd e hne
    · exact h3 i (by omega) hne
/-- Does the new point take the place? -/
def takes (a q p : P2) : Prop := q = a ∨ cr a q p < 0 ∨ (cr a q p = 0 ∧ sq2 a q < sq2 a p)
theorem NxTo.keep {ps : List P2} {a q : P2} {j : Nat} (h : NxTo ps a j q) (k : ¬ takes a q (cor ps j)) : NxTo ps a (j + 1) q := by
  unfold takes at k
  rcases h with ⟨h1, _⟩ | ⟨h1, h2, h3⟩
  · exact absurd (.inl h1) k
  · refine .inr ⟨h1, h2, fun i hi hne => ?_⟩
    by_cases q : i = j
    · subst q
      rcases Int.lt_trichotomy (cr a q (cor ps i)) 0 with c | c | c
      · exact absurd (.inr (.inl c)) k
      · refine .inr ⟨c, ?_⟩
        rcases Int.lt_or_le (sq2 a q) (sq2 a (cor ps i)) with d | d
        · exact absurd (.inr (.inr ⟨c, d⟩)) k
        · exact d
      · exact .inl c
    · exact h3 i (by omega) hne
theorem NxTo.take {ps : List P2} {a q : P2} {j : Nat} (h : NxTo ps a j q) (he : Ext ps a) (hj : j < ps.length) (hne : cor ps j ≠ a) (k : takes a q (cor ps j)) : NxTo ps a (j + 1) (cor ps j) := by
  obtain ⟨u, hu⟩ := he
  have hp := hu _ (cor_mem hj) hne
  refine .inr ⟨hne, cor_mem hj, fun i hi hni => ?_⟩
  by_cases e : i = j
  · subst e; rw [cr_same2]; exact .inr ⟨rfl, Int.le_refl _⟩
  · have hi' : i < j := by omega
    have hr := hu _ (cor_mem (show i < ps.length by omega)) hni
    rcases h with ⟨h1, h2⟩ | ⟨h1, h2, h3⟩
    · exact absurd (h2 i hi') hni
    · have hq := hu q h2 h1
      have rule := lin_rule u a (cor ps j) q (cor ps i)
      rcases k with k | k | ⟨k, k2⟩
      · exact absurd k h1
      · have z : cr a (cor ps j) q = - cr a q (cor ps j) := cr_swap2 _ _ _
        have m2 : 0 < lin u a (cor ps i) * cr a (cor ps j) q := Int.mul_pos hr (by omega)
        have m1 : 0 ≤ lin u a (cor ps j) * cr a q (cor ps i) := Int.mul_nonneg (Int.le_of_lt hp) (by rcases h3 i hi' hni with t | t <;> omega)
        exact .inl (pos_of_mul hq (by omega))
      · have z : cr a (cor ps j) q = 0 := by rw [cr_swap2, k]; rfl
        rw [z, Int.mul_zero, Int.add_zero] at rule
        rcases h3 i hi' hni with t | ⟨t, t2⟩
        · have m1 := Int.mul_pos hp t
          exact .inl (pos_of_mul hq (by omega))
        · rw [t, Int.mul_zero] at rule
          rcases Int.mul_eq_zero.1 rule with w | w
          · omega
          · exact .inr ⟨w, by omega⟩
theorem NxTo.done {ps : List P2} {a q : P2} (h : NxTo ps a ps.length q) : (q = a ∧ ∀ p ∈ ps, p = a) ∨ Nxt ps a q := by
  rcases h with ⟨h1, h2⟩ | ⟨h1, h2, h3⟩
  · exact .inl ⟨h1, fun p hp => by obtain ⟨i, hi, rfl⟩ := mem_cor hp; exact h2 i hi⟩
  · exact .inr ⟨h2, h1, fun p hp hne => by obtain ⟨i, hi, rfl⟩ := mem_cor hp; exact h3 i hi hne⟩
/-- The least of the first j (and of one more: the one that is looked at first). -/
def Lst8 (ps : List P2) (j : Nat) (a : P2) : Prop := a ∈ ps ∧ ∀ i, i < j → okQ (cor ps i) ∧ le2 a (cor ps i)
theorem Lst8.step {ps : List P2} {j : Nat} {a : P2} (h : Lst8 ps j a) (hj : j < ps.length) (hk : okQ (cor ps j)) : Lst8 ps (j + 1) (if (cor ps j).1 < a.1 ∨ ((cor ps j).1 = a.1 ∧ (cor ps j).2 < a.2) then cor ps j else a) := by
  split
  case isTrue c =>
    refine ⟨cor_mem hj, fun i hi => ?_⟩
    by_cases e : i = j
    · rw [e]; exact ⟨hk, le2_refl _⟩
    · obtain ⟨k1, k2⟩ := h.2 i (by omega)
      exact ⟨k1, by unfold le2 at *; omega⟩
  case isFalse c =>
    refine ⟨h.1, fun i hi => ?_⟩
    by_cases e : i = j
    · rw [e]; exact ⟨hk, by unfold le2; omega⟩
    · exact h.2 i (by omega)
theorem Lst8.ok {ps : List P2} {a : P2} (h : Lst8 ps ps.length a) : okPts ps := fun p hp => by obtain ⟨i, hi, rfl⟩ := mem_cor hp; exact (h.2 i hi).1
theorem Lst8.le {ps : List P2} {a : P2} (h : Lst8 ps ps.length a) : ∀ p ∈ ps, le2 a p := fun p hp => by obtain ⟨i, hi, rfl⟩ := mem_cor hp; exact (h.2 i hi).2
theorem Lst8.chain {ps : List P2} {a : P2} (h : Lst8 ps ps.length a) : Chain8 ps [a] :=
  ⟨by simp, ⟨h.1, least_ext fun p hp => h.le p hp⟩, fun i hi => by simp at hi, fun i h0 hi => by simp at hi; omega⟩
/-- The document's walk: H lies behind, 'a' is the corner that is looked from. -/
theorem cor_left {H : List P2} {a : P2} {i : Nat} (hi : i < H.length) : cor (H ++ [a]) i = cor H i := by
  unfold cor; rw [List.getD_eq_getElem?_getD, List.getD_eq_getElem?_getD, List.getElem?_append_left hi]
theorem cor_last (H : List P2) (a : P2) : cor (H ++ [a]) H.length = a := by
  unfold cor; rw [List.getD_eq_getElem?_getD, List.getElem?_append_right (Nat.le_refl _)]; simp
theorem Chain8.extA {ps H : List P2} {a : P2} (h : Chain8 ps (H ++ [a])) : a ∈ ps ∧ Ext ps a := by
  have := h.ext H.length (by simp)
  rw [cor_last] at this
  exact this
/-- On to the next corner. -/
theorem Chain8.go {ps H : List P2} {a q : P2} (h : Chain8 ps (H ++ [a])) (n : Nxt ps a q) (hf : q ≠ cor (H ++ [a]) 0) : Chain8 ps ((H ++ [a]) ++ [q]) := by
  have hp := h.pos
  have hl : (H ++ [a]).length = H.length + 1 := by simp
  have cl : ∀ i, i < H.length + 1 → cor ((H ++ [a]) ++ [q]) i = cor (H ++ [a]) i := fun i hi => cor_left (by rw [hl]; exact hi)
  have ce : cor ((H ++ [a]) ++ [q]) (H.length + 1) = q := by have := cor_last (H ++ [a]) q; rw [hl] at this; exact this
  refine ⟨by simp, by rw [cl 0 (by omega)]; exact h.first, fun i hi => ?_, fun i h0 hi => ?_⟩
  · simp only [List.length_append, List.length_singleton] at hi
    by_cases e : i = H.length
    · subst e
      rw [cl _ (by omega), cor_last, ce]; exact n
    · rw [cl _ (by omega), cl _ (by omega)]; exact h.next i (by omega)
  · simp only [List.length_append, List.length_singleton] at hi
    by_cases e : i = H.length + 1
    · subst e
      rw [ce, cl 0 (by omega)]; exact hf
    · rw [cl _ (by omega), cl 0 (by omega)]; exact h.away i h0 (by omega)
/-- Where the walk ends. -/
theorem walk_end {ps H : List P2} {a q : P2} (h : Chain8 ps (H ++ [a])) (n : NxTo ps a ps.length q) (le : ∀ p ∈ ps, le2 (cor (H ++ [a]) 0) p)
    (hq : q = cor (H ++ [a]) 0 ∨ q = a) : IsHull ps (if H.length + 1 < 3 then [] else H ++ [a]) := by
  have hl : (H ++ [a]).length = H.length + 1 := by simp
  rcases n.done with ⟨_, al⟩ | nx
  · have h0 : H = [] := by
      cases H with
      | nil => rfl
      | cons b H =>
        have e := h.away (H.length + 1) (by omega) (by simp)
        have m := (h.ext 0 (by simp)).1
        have f : cor (b :: H ++ [a]) (H.length + 1) = a := cor_last (b :: H) a
        rw [f] at e
        exact absurd (al _ m).symm e
    subst h0
    simp only [List.length_nil, Nat.zero_add, show (1 : Nat) < 3 by decide, if_true]
    exact .inl ⟨rfl, fun H' hh => one_no_hull al hh⟩
  · have hq' : q = cor (H ++ [a]) 0 := by
      rcases hq with e | e
      · exact e
      · exact absurd e nx.ne
    split
    case isTrue c =>
      left
      refine ⟨rfl, fun H' hh => ?_⟩
      cases H with
      | nil =>
        have e : cor ([] ++ [a]) 0 = a := cor_last [] a
        rw [e] at hq'
        exact nx.ne hq'
      | cons b H =>
        cases H with
        | nil =>
          have n0 := h.next 0 (by simp)
          have e0 : cor ([b] ++ [a]) 0 = b := rfl
          have e1 : cor ([b] ++ [a]) (0 + 1) = a := rfl
          rw [e0, e1] at n0
          rw [e0] at hq'
          rw [hq'] at nx
          exact line_no_hull n0 nx hh
        | cons c H => simp at c; omega
    case isFalse c =>
      right
      refine ⟨h.hull (by omega) ?_, le⟩
      rw [hl, show H.length + 1 - 1 = H.length by omega, cor_last, ← hq']
      exact nx
theorem walk_short {ps H : List P2} {a : P2} (h : Chain8 ps (H ++ [a])) : H.length + 1 ≤ ps.length := by
  have := h.short; simpa using this
theorem empty_hull : IsHull [] [] := .inl ⟨rfl, fun H' hh => by have := hh.len; have := hh.sub _ (cor_mem (ps := H') (i := 0) (by omega)); cases this⟩
/-- A hull's corners are among the points. -/
theorem IsHull.sub {S H : List P2} (h : IsHull S H) : ∀ p ∈ H, p ∈ S := by
  rcases h with ⟨rfl, _⟩ | ⟨h, _⟩
  · intro p hp; cases hp
  · exact h.sub
end Go.Proofs.Ytkmopgdnaohcdaa
