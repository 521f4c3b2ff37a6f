/- Several of my texts in one: Nx8, Hv8. -/
import Derived.Test.YtkogoflcacameaaDoorZbGeo
import Derived.Test.YtkogoflcacameaaDoorZbNum
import Derived.Test.YtkogoflcacameaaDoorZbRow
namespace Go.Proofs.YtkogoflcacameaaDoor
set_option maxRecDepth 100000
/-- The last one seen from 'a' among the first j. -/
def NxTo (ps : List P2) (a : P2) (j : Nat) (q : P2) : Prop :=
  (q = a ∧ ∀ i, i < j → cor ps i = a) ∨ (q ≠ a ∧ q ∈ ps ∧ ∀ i, i < j → cor ps i ≠ a → 0 < cr a q (cor ps i) ∨ (cr a q (cor ps i) = 0 ∧ sq2 a (cor ps i) ≤ sq2 a q))
theorem NxTo.start (ps : List P2) (a : P2) : NxTo ps a 0 a := .inl ⟨rfl, fun i hi => by omega⟩
theorem NxTo.mem {ps : List P2} {a q : P2} {j : Nat} (h : NxTo ps a j q) (ha : a ∈ ps) : q ∈ ps := by
  rcases h with ⟨e, _⟩ | ⟨_, m, _⟩
  · rw [e]; exact ha
  · exact m
theorem NxTo.same {ps : List P2} {a q : P2} {j : Nat} (h : NxTo ps a j q) (e : cor ps j = a) : NxTo ps a (j + 1) q := by
  rcases h with ⟨h1, h2⟩ | ⟨h1, h2, h3⟩
  · refine .inl ⟨h1, fun i hi => ?_⟩
    by_cases q : i = j
    · rw [q]; exact e
    · exact h2 i (by omega)
  · refine .inr ⟨h1, h2, fun i hi hne => ?_⟩
    by_cases q : i = j
    · rw [q] at hne; exact absurd e hne
    · exact h3 i (by omega) hne
/-- Does the new point take the place? -/
def takes (a q p : P2) : Prop := q = a ∨ cr a q p < 0 ∨ (cr a q p = 0 ∧ sq2 a q < sq2 a p)
theorem NxTo.keep {ps : List P2} {a q : P2} {j : Nat} (h : NxTo ps a j q) (k : ¬ takes a q (cor ps j)) : NxTo ps a (j + 1) q := by
  unfold takes at k
  rcases h with ⟨h1, _⟩ | ⟨h1, h2, h3⟩
  · exact absurd (.inl h1) k
  · refine .inr ⟨h1, h2, fun i hi hne => ?_⟩
    by_cases q : i = j
    · subst q
      rcases Int.lt_trichotomy (cr a q (cor ps i)) 0 with c | c | c
      · exact absurd (.inr (.inl c)) k
      · refine .inr ⟨c, ?_⟩
        rcases Int.lt_or_le (sq2 a q) (sq2 a (cor ps i)) with d | d
        · exact absurd (.inr (.inr ⟨c, d⟩)) k
        · exact d
      · exact .inl c
    · exact h3 i (by omega) hne
theorem NxTo.take {ps : List P2} {a q : P2} {j : Nat} (h : NxTo ps a j q) (he : Ext ps a) (hj : j < ps.length) (hne : cor ps j ≠ a) (k : takes a q (cor ps j)) : NxTo ps a (j + 1) (cor ps j) := by
  obtain ⟨u, hu⟩ := he
  have hp := hu _ (cor_mem hj) hne
  refine .inr ⟨hne, cor_mem hj, fun i hi hni => ?_⟩
  by_cases e : i = j
  · subst e; rw [cr_same2]; exact .inr ⟨rfl, Int.le_refl _⟩
  · have hi' : i < j := by omega
    have hr := hu _ (cor_mem (show i < ps.length by omega)) hni
    rcases h with ⟨h1, h2⟩ | ⟨h1, h2, h3⟩
    · exact absurd (h2 i hi') hni
    · have hq := hu q h2 h1
      have rule := lin_rule u a (cor ps j) q (cor ps i)
      rcases k with k | k | ⟨k, k2⟩
      · exact absurd k h1
      · have z : cr a (cor ps j) q = - cr a q (cor ps j) := cr_swap2 _ _ _
        have m2 : 0 < lin u a (cor ps i) * cr a (cor ps j) q := Int.mul_pos hr (by omega)
        have m1 : 0 ≤ lin u a (cor ps j) * cr a q (cor ps i) := Int.mul_nonneg (Int.le_of_lt hp) (by rcases h3 i hi' hni with t | t <;> omega)
        exact .inl (pos_of_mul hq (by omega))
      · have z : cr a (cor ps j) q = 0 := by rw [cr_swap2, k]; rfl
        rw [z, Int.mul_zero, Int.add_zero] at rule
        rcases h3 i hi' hni with t | ⟨t, t2⟩
        · have m1 := Int.mul_pos hp t
          exact .inl (pos_of_mul hq (by omega))
        · rw [t, Int.mul_zero] at rule
          rcases Int.mul_eq_zero.1 rule with w | w
          · omega
          · exact .inr ⟨w, by omega⟩
theorem NxTo.done {ps : List P2} {a q : P2} (h : NxTo ps a ps.length q) : (q = a ∧ ∀ p ∈ ps, p = a) ∨ Nxt ps a q := by
  rcases h with ⟨h1, h2⟩ | ⟨h1, h2, h3⟩
  · exact .inl ⟨h1, fun p hp => by obtain ⟨i, hi, rfl⟩ := mem_cor hp; exact h2 i hi⟩
  · exact .inr ⟨h2, h1, fun p hp hne => by obtain ⟨i, hi, rfl⟩ := mem_cor hp; exact h3 i hi hne⟩
/-- The least of the first j (and of one more: the one that is looked at first). -/
def Lst8 (ps : List P2) (j : Nat) (a : P2) : Prop := a ∈ ps ∧ ∀ i, i < j → okQ (cor ps i) ∧ le2 a (cor ps i)
theorem Lst8.step {ps : List P2} {j : Nat} {a : P2} (h : Lst8 ps j a) (hj : j < ps.length) (hk : okQ (cor ps j)) : Lst8 ps (j + 1) (if (cor ps j).1 < a.1 ∨ ((cor ps j).1 = a.1 ∧ (cor ps j).2 < a.2) then cor ps j else a) := by
  split
  case isTrue c =>
    refine ⟨cor_mem hj, fun i hi => ?_⟩
    by_cases e : i = j
    · rw [e]; exact ⟨hk, le2_refl _⟩
    · obtain ⟨k1, k2⟩ := h.2 i (by omega)
      exact ⟨k1, by unfold le2 at *; omega⟩
  case isFalse c =>
    refine ⟨h.1, fun i hi => ?_⟩
    by_cases e : i = j
    · rw [e]; exact ⟨hk, by unfold le2; omega⟩
    · exact h.2 i (by omega)
theorem Lst8.ok {ps : List P2} {a : P2} (h : Lst8 ps ps.length a) : okPts ps := fun p hp => by obtain ⟨i, hi, rfl⟩ := mem_cor hp; exact (h.2 i hi).1
theorem Lst8.le {ps : List P2} {a : P2} (h : Lst8 ps ps.length a) : ∀ p ∈ ps, le2 a p := fun p hp => by obtain ⟨i, hi, rfl⟩ := mem_cor hp; exact (h.2 i hi).2
theorem Lst8.chain {ps : List P2} {a : P2} (h : Lst8 ps ps.length a) : Chain8 ps [a] :=
  ⟨by simp, ⟨h.1, least_ext fun p hp => h.le p hp⟩, fun i hi => by simp at hi, fun i h0 hi => by simp at hi; omega⟩
/-- The document's walk: H lies behind, 'a' is the corner that is looked from. -/
theorem cor_left {H : List P2} {a : P2} {i : Nat} (hi : i < H.length) : cor (H ++ [a]) i = cor H i := by
  unfold cor; rw [List.getD_eq_getElem?_getD, List.getD_eq_getElem?_getD, List.getElem?_append_left hi]
theorem cor_last (H : List P2) (a : P2) : cor (H ++ [a]) H.length = a := by
  unfold cor; rw [List.getD_eq_getElem?_getD, List.getElem?_append_right (Nat.le_refl _)]; simp
theorem Chain8.extA {ps H : List P2} {a : P2} (h : Chain8 ps (H ++ [a])) : a ∈ ps ∧ Ext ps a := by
  have := h.ext H.length (by simp)
  rw [cor_last] at this
  exact this
/-- On to the next corner. -/
theorem Chain8.go {ps H : List P2} {a q : P2} (h : Chain8 ps (H ++ [a])) (n : Nxt ps a q) (hf : q ≠ cor (H ++ [a]) 0) : Chain8 ps ((H ++ [a]) ++ [q]) := by
  have hp := h.pos
  have hl : (H ++ [a]).length = H.length + 1 := by simp
  have cl : ∀ i, i < H.length + 1 → cor ((H ++ [a]) ++ [q]) i = cor (H ++ [a]) i := fun i hi => cor_left (by rw [hl]; exact hi)
  have ce : cor ((H ++ [a]) ++ [q]) (H.length + 1) = q := by have := cor_last (H ++ [a]) q; rw [hl] at this; exact this
  refine ⟨by simp, by rw [cl 0 (by omega)]; exact h.first, fun i hi => ?_, fun i h0 hi => ?_⟩
  · simp only [List.length_append, List.length_singleton] at hi
    by_cases e : i = H.length
    · subst e
      rw [cl _ (by omega), cor_last, ce]; exact n
    · rw [cl _ (by omega), cl _ (by omega)]; exact h.next i (by omega)
  · simp only [List.length_append, List.length_singleton] at hi
    by_cases e : i = H.length + 1
    · subst e
      rw [ce, cl 0 (by omega)]; exact hf
    · rw [cl _ (by omega), cl 0 (by omega)]; exact h.away i h0 (by omega)
/-- Where the walk ends. -/
theorem walk_end {ps H : List P2} {a q : P2} (h : Chain8 ps (H ++ [a])) (n : NxTo ps a ps.length q) (le : ∀ p ∈ ps, le2 (cor (H ++ [a]) 0) p)
    (hq : q = cor (H ++ [a]) 0 ∨ q = a) : IsHull ps (if H.length + 1 < 3 then [] else H ++ [a]) := by
  have hl : (H ++ [a]).length = H.length + 1 := by simp
  rcases n.done with ⟨_, al⟩ | nx
  · have h0 : H = [] := by
      cases H with
      | nil => rfl
      | cons b H =>
        have e := h.away (H.length + 1) (by omega) (by simp)
        have m := (h.ext 0 (by simp)).1
        have f : cor (b :: H ++ [a]) (H.length + 1) = a := cor_last (b :: H) a
        rw [f] at e
        exact absurd (al _ m).symm e
    subst h0
    simp only [List.length_nil, Nat.zero_add, show (1 : Nat) < 3 by decide, if_true]
    exact .inl ⟨rfl, fun H' hh => one_no_hull al hh⟩
  · have hq' : q = cor (H ++ [a]) 0 := by
      rcases hq with e | e
      · exact e
      · exact absurd e nx.ne
    split
    case isTrue c =>
      left
      refine ⟨rfl, fun H' hh => ?_⟩
      cases H with
      | nil =>
        have e : cor ([] ++ [a]) 0 = a := cor_last [] a
        rw [e] at hq'
        exact nx.ne hq'
      | cons b H =>
        cases H with
        | nil =>
          have n0 := h.next 0 (by simp)
          have e0 : cor ([b] ++ [a]) 0 = b := rfl
          have e1 : cor ([b] ++ [a]) (0 + 1) = a := rfl
          rw [e0, e1] at n0
          rw [e0] at hq'
          rw [hq'] at nx
          exact line_no_hull n0 nx hh
        | cons c H => simp at c; omega
    case isFalse c =>
      right
      refine ⟨h.hull (by omega) ?_, le⟩
      rw [hl, show H.length + 1 - 1 = H.length by omega, cor_last, ← hq']
      exact nx
theorem walk_short {ps H : List P2} {a : P2} (h : Chain8 ps (H ++ [a])) : H.length + 1 ≤ ps.length := by
  have := h.short; simpa using this
theorem empty_hull : IsHull [] [] := .inl ⟨rfl, fun H' hh => by have := hh.len; have := hh.sub _ (cor_mem (ps := H') (i := 0) (by omega)); cases this⟩
/-- A hull's corners are among the points. -/
theorem IsHull.sub {S H : List P2} (h : IsHull S H) : ∀ p ∈ H, p ∈ S := by
  rcases h with ⟨rfl, _⟩ | ⟨h, _⟩
  · intro p hp; cases hp
  · exact h.sub
end Go.Proofs.YtkogoflcacameaaDoor
namespace Go.Proofs.YtkogoflcacameaaDoor
set_option maxRecDepth 100000
open Go.RowKit
/-- Which of two numbers is less. -/
def cmpI8 (a b : Int) : Int := if a < b then -1 else if b < a then 1 else 0
/-- The first that is not 0. -/
def orI8 (x y : Int) : Int := if x ≠ 0 then x else y
/-- The order of two points. -/
def cmp2 (x y : P2) : Int := orI8 (cmpI8 x.1 y.1) (cmpI8 x.2 y.2)
theorem cmp2_neg (x y : P2) : cmp2 x y < 0 ↔ lt2 x y := by
  unfold cmp2 orI8 cmpI8 lt2
  split <;> split at * <;> (try split at *) <;> (try split at *) <;> omega
/-- The points in their order. -/
def srt (ps : List P2) : List P2 := ps.mergeSort fun x y => !decide (cmp2 y x < 0)
theorem srt_mem (ps : List P2) (p : P2) : p ∈ ps ↔ p ∈ srt ps := (List.mergeSort_perm ps _).mem_iff.symm
theorem srt_len (ps : List P2) : (srt ps).length = ps.length := (List.mergeSort_perm ps _).length_eq
theorem srt_asc (ps : List P2) : Asc (srt ps) := by
  have key : ∀ a b : P2, (!decide (cmp2 b a < 0)) = true ↔ le2 a b := fun a b => by
    rw [Bool.not_eq_true', decide_eq_false_iff_not, cmp2_neg]
    constructor
    · intro h; rcases le2_total a b with k | k; exact k; exact absurd k h
    · intro h k; exact lt2_ne (lt2_of_lt_le k h) rfl
  have := List.pairwise_mergeSort (le := fun x y => !decide (cmp2 y x < 0)) (fun a b c h1 h2 => by rw [key] at *; exact le2_trans h1 h2) (fun a b => by
    rw [Bool.or_eq_true, key, key]; rcases le2_total a b with k | k; exact .inl k; exact .inr (lt2_le k)) ps
  exact this.imp fun h => (key _ _).1 h
theorem bord_snoc (ps : List P2) (j : Nat) (h : j < ps.length) : bord [] (ps.take (j + 1)) = cor ps j :: popTo (cor ps j) (bord [] (ps.take j)) := by
  rw [List.take_succ_eq_append_getElem h]
  unfold bord
  rw [List.foldl_append]
  have e : ps[j] = cor ps j := by unfold cor; rw [List.getD_eq_getElem?_getD, List.getElem?_eq_getElem h]; rfl
  rw [e]; rfl
theorem popTo_len (p : P2) : ∀ s : List P2, (popTo p s).length ≤ s.length
  | [] => Nat.le_refl _
  | [a] => Nat.le_refl _
  | b :: a :: s => by
    have := popTo_len p (a :: s)
    unfold popTo
    split
    · simp only [List.length_cons] at this ⊢; omega
    · exact Nat.le_refl _
theorem popTo_mem (p : P2) : ∀ s : List P2, ∀ x ∈ popTo p s, x ∈ s
  | [], _, h => h
  | [a], _, h => h
  | b :: a :: s, x, h => by
    unfold popTo at h
    split at h
    · exact List.mem_cons_of_mem _ (popTo_mem p (a :: s) x h)
    · exact h
theorem bord_len : ∀ (ps s : List P2), (bord s ps).length ≤ s.length + ps.length
  | [], s => by simp [bord]
  | p :: ps, s => by
    have := bord_len ps (p :: popTo p s)
    have l := popTo_len p s
    unfold bord at *
    simp only [List.foldl_cons, List.length_cons] at this ⊢; omega
theorem bord_mem : ∀ (ps s : List P2), ∀ x ∈ bord s ps, x ∈ s ∨ x ∈ ps
  | [], s, x, h => .inl h
  | p :: ps, s, x, h => by
    have := bord_mem ps (p :: popTo p s) x h
    rcases this with k | k
    · rcases List.mem_cons.1 k with e | e
      · exact .inr (by rw [e]; exact List.mem_cons_self)
      · exact .inl (popTo_mem p s x e)
    · exact .inr (List.mem_cons_of_mem _ k)
/-- What the hull of a list is: nothing where the list is too long or a point is not valid. -/
def hulV (ps : List P2) : List P2 := if ps.length ≤ 16 ∧ okPts ps then joinB (lowB (srt ps)) (lowB (srt ps).reverse) else []
theorem hulV_is {ps : List P2} (h : ps.length ≤ 16) (hk : okPts ps) : IsHull ps (hulV ps) := by
  unfold hulV; rw [if_pos ⟨h, hk⟩]
  exact mono_hull (srt_mem ps) (srt_asc ps)
theorem hulV_eq {ps H : List P2} (h : ps.length ≤ 16) (hk : okPts ps) (hi : IsHull ps H) : H = hulV ps := IsHull.unique hi (hulV_is h hk)
theorem hulV_out {ps : List P2} (h : ¬ (ps.length ≤ 16 ∧ okPts ps)) : hulV ps = [] := by unfold hulV; rw [if_neg h]
theorem hulV_sub {ps : List P2} : ∀ p ∈ hulV ps, p ∈ ps := by
  by_cases h : ps.length ≤ 16 ∧ okPts ps
  · exact (hulV_is h.1 h.2).sub
  · rw [hulV_out h]; intro p hp; cases hp
theorem hulV_nil : hulV [] = [] := by
  have := hulV_eq (ps := []) (by simp) (fun p hp => by cases hp) empty_hull
  exact this.symm
/-- A row of points of the call's own. -/
def RowP (ps : List P2) (w : World) (e : Ending) (w' : World) : Prop := ∃ s : Sl, e = .returned (.slice s.a s.len s.cap) ∧ s.len = ps.length ∧ OwnPt w' w.heap.size (.slice s.a s.len s.cap) ps ∧ Below w.heap.size w w'
theorem own_len {w : World} {B : Nat} {a : Option Addr} {len cap : Nat} {ps : List P2} (h : OwnPt w B (.slice a len cap) ps) : len = ps.length ∧ ((a = none ∧ len = 0 ∧ cap = 0) ∨ ∃ g, a = some ⟨g, 0, none⟩ ∧ B ≤ g ∧ g < w.heap.size) := by
  rcases h.2 with ⟨hv, hn⟩ | ⟨g, cap', cur, hv, hB, hg, _⟩
  · simp only [Value.slice.injEq] at hv
    exact ⟨by omega, .inl ⟨hv.1, hv.2.1, hv.2.2⟩⟩
  · simp only [Value.slice.injEq] at hv
    exact ⟨hv.2.1, .inr ⟨g, hv.1, hB, (Array.getElem?_eq_some_iff.1 hg).1⟩⟩
theorem vals_take8 (ps : List P2) (m : Nat) (h : m ≤ ps.length) : (pvals ps).take (m * 2) = pvals (ps.take m) := by
  apply List.ext_getElem?
  intro j
  have hl : (ps.take m).length = m := by rw [List.length_take]; omega
  by_cases hj : j < m * 2
  · rw [List.getElem?_take_of_lt hj, pvals_at ps j (by omega), pvals_at _ j (by rw [hl]; exact hj)]
    unfold cz
    simp only [List.getD_eq_getElem?_getD, List.getElem?_take, if_pos (show j / 2 < m by omega)]
  · rw [List.getElem?_take_eq_none (by omega), List.getElem?_eq_none (by rw [pvals_len, hl]; omega)]
/-- A slice cut short. -/
theorem own_take {w : World} {B g n cap : Nat} {ps : List P2} (h : OwnPt w B (.slice (some ⟨g, 0, none⟩) n cap) ps) {m : Nat} (hm : m ≤ ps.length) : OwnPt w B (.slice (some ⟨g, 0, none⟩) m cap) (ps.take m) := by
  have hl : (ps.take m).length = m := by rw [List.length_take]; omega
  obtain ⟨h1, h2⟩ := h
  rcases h2 with ⟨hv, _⟩ | ⟨g', cap', cur, hv, hB, hg, hn, hc, hs, ht⟩
  · cases hv
  · simp only [Value.slice.injEq, Option.some.injEq, Addr.mk.injEq, and_true] at hv
    obtain ⟨rfl, e2, rfl⟩ := hv
    refine ⟨by rw [pvals_len], .inr ⟨g, cap, cur, by rw [hl], hB, hg, by rw [hl]; omega, hc, hs, ?_⟩⟩
    rw [hl, ← vals_take8 ps m hm, ← ht, List.take_take, Nat.min_eq_left (by omega)]
theorem cor_rev_top {b : P2} {s : List P2} : cor (b :: s).reverse s.length = b := by
  rw [cor_rev (by simp only [List.length_cons]; omega)]
  simp [cor]
theorem cor_rev_next {b a : P2} {s : List P2} : cor (b :: a :: s).reverse s.length = a := by
  rw [cor_rev (by simp only [List.length_cons]; omega)]
  simp [cor]
theorem take_rev_pop {b : P2} {s : List P2} : (b :: s).reverse.take s.length = s.reverse := by
  rw [List.reverse_cons, List.take_append_of_le_length (by simp), List.take_of_length_le (by simp)]
theorem own_cap {w : World} {B g n cap : Nat} {ps : List P2} (h : OwnPt w B (.slice (some ⟨g, 0, none⟩) n cap) ps) : n ≤ cap := by
  obtain ⟨h1, h2⟩ := h
  rcases h2 with ⟨hv, _⟩ | ⟨g', cap', cur, hv, hB, hg, hn, _⟩
  · cases hv
  · simp only [Value.slice.injEq] at hv
    obtain ⟨_, e2, rfl⟩ := hv
    omega
end Go.Proofs.YtkogoflcacameaaDoor
