/- Plain mathematics for lists of corners: the two tests of a convex polygon, sums over the edges, first corners. -/
import Derived.Test.YtkmopgdnaohcdaaSeg8
import Derived.Test.YtkmopgdnaohcdaaNum7
namespace Go.Proofs.Ytkmopgdnaohcdaa
set_option maxRecDepth 100000
abbrev okQ (p : P2) : Prop := okP p.1 p.2
/-- The orientation of three points. -/
def ori (a b c : P2) : Int := oriV a.1 a.2 b.1 b.2 c.1 c.2
theorem crossV_cr (a b c : P2) : crossV a.1 a.2 b.1 b.2 c.1 c.2 = cr a b c := rfl
theorem ori_ok {a b c : P2} (h : okQ a ∧ okQ b ∧ okQ c) : ori a b c = sgn (cr a b c) := by unfold ori oriV; rw [if_pos h]; rfl
theorem ori_pos (a b c : P2) : 0 < ori a b c ↔ (okQ a ∧ okQ b ∧ okQ c) ∧ 0 < cr a b c := by
  by_cases h : okQ a ∧ okQ b ∧ okQ c
  · rw [ori_ok h]
    rcases sgn_cases (cr a b c) with ⟨k, e⟩ | ⟨k, e⟩ | ⟨k, e⟩ <;> rw [e] <;> constructor
    · exact fun _ => ⟨h, k⟩
    · exact fun _ => by omega
    · intro q; omega
    · rintro ⟨_, q⟩; omega
    · intro q; omega
    · rintro ⟨_, q⟩; omega
  · unfold ori oriV
    rw [if_neg h]
    exact ⟨fun q => by omega, fun q => absurd q.1 h⟩
theorem ori_one (a b c : P2) : ori a b c = 1 ↔ 0 < ori a b c := by
  by_cases h : okQ a ∧ okQ b ∧ okQ c
  · rw [ori_ok h]
    rcases sgn_cases (cr a b c) with ⟨k, e⟩ | ⟨k, e⟩ | ⟨k, e⟩ <;> rw [e] <;> omega
  · unfold ori oriV; rw [if_neg h]; omega
/-- A convex polygon. -/
def okCvx (ps : List P2) : Prop := 3 ≤ ps.length ∧ ps.length ≤ 8 ∧ okPts ps ∧ Edg ps
noncomputable instance (ps : List P2) : Decidable (okCvx ps) := Classical.propDecidable _
noncomputable instance (ps : List P2) (p : P2) : Decidable (Ins ps p) := Classical.propDecidable _
theorem okPts.cor {ps : List P2} (h : okPts ps) {i : Nat} (hi : i < ps.length) : okQ (cor ps i) := h _ (cor_mem hi)
theorem okPts_cor {ps : List P2} (h : ∀ i, i < ps.length → okQ (cor ps i)) : okPts ps := fun p hp => by obtain ⟨i, hi, rfl⟩ := mem_cor hp; exact h i hi
/-- How many of the first m numbers have the property. -/
def cnt (P : Nat → Prop) [DecidablePred P] : Nat → Nat
  | 0 => 0
  | m + 1 => cnt P m + if P m then 1 else 0
theorem cnt_le (P : Nat → Prop) [DecidablePred P] (m : Nat) : cnt P m ≤ m := by
  induction m with
  | zero => exact Nat.le_refl _
  | succ m ih => unfold cnt; split <;> omega
theorem cnt_three (P : Nat → Prop) [DecidablePred P] {a b c : Nat} (ha : ¬ P a) (hb : ¬ P b) (hc : ¬ P c) (h1 : a ≠ b) (h2 : a ≠ c) (h3 : b ≠ c) (m : Nat) :
    cnt P m + (if a < m then 1 else 0) + (if b < m then 1 else 0) + (if c < m then 1 else 0) ≤ m := by
  induction m with
  | zero => simp [cnt]
  | succ m ih =>
    unfold cnt
    by_cases ea : a = m
    · subst ea; rw [if_neg ha]
      rw [if_neg (by omega)] at ih
      split at ih <;> split at ih <;> (repeat' split) <;> omega
    · by_cases eb : b = m
      · subst eb; rw [if_neg hb]
        split at ih <;> split at ih <;> split at ih <;> (repeat' split) <;> omega
      · by_cases ec : c = m
        · subst ec; rw [if_neg hc]
          split at ih <;> split at ih <;> split at ih <;> (repeat' split) <;> omega
        · split at ih <;> split at ih <;> split at ih <;> (repeat' split) <;> omega
theorem cnt_two (P : Nat → Prop) [DecidablePred P] {a b n : Nat} (ha : ¬ P a) (hb : ¬ P b) (h1 : a ≠ b) (hall : ∀ i, i < n → i ≠ a → i ≠ b → P i) (m : Nat) (hm : m ≤ n) :
    cnt P m + (if a < m then 1 else 0) + (if b < m then 1 else 0) = m := by
  induction m with
  | zero => simp [cnt]
  | succ m ih =>
    have ih := ih (by omega)
    unfold cnt
    by_cases ea : a = m
    · subst ea; rw [if_neg ha]
      split at ih <;> split at ih <;> (repeat' split) <;> omega
    · by_cases eb : b = m
      · subst eb; rw [if_neg hb]
        split at ih <;> split at ih <;> (repeat' split) <;> omega
      · rw [if_pos (hall m (by omega) (Ne.symm ea) (Ne.symm eb))]
        split at ih <;> split at ih <;> (repeat' split) <;> omega
/-- How many corners are left of the line from a to b. -/
def leftN (ps : List P2) (a b : P2) (m : Nat) : Nat := cnt (fun i => 0 < ori a b (cor ps i)) m
theorem nx_ne {ps : List P2} {k : Nat} (hk : k < ps.length) (hn : 2 ≤ ps.length) : nx ps k ≠ k := by rcases nx_cases hk with ⟨_, e⟩ | ⟨_, e⟩ <;> omega
theorem nleft1 (a b : P2) : ¬ 0 < ori a b a := fun h => by have := ((ori_pos _ _ _).1 h).2; rw [cr_same3] at this; omega
theorem nleft2 (a b : P2) : ¬ 0 < ori a b b := fun h => by have := ((ori_pos _ _ _).1 h).2; rw [cr_same2] at this; omega
/-- At every edge as many corners are left of it as there are others. -/
theorem cvx_count {ps : List P2} (h3 : 3 ≤ ps.length) (h8 : ps.length ≤ 8) : (∀ k, k < ps.length → leftN ps (cor ps k) (cor ps (nx ps k)) ps.length = ps.length - 2) ↔ okCvx ps := by
  constructor
  · intro h
    have key : ∀ k j, k < ps.length → j < ps.length → j ≠ k → j ≠ nx ps k → 0 < ori (cor ps k) (cor ps (nx ps k)) (cor ps j) := fun k j hk hj h1 h2 => by
      refine Classical.byContradiction fun q => ?_
      have c := cnt_three (fun i => 0 < ori (cor ps k) (cor ps (nx ps k)) (cor ps i)) (a := k) (b := nx ps k) (c := j) (nleft1 _ _) (nleft2 _ _) q (Ne.symm (nx_ne hk (by omega))) (Ne.symm h1) (Ne.symm h2) ps.length
      rw [if_pos hk, if_pos (nx_lt hk), if_pos hj] at c
      have := h k hk
      unfold leftN at this
      omega
    refine ⟨h3, h8, okPts_cor fun i hi => ?_, fun k j hk hj h1 h2 => ((ori_pos _ _ _).1 (key k j hk hj h1 h2)).2⟩
    -- some other corner
    have : ∃ j, j < ps.length ∧ j ≠ i ∧ j ≠ nx ps i := by
      by_cases e0 : 0 ≠ i ∧ 0 ≠ nx ps i
      · exact ⟨0, by omega, e0.1, e0.2⟩
      · by_cases e1 : 1 ≠ i ∧ 1 ≠ nx ps i
        · exact ⟨1, by omega, e1.1, e1.2⟩
        · exact ⟨2, by omega, by omega, by omega⟩
    obtain ⟨j, hj, h1, h2⟩ := this
    exact ((ori_pos _ _ _).1 (key i j hi hj h1 h2)).1.1
  · rintro ⟨_, _, ho, he⟩ k hk
    have c := cnt_two (fun i => 0 < ori (cor ps k) (cor ps (nx ps k)) (cor ps i)) (a := k) (b := nx ps k) (n := ps.length) (nleft1 _ _) (nleft2 _ _) (Ne.symm (nx_ne hk (by omega)))
      (fun i hi h1 h2 => (ori_pos _ _ _).2 ⟨⟨ho.cor hk, ho.cor (nx_lt hk), ho.cor hi⟩, he k i hk hi h1 h2⟩) ps.length (Nat.le_refl _)
    rw [if_pos hk, if_pos (nx_lt hk)] at c
    unfold leftN
    omega
/-- The document's test. -/
theorem cvx_each {ps : List P2} (h3 : 3 ≤ ps.length) (h8 : ps.length ≤ 8) : (∀ k, k < ps.length → ∀ j, j < ps.length → j ≠ k → j ≠ nx ps k → ori (cor ps k) (cor ps (nx ps k)) (cor ps j) = 1) ↔ okCvx ps := by
  constructor
  · intro h
    refine (cvx_count h3 h8).1 fun k hk => ?_
    have c := cnt_two (fun i => 0 < ori (cor ps k) (cor ps (nx ps k)) (cor ps i)) (a := k) (b := nx ps k) (n := ps.length) (nleft1 _ _) (nleft2 _ _) (Ne.symm (nx_ne hk (by omega)))
      (fun i hi h1 h2 => (ori_one _ _ _).1 (h k hk i hi h1 h2)) ps.length (Nat.le_refl _)
    rw [if_pos hk, if_pos (nx_lt hk)] at c
    unfold leftN
    omega
  · rintro ⟨_, _, ho, he⟩ k hk j hj h1 h2
    exact (ori_one _ _ _).2 ((ori_pos _ _ _).2 ⟨⟨ho.cor hk, ho.cor (nx_lt hk), ho.cor hj⟩, he k j hk hj h1 h2⟩)
theorem okCvx.ccw {ps : List P2} (h : okCvx ps) : Ccw ps := h.2.2.2.ccw
/-- The sum over the first m edges. -/
def sumE (ps : List P2) (o : P2) : Nat → Int
  | 0 => 0
  | m + 1 => sumE ps o m + cr o (cor ps m) (cor ps (nx ps m))
theorem sumE_fan (ps : List P2) (o : P2) : ∀ m, m + 1 ≤ ps.length → sumE ps o m = fan ps o m := by
  intro m
  induction m with
  | zero => intro _; rfl
  | succ m ih =>
    intro h
    unfold sumE fan
    rw [ih (by omega)]
    rcases nx_cases (ps := ps) (k := m) (by omega) with ⟨_, e⟩ | ⟨q, _⟩
    · rw [e]
    · omega
theorem sumE_loop {ps : List P2} (o : P2) (h : 1 ≤ ps.length) : sumE ps o ps.length = loopSum ps o := by
  obtain ⟨n, hn⟩ : ∃ n, ps.length = n + 1 := ⟨ps.length - 1, by omega⟩
  unfold loopSum
  rw [hn]
  show sumE ps o n + _ = _
  rw [sumE_fan ps o n (by omega)]
  rcases nx_cases (ps := ps) (k := n) (by omega) with ⟨q, _⟩ | ⟨_, e⟩
  · omega
  · rw [e]; rfl
theorem okQ.mul {a b : P2} (ha : okQ a) (hb : okQ b) : -800000000 ≤ a.1 * b.2 - a.2 * b.1 ∧ a.1 * b.2 - a.2 * b.1 ≤ 800000000 := by
  unfold okQ okP at ha hb
  have m1 := mul_bd8 (x := a.1) (y := b.2) (by omega) (by omega) (by omega) (by omega)
  have m2 := mul_bd8 (x := a.2) (y := b.1) (by omega) (by omega) (by omega) (by omega)
  omega
end Go.Proofs.Ytkmopgdnaohcdaa
