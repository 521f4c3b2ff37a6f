/- Plain mathematics of points in whole numbers: cross products, convex lists of corners. -/
import Derived.Test.YtkmopgdnaohcdaaNum2
namespace Go.Proofs.Ytkmopgdnaohcdaa
set_option maxRecDepth 100000
/-- A point in whole numbers. -/
abbrev P2 := Int × Int
/-- The cross product of b - a and c - a. -/
def cr (a b c : P2) : Int := (b.1 - a.1) * (c.2 - a.2) - (b.2 - a.2) * (c.1 - a.1)
theorem cr_cyc (a b c : P2) : cr b c a = cr a b c := by unfold cr; grind
theorem cr_cyc2 (a b c : P2) : cr c a b = cr a b c := by unfold cr; grind
theorem cr_swap (a b c : P2) : cr b a c = - cr a b c := by unfold cr; grind
theorem cr_swap2 (a b c : P2) : cr a c b = - cr a b c := by unfold cr; grind
theorem cr_same (a b : P2) : cr a a b = 0 := by unfold cr; grind
theorem cr_same2 (a b : P2) : cr a b b = 0 := by unfold cr; grind
theorem cr_same3 (a b : P2) : cr a b a = 0 := by unfold cr; grind
/-- Four points: the areas of two halves. -/
theorem cr_four (a b c d : P2) : cr a b c + cr a c d = cr a b d + cr b c d := by unfold cr; grind
/-- Vectors from one point: the rule of three. -/
theorem cr_rule (o u a b c : P2) : cr o u b * cr o a c = cr o u a * cr o b c + cr o u c * cr o a b := by unfold cr; grind
theorem pos_of_mul {a b : Int} (ha : 0 < a) (h : 0 < a * b) : 0 < b := by
  rcases Int.lt_trichotomy b 0 with k | k | k
  · have := Int.mul_neg_of_pos_of_neg ha k; omega
  · subst k; simp at h
  · exact k
theorem nonneg_of_mul {a b : Int} (ha : 0 < a) (h : 0 ≤ a * b) : 0 ≤ b := by
  rcases Int.lt_or_le b 0 with k | k
  · have := Int.mul_neg_of_pos_of_neg ha k; omega
  · exact k
/-- Left of a half plane's edge the relation 'counterclockwise' is transitive. -/
theorem cr_trans {o u a b c : P2} (hu : 0 < cr o u b) (ha : 0 ≤ cr o u a) (hc : 0 < cr o u c) (h1 : 0 < cr o a b) (h2 : 0 ≤ cr o b c) : 0 < cr o a c := by
  have e := cr_rule o u a b c
  have k1 : 0 ≤ cr o u a * cr o b c := Int.mul_nonneg ha h2
  have k2 : 0 < cr o u c * cr o a b := Int.mul_pos hc h1
  exact pos_of_mul hu (by omega)
theorem cr_trans' {o u a b c : P2} (hu : 0 < cr o u b) (ha : 0 < cr o u a) (hc : 0 ≤ cr o u c) (h1 : 0 ≤ cr o a b) (h2 : 0 < cr o b c) : 0 < cr o a c := by
  have e := cr_rule o u a b c
  have k1 : 0 < cr o u a * cr o b c := Int.mul_pos ha h2
  have k2 : 0 ≤ cr o u c * cr o a b := Int.mul_nonneg hc h1
  exact pos_of_mul hu (by omega)
theorem cr_trans0 {o u a b c : P2} (hu : 0 < cr o u b) (ha : 0 ≤ cr o u a) (hc : 0 ≤ cr o u c) (h1 : 0 ≤ cr o a b) (h2 : 0 ≤ cr o b c) : 0 ≤ cr o a c := by
  have e := cr_rule o u a b c
  have k1 : 0 ≤ cr o u a * cr o b c := Int.mul_nonneg ha h2
  have k2 : 0 ≤ cr o u c * cr o a b := Int.mul_nonneg hc h1
  exact nonneg_of_mul hu (by omega)
/-- The i-th corner. -/
def cor (ps : List P2) (i : Nat) : P2 := ps.getD i (0, 0)
/-- Every three corners, in their order, turn left. -/
def Ccw (ps : List P2) : Prop := ∀ i j k, i < j → j < k → k < ps.length → 0 < cr (cor ps i) (cor ps j) (cor ps k)
/-- Every corner that is not on an edge lies to its left. -/
def Edg (ps : List P2) : Prop := ∀ k j, k < ps.length → j < ps.length → j ≠ k → j ≠ (k + 1) % ps.length → 0 < cr (cor ps k) (cor ps ((k + 1) % ps.length)) (cor ps j)
theorem Edg.ccw {ps : List P2} (h : Edg ps) : Ccw ps := by
  intro i j k hij hjk hk
  -- from corner i all later ones are seen in their order
  have edge : ∀ m l, m + 1 < ps.length → l < ps.length → l ≠ m → l ≠ m + 1 → 0 < cr (cor ps m) (cor ps (m + 1)) (cor ps l) := by
    intro m l h1 h2 h3 h4
    have := h m l (by omega) h2 h3 (by rw [Nat.mod_eq_of_lt h1]; exact h4)
    rw [Nat.mod_eq_of_lt h1] at this
    exact this
  have base : ∀ l, i + 1 < l → l < ps.length → 0 < cr (cor ps i) (cor ps (i + 1)) (cor ps l) := fun l h1 h2 => edge i l (by omega) h2 (by omega) (by omega)
  have step : ∀ l, i < l → l + 1 < ps.length → 0 < cr (cor ps i) (cor ps l) (cor ps (l + 1)) := fun l h1 h2 => by
    have := edge l i h2 (by omega) (by omega) (by omega)
    rw [cr_cyc] at this
    exact this
  have key : ∀ d j, i < j → j + d + 1 < ps.length → 0 < cr (cor ps i) (cor ps j) (cor ps (j + d + 1)) := by
    intro d
    induction d with
    | zero => intro j h1 h2; exact step j h1 h2
    | succ d ih =>
      intro j h1 h2
      have a1 := ih j h1 (by omega)
      have a2 := step (j + d + 1) (by omega) (by omega)
      by_cases hj : j = i + 1
      · subst hj
        exact base _ (by omega) (by omega)
      · exact cr_trans (u := cor ps (i + 1)) (base _ (by omega) (by omega)) (Int.le_of_lt (base _ (by omega) (by omega))) (base _ (by omega) (by omega)) a1 (Int.le_of_lt a2)
  have := key (k - j - 1) j hij (by omega)
  rw [show j + (k - j - 1) + 1 = k by omega] at this
  exact this
theorem Ccw.edg {ps : List P2} (h : Ccw ps) : Edg ps := by
  intro k j hk hj h1 h2
  by_cases hl : k + 1 < ps.length
  · rw [Nat.mod_eq_of_lt hl] at h2 ⊢
    rcases Nat.lt_or_ge j k with q | q
    · have := h j k (k + 1) q (by omega) hl
      rw [← cr_cyc] at this
      exact this
    · exact h k (k + 1) j (by omega) (by omega) hj
  · have e : k + 1 = ps.length := by omega
    rw [e, Nat.mod_self] at h2 ⊢
    have := h 0 j k (by omega) (by omega) hk
    rw [← cr_cyc2] at this
    exact this
theorem edg_iff (ps : List P2) : Edg ps ↔ Ccw ps := ⟨Edg.ccw, Ccw.edg⟩
/-- Twice the area of the fan of triangles at o: the sum over m edges from corner 0 on. -/
def fan (ps : List P2) (o : P2) : Nat → Int
  | 0 => 0
  | m + 1 => fan ps o m + cr o (cor ps m) (cor ps (m + 1))
/-- The fan from another point: the border's ends alone count. -/
theorem fan_move (ps : List P2) (o q : P2) : ∀ m, fan ps o m = fan ps q m + cr o (cor ps 0) q - cr o (cor ps m) q := by
  intro m
  induction m with
  | zero => unfold fan; omega
  | succ m ih =>
    unfold fan
    rw [ih]
    have e : cr o (cor ps m) (cor ps (m + 1)) + cr o (cor ps (m + 1)) q = cr o (cor ps m) q + cr q (cor ps m) (cor ps (m + 1)) := by
      unfold cr; grind
    omega
/-- All edges, the last one back to the first corner. -/
def loopSum (ps : List P2) (o : P2) : Int := fan ps o (ps.length - 1) + cr o (cor ps (ps.length - 1)) (cor ps 0)
/-- The sum of the triangles does not depend on the point. -/
theorem loopSum_move (ps : List P2) (o q : P2) : loopSum ps o = loopSum ps q := by
  unfold loopSum
  rw [fan_move ps o q]
  have e : cr o (cor ps 0) q - cr o (cor ps (ps.length - 1)) q + cr o (cor ps (ps.length - 1)) (cor ps 0) = cr q (cor ps (ps.length - 1)) (cor ps 0) := by
    unfold cr; grind
  omega
/-- A point is inside or on the border. -/
def Ins (ps : List P2) (p : P2) : Prop := ∀ k, k < ps.length → 0 ≤ cr (cor ps k) (cor ps ((k + 1) % ps.length)) p
theorem Ins.fwd {ps : List P2} {p : P2} (h : Ins ps p) {k : Nat} (hk : k + 1 < ps.length) : 0 ≤ cr p (cor ps k) (cor ps (k + 1)) := by
  have := h k (by omega)
  rw [Nat.mod_eq_of_lt hk, cr_cyc] at this
  exact this
theorem Ins.back {ps : List P2} {p : P2} (h : Ins ps p) (hn : 1 ≤ ps.length) : 0 ≤ cr p (cor ps (ps.length - 1)) (cor ps 0) := by
  have := h (ps.length - 1) (by omega)
  rw [show ps.length - 1 + 1 = ps.length by omega, Nat.mod_self, cr_cyc] at this
  exact this
theorem Ccw.corner {ps : List P2} (h : Ccw ps) {j : Nat} (hj : j < ps.length) : Ins ps (cor ps j) := by
  intro k hk
  by_cases h1 : j = k
  · subst h1; rw [cr_same3]; omega
  · by_cases h2 : j = (k + 1) % ps.length
    · rw [← h2, cr_same2]; omega
    · exact Int.le_of_lt (h.edg k j hk hj h1 h2)
/-- A linear map, by its two coefficients, of the way from o to p. -/
def lin (u o p : P2) : Int := u.1 * (p.1 - o.1) + u.2 * (p.2 - o.2)
theorem lin_rule (u o a b c : P2) : lin u o b * cr o a c = lin u o a * cr o b c + lin u o c * cr o a b := by unfold lin cr; grind
/-- Where a linear map is positive at all corners but 0 at the point, the point is not inside a polygon with an area. -/
theorem not_ins {ps : List P2} {p u : P2} (hn : 1 ≤ ps.length) (hu : ∀ k, k < ps.length → 0 < lin u p (cor ps k)) (hi : Ins ps p) (ha : 0 < loopSum ps p) : False := by
  -- from the first corner on, all are turned to the left, weakly; and strictly behind the first strict edge
  have weak : ∀ k, k < ps.length → 0 ≤ cr p (cor ps 0) (cor ps k) ∧ (0 < fan ps p k → 0 < cr p (cor ps 0) (cor ps k)) := by
    intro k
    induction k with
    | zero => intro _; rw [cr_same2]; exact ⟨Int.le_refl _, fun h => by unfold fan at h; omega⟩
    | succ k ih =>
      intro hk
      obtain ⟨i1, i2⟩ := ih (by omega)
      have e1 := hi.fwd hk
      have r := lin_rule u p (cor ps 0) (cor ps k) (cor ps (k + 1))
      have p0 := hu 0 (by omega)
      have p1 := hu k (by omega)
      have p2 := hu (k + 1) hk
      have n1 : 0 ≤ lin u p (cor ps 0) * cr p (cor ps k) (cor ps (k + 1)) := Int.mul_nonneg (Int.le_of_lt p0) e1
      have n2 : 0 ≤ lin u p (cor ps (k + 1)) * cr p (cor ps 0) (cor ps k) := Int.mul_nonneg (Int.le_of_lt p2) i1
      refine ⟨nonneg_of_mul p1 (by omega), fun hf => ?_⟩
      unfold fan at hf
      rcases Int.lt_or_le 0 (cr p (cor ps k) (cor ps (k + 1))) with q | q
      · have n3 : 0 < lin u p (cor ps 0) * cr p (cor ps k) (cor ps (k + 1)) := Int.mul_pos p0 q
        exact pos_of_mul p1 (by omega)
      · have n4 : 0 < lin u p (cor ps (k + 1)) * cr p (cor ps 0) (cor ps k) := Int.mul_pos p2 (i2 (by omega))
        exact pos_of_mul p1 (by omega)
  have last := weak (ps.length - 1) (by omega)
  have b := hi.back hn
  have e : cr p (cor ps (ps.length - 1)) (cor ps 0) = - cr p (cor ps 0) (cor ps (ps.length - 1)) := cr_swap2 _ _ _
  unfold loopSum at ha
  rcases Int.lt_or_le 0 (fan ps p (ps.length - 1)) with q | q
  · have := last.2 q; omega
  · omega
/-- The area of a list of corners that turn left is positive. -/
theorem Ccw.area {ps : List P2} (h : Ccw ps) (hn : 3 ≤ ps.length) (p : P2) : 0 < loopSum ps p := by
  rw [loopSum_move ps p (cor ps 0)]
  have key : ∀ m, m < ps.length → 0 ≤ fan ps (cor ps 0) m ∧ (2 ≤ m → 0 < fan ps (cor ps 0) m) := by
    intro m
    induction m with
    | zero => intro _; exact ⟨by unfold fan; omega, fun k => by omega⟩
    | succ m ih =>
      intro hm
      obtain ⟨i1, i2⟩ := ih (by omega)
      unfold fan
      by_cases h0 : m = 0
      · subst h0; rw [cr_same]; exact ⟨by omega, fun k => by omega⟩
      · have := h 0 m (m + 1) (by omega) (by omega) hm
        exact ⟨by omega, fun _ => by omega⟩
  unfold loopSum
  rw [cr_same3]
  have := (key (ps.length - 1) (by omega)).2 (by omega)
  omega
end Go.Proofs.Ytkmopgdnaohcdaa
