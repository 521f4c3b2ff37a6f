/- Plain mathematics of segments and convex polygons that meet. -/
import Derived.Test.YtkmopgdnaohcdaaGeo8
namespace Go.Proofs.Ytkmopgdnaohcdaa
set_option maxRecDepth 100000
/-- p is in the box of a and b. -/
def OnB (a b p : P2) : Prop := (min a.1 b.1 ≤ p.1 ∧ p.1 ≤ max a.1 b.1) ∧ min a.2 b.2 ≤ p.2 ∧ p.2 ≤ max a.2 b.2
instance (a b p : P2) : Decidable (OnB a b p) := by unfold OnB; infer_instance
/-- The segments from a to b and from c to d have a common point. -/
def Meet (a b c d : P2) : Prop :=
  (sgn (cr a b c) ≠ sgn (cr a b d) ∧ sgn (cr c d a) ≠ sgn (cr c d b)) ∨ (cr a b c = 0 ∧ OnB a b c) ∨ (cr a b d = 0 ∧ OnB a b d) ∨ (cr c d a = 0 ∧ OnB c d a) ∨ (cr c d b = 0 ∧ OnB c d b)
instance (a b c d : P2) : Decidable (Meet a b c d) := by unfold Meet; infer_instance
theorem OnB.swap {a b p : P2} (h : OnB a b p) : OnB b a p := by unfold OnB at *; omega
theorem sgn_neg7 (n : Int) : sgn (-n) = - sgn n := by unfold sgn; split <;> split <;> (try split) <;> (try split) <;> omega
theorem Meet.symm {a b c d : P2} (h : Meet a b c d) : Meet c d a b := by
  rcases h with ⟨h1, h2⟩ | h | h | h | h
  · exact .inl ⟨h2, h1⟩
  · exact .inr (.inr (.inr (.inl h)))
  · exact .inr (.inr (.inr (.inr h)))
  · exact .inr (.inl h)
  · exact .inr (.inr (.inl h))
theorem Meet.swap {a b c d : P2} (h : Meet a b c d) : Meet b a c d := by
  rcases h with ⟨h1, h2⟩ | h | h | h | h
  · refine .inl ⟨?_, h2.symm⟩
    rw [cr_swap a b c, cr_swap a b d, sgn_neg7, sgn_neg7]
    omega
  · exact .inr (.inl ⟨by rw [cr_swap a b c]; omega, h.2.swap⟩)
  · exact .inr (.inr (.inl ⟨by rw [cr_swap a b d]; omega, h.2.swap⟩))
  · exact .inr (.inr (.inr (.inr h)))
  · exact .inr (.inr (.inr (.inl h)))
theorem meet_symm (a b c d : P2) : Meet a b c d ↔ Meet c d a b := ⟨Meet.symm, Meet.symm⟩
theorem meet_swap (a b c d : P2) : Meet a b c d ↔ Meet b a c d := ⟨Meet.swap, Meet.swap⟩
theorem OnB.left (a b : P2) : OnB a b a := by unfold OnB; omega
theorem OnB.right (a b : P2) : OnB a b b := by unfold OnB; omega
/-- A common end. -/
theorem meet_end (a b c : P2) : Meet a b b c := .inr (.inl ⟨cr_same2 a b, OnB.right a b⟩)
/-- The middle of a segment, if it is exact. -/
theorem meet_mid {a b m : P2} (h1 : m.1 + m.1 = a.1 + b.1) (h2 : m.2 + m.2 = a.2 + b.2) : Meet a b m m := by
  refine .inr (.inl ⟨?_, by unfold OnB; omega⟩)
  have e1 : b.1 = m.1 + m.1 - a.1 := by omega
  have e2 : b.2 = m.2 + m.2 - a.2 := by omega
  unfold cr
  rw [e1, e2]
  grind
/-- Of the numbers i < n with M i > 0 one has the least N i / M i. -/
theorem least_ratio (N M : Nat → Int) : ∀ n : Nat, (∃ i, i < n ∧ 0 < M i) → ∃ j, j < n ∧ 0 < M j ∧ ∀ i, i < n → 0 < M i → N j * M i ≤ N i * M j := by
  intro n
  induction n with
  | zero => rintro ⟨i, hi, _⟩; omega
  | succ n ih =>
    rintro ⟨i, hi, hm⟩
    by_cases hex : ∃ i, i < n ∧ 0 < M i
    · obtain ⟨j, hj, mj, hall⟩ := ih hex
      by_cases hn : 0 < M n ∧ N n * M j < N j * M n
      · refine ⟨n, by omega, hn.1, fun i hi hmi => ?_⟩
        rcases Nat.lt_or_ge i n with q | q
        · have h1 := hall i q hmi
          -- N n * M j < N j * M n and N j * M i ≤ N i * M j
          have a1 : (N n * M i) * M j ≤ (N i * M n) * M j := by
            have b1 : (N n * M j) * M i ≤ (N j * M n) * M i := Int.mul_le_mul_of_nonneg_right (Int.le_of_lt hn.2) (Int.le_of_lt hmi)
            have b2 : (N j * M i) * M n ≤ (N i * M j) * M n := Int.mul_le_mul_of_nonneg_right h1 (Int.le_of_lt hn.1)
            have e1 : (N n * M i) * M j = (N n * M j) * M i := by grind
            have e2 : (N j * M n) * M i = (N j * M i) * M n := by grind
            have e3 : (N i * M n) * M j = (N i * M j) * M n := by grind
            omega
          exact Int.le_of_mul_le_mul_right a1 mj
        · have : i = n := by omega
          subst this; exact Int.le_refl _
      · refine ⟨j, by omega, mj, fun i hi hmi => ?_⟩
        rcases Nat.lt_or_ge i n with q | q
        · exact hall i q hmi
        · have : i = n := by omega
          subst this
          exact Int.not_lt.1 fun q => hn ⟨hmi, q⟩
    · have : i = n := by
        rcases Nat.lt_or_ge i n with q | q
        · exact absurd ⟨i, q, hm⟩ hex
        · omega
      subst this
      refine ⟨i, hi, hm, fun k hk hmk => ?_⟩
      have : k = i := by
        rcases Nat.lt_or_ge k i with q | q
        · exact absurd ⟨k, q, hmk⟩ hex
        · omega
      subst this
      exact Int.le_refl _
theorem sgn_ne {p q : Int} (h1 : p ≤ 0) (h2 : 0 ≤ q) (h3 : p ≠ q) : sgn p ≠ sgn q := by unfold sgn; split <;> split <;> (try split) <;> (try split) <;> omega
/-- The corner ahead and the corner behind. -/
def nx (ps : List P2) (k : Nat) : Nat := (k + 1) % ps.length
theorem nx_lt {ps : List P2} {k : Nat} (h : k < ps.length) : nx ps k < ps.length := Nat.mod_lt _ (by omega)
theorem nx_cases {ps : List P2} {k : Nat} (h : k < ps.length) : (k + 1 < ps.length ∧ nx ps k = k + 1) ∨ (k + 1 = ps.length ∧ nx ps k = 0) := by
  unfold nx
  by_cases q : k + 1 < ps.length
  · exact .inl ⟨q, Nat.mod_eq_of_lt q⟩
  · exact .inr ⟨by omega, by rw [show k + 1 = ps.length by omega, Nat.mod_self]⟩
theorem pv_ex {ps : List P2} {k : Nat} (h : k < ps.length) : ∃ a, a < ps.length ∧ nx ps a = k := by
  by_cases h0 : k = 0
  · exact ⟨ps.length - 1, by omega, by unfold nx; rw [show ps.length - 1 + 1 = ps.length by omega, Nat.mod_self, h0]⟩
  · exact ⟨k - 1, by omega, by unfold nx; rw [show k - 1 + 1 = k by omega, Nat.mod_eq_of_lt h]⟩
/-- A segment that leaves a convex polygon meets an edge. -/
theorem leaves {ps : List P2} (hc : Ccw ps) (hn : 3 ≤ ps.length) {x y : P2} (hx : Ins ps x) (hy : ¬ Ins ps y) : ∃ j, j < ps.length ∧ Meet x y (cor ps j) (cor ps (nx ps j)) := by
  have hex : ∃ i, i < ps.length ∧ 0 < - cr (cor ps i) (cor ps (nx ps i)) y := by
    refine Classical.byContradiction fun q => hy fun k hk => ?_
    rcases Int.lt_or_le (cr (cor ps k) (cor ps ((k + 1) % ps.length)) y) 0 with z | z
    · exact absurd ⟨k, hk, (show 0 < - cr (cor ps k) (cor ps (nx ps k)) y by unfold nx; omega)⟩ q
    · exact z
  obtain ⟨j, hj, mj, hall⟩ := least_ratio (fun i => cr (cor ps i) (cor ps (nx ps i)) x) (fun i => - cr (cor ps i) (cor ps (nx ps i)) y) ps.length hex
  have hxi : ∀ i, i < ps.length → 0 ≤ cr (cor ps i) (cor ps (nx ps i)) x := fun i hi => hx i hi
  -- at the place where it leaves, no edge is behind
  have hz : ∀ i, i < ps.length → 0 ≤ cr (cor ps i) (cor ps (nx ps i)) x * (- cr (cor ps j) (cor ps (nx ps j)) y) + cr (cor ps i) (cor ps (nx ps i)) y * cr (cor ps j) (cor ps (nx ps j)) x := by
    intro i hi
    have a1 := hxi i hi
    have a2 := hxi j hj
    rcases Int.lt_or_le 0 (- cr (cor ps i) (cor ps (nx ps i)) y) with q | q
    · have := hall i hi q
      have e : cr (cor ps i) (cor ps (nx ps i)) y * cr (cor ps j) (cor ps (nx ps j)) x = - (cr (cor ps j) (cor ps (nx ps j)) x * (- cr (cor ps i) (cor ps (nx ps i)) y)) := by grind
      omega
    · have k1 := Int.mul_nonneg a1 (Int.le_of_lt mj)
      have k2 : 0 ≤ cr (cor ps i) (cor ps (nx ps i)) y * cr (cor ps j) (cor ps (nx ps j)) x := Int.mul_nonneg (by omega) a2
      omega
  obtain ⟨a, ha, ea⟩ := pv_ex hj
  have hnj := nx_lt hj
  -- the two corners of the edge are on both sides of the segment
  have hne : ∀ k, k < ps.length → nx ps k ≠ k := fun k hk => by rcases nx_cases hk with q | q <;> omega
  have hne2 : ∀ k, k < ps.length → nx ps (nx ps k) ≠ k := fun k hk => by
    have hk2 := nx_lt hk
    rcases nx_cases hk with q | q <;> rcases nx_cases hk2 with r | r <;> omega
  have c1 : 0 < cr (cor ps a) (cor ps j) (cor ps (nx ps j)) := by
    have := hc.edg a (nx ps j) ha hnj (by rw [← ea]; exact hne2 a ha) (by show nx ps j ≠ nx ps a; rw [ea]; exact hne j hj)
    change 0 < cr (cor ps a) (cor ps (nx ps a)) _ at this
    rw [ea] at this
    exact this
  have c2 : 0 < cr (cor ps (nx ps j)) (cor ps (nx ps (nx ps j))) (cor ps j) := hc.edg (nx ps j) j hnj hj (hne j hj).symm (fun e => hne2 j hj e.symm)
  have z1 := hz a ha
  have z2 := hz (nx ps j) hnj
  rw [ea] at z1
  have hBx : 0 ≤ cr (cor ps j) (cor ps (nx ps j)) x := hxi j hj
  refine ⟨j, hj, ?_⟩
  clear hxi hz hall hne hne2
  generalize cor ps a = A at *
  generalize cor ps j = B at *
  generalize cor ps (nx ps j) = C at *
  generalize cor ps (nx ps (nx ps j)) = D at *
  have i1 : cr A B x * (- cr B C y) + cr A B y * cr B C x = cr A B C * (- cr x y B) := by unfold cr; grind
  have i2 : cr C D x * (- cr B C y) + cr C D y * cr B C x = cr C D B * cr x y C := by unfold cr; grind
  have i3 : cr x y C - cr x y B = cr B C x - cr B C y := by unfold cr; grind
  rw [i1] at z1
  rw [i2] at z2
  have p1 := nonneg_of_mul c1 z1
  have p2 := nonneg_of_mul c2 z2
  refine .inl ⟨sgn_ne (by omega) p2 (by omega), ?_⟩
  exact (sgn_ne (by omega) hBx (by omega)).symm
/-- Where no edges meet, all corners are inside if one is. -/
theorem all_ins {as bs : List P2} (hb : Ccw bs) (nb : 3 ≤ bs.length) (hno : ∀ k j, k < as.length → j < bs.length → ¬ Meet (cor as k) (cor as (nx as k)) (cor bs j) (cor bs (nx bs j))) {k : Nat} (hk : k < as.length) (hi : Ins bs (cor as k)) :
    ∀ m, m < as.length → Ins bs (cor as m) := by
  have step : ∀ k, k < as.length → Ins bs (cor as k) → Ins bs (cor as (nx as k)) := fun k hk hi => by
    refine Classical.byContradiction fun q => ?_
    obtain ⟨j, hj, hm⟩ := leaves hb nb hi q
    exact hno k j hk hj hm
  have fwd : ∀ d, k + d < as.length → Ins bs (cor as (k + d)) := by
    intro d
    induction d with
    | zero => intro _; exact hi
    | succ d ih =>
      intro h
      have := step (k + d) (by omega) (ih (by omega))
      rcases nx_cases (ps := as) (k := k + d) (by omega) with q | q
      · rw [q.2] at this; exact this
      · omega
  have first : Ins bs (cor as 0) := by
    have h1 := fwd (as.length - 1 - k) (by omega)
    have := step _ (by omega) h1
    rcases nx_cases (ps := as) (k := k + (as.length - 1 - k)) (by omega) with q | q
    · omega
    · rw [q.2] at this; exact this
  intro m
  induction m with
  | zero => intro _; exact first
  | succ m ih =>
    intro h
    have := step m (by omega) (ih (by omega))
    rcases nx_cases (ps := as) (k := m) (by omega) with q | q
    · rw [q.2] at this; exact this
    · omega
/-- Two convex polygons have a common point. -/
def CMeet (as bs : List P2) : Prop :=
  (∃ k, k < as.length ∧ ((Ins bs (cor as k) ∨ Ins bs (cor as (nx as k))) ∨ ∃ j, j < bs.length ∧ Meet (cor as k) (cor as (nx as k)) (cor bs j) (cor bs (nx bs j)))) ∨ Ins as (cor bs 0)
theorem CMeet.symm {as bs : List P2} (na : 3 ≤ as.length) (hb : Ccw bs) (nb : 3 ≤ bs.length) (h : CMeet as bs) : CMeet bs as := by
  by_cases hex : ∃ k j, k < as.length ∧ j < bs.length ∧ Meet (cor as k) (cor as (nx as k)) (cor bs j) (cor bs (nx bs j))
  · obtain ⟨k, j, hk, hj, hm⟩ := hex
    exact .inl ⟨j, hj, .inr ⟨k, hk, hm.symm⟩⟩
  · have hno : ∀ k j, k < as.length → j < bs.length → ¬ Meet (cor as k) (cor as (nx as k)) (cor bs j) (cor bs (nx bs j)) := fun k j hk hj hm => hex ⟨k, j, hk, hj, hm⟩
    rcases h with ⟨k, hk, (h | h) | ⟨j, hj, hm⟩⟩ | h
    · exact .inr (all_ins hb nb hno hk h 0 (by omega))
    · exact .inr (all_ins hb nb hno (nx_lt hk) h 0 (by omega))
    · exact absurd hm (hno k j hk hj)
    · exact .inl ⟨0, by omega, .inl (.inl h)⟩
theorem cmeet_symm {as bs : List P2} (ha : Ccw as) (na : 3 ≤ as.length) (hb : Ccw bs) (nb : 3 ≤ bs.length) : CMeet as bs ↔ CMeet bs as := ⟨CMeet.symm na hb nb, CMeet.symm nb ha na⟩
theorem cmeet_corner {as bs : List P2} {k : Nat} (hk : k < as.length) (h : Ins bs (cor as k)) : CMeet as bs := .inl ⟨k, hk, .inl (.inl h)⟩
theorem cmeet_self {as : List P2} (ha : Ccw as) (na : 3 ≤ as.length) : CMeet as as := cmeet_corner (k := 0) (by omega) (ha.corner (by omega))
end Go.Proofs.Ytkmopgdnaohcdaa
