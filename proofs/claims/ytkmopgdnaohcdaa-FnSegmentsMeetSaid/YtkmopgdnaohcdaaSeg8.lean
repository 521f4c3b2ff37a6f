/- Plain mathematics: the program's test of two segments, by boxes and sides, is the document's. -/
import Derived.Test.YtkmopgdnaohcdaaMon8b
import Derived.Test.YtkmopgdnaohcdaaMee8
namespace Go.Proofs.Ytkmopgdnaohcdaa
set_option maxRecDepth 100000
/-- The boxes have a common number. -/
def spans (a b c d : Int) : Prop := min a b ≤ max c d ∧ min c d ≤ max a b
instance (a b c d : Int) : Decidable (spans a b c d) := by unfold spans; infer_instance
/-- c and d are not both on one side. -/
def parts (a b c d : P2) : Prop := sgn (cr a b c) * sgn (cr a b d) ≤ 0
instance (a b c d : P2) : Decidable (parts a b c d) := by unfold parts; infer_instance
def SM (a b c d : P2) : Prop := spans a.1 b.1 c.1 d.1 ∧ spans a.2 b.2 c.2 d.2 ∧ parts a b c d ∧ parts c d a b
theorem sgn_cases (n : Int) : (0 < n ∧ sgn n = 1) ∨ (n = 0 ∧ sgn n = 0) ∨ (n < 0 ∧ sgn n = -1) := by unfold sgn; split <;> (try split) <;> omega
theorem parts_ne {p q : Int} (h : sgn p ≠ sgn q) : sgn p * sgn q ≤ 0 := by
  rcases sgn_cases p with ⟨_, e⟩ | ⟨_, e⟩ | ⟨_, e⟩ <;> rcases sgn_cases q with ⟨_, f⟩ | ⟨_, f⟩ | ⟨_, f⟩ <;> simp only [e, f] at h ⊢ <;> first | omega | exact absurd rfl h
theorem parts_eq {p q : Int} (h : sgn p = sgn q) (hm : sgn p * sgn q ≤ 0) : p = 0 ∧ q = 0 := by
  rcases sgn_cases p with ⟨_, e⟩ | ⟨z, e⟩ | ⟨_, e⟩ <;> rcases sgn_cases q with ⟨_, f⟩ | ⟨y, f⟩ | ⟨_, f⟩ <;> simp only [e, f] at h hm <;> first | exact ⟨z, y⟩ | omega
theorem parts_mul {p q : Int} (h : p * q ≤ 0) : sgn p * sgn q ≤ 0 := by
  rcases sgn_cases p with ⟨k, e⟩ | ⟨_, e⟩ | ⟨k, e⟩ <;> rcases sgn_cases q with ⟨m, f⟩ | ⟨_, f⟩ | ⟨m, f⟩ <;> rw [e, f] <;> try omega
  · have := Int.mul_pos k m; omega
  · have := Int.mul_pos_of_neg_of_neg k m; omega
theorem spans_symm {a b c d : Int} (h : spans a b c d) : spans c d a b := ⟨h.2, h.1⟩
theorem spans_swap {a b c d : Int} (h : spans a b c d) : spans a b d c := by unfold spans at *; omega
theorem SM.symm {a b c d : P2} (h : SM a b c d) : SM c d a b := ⟨spans_symm h.1, spans_symm h.2.1, h.2.2.2, h.2.2.1⟩
theorem SM.swap {a b c d : P2} (h : SM a b c d) : SM a b d c := by
  refine ⟨spans_swap h.1, spans_swap h.2.1, ?_, ?_⟩
  · have := h.2.2.1; unfold parts at *; rw [Int.mul_comm]; exact this
  · have := h.2.2.2; unfold parts at *; rw [cr_swap c d a, cr_swap c d b, sgn_neg7, sgn_neg7, Int.neg_mul_neg]; exact this
/-- On one line: where one coordinate lies between, the other does. -/
theorem colin {D E t s : Int} (h : D * s = E * t) (hD : 0 < D) (h0 : 0 ≤ t) (h1 : t ≤ D) : min 0 E ≤ s ∧ s ≤ max 0 E := by
  rcases Int.le_total 0 E with hE | hE
  · have a1 := Int.mul_nonneg hE h0
    have a2 : E * t ≤ E * D := Int.mul_le_mul_of_nonneg_left h1 hE
    have b1 : 0 ≤ s := nonneg_of_mul hD (by omega)
    have e : D * (E - s) = E * D - D * s := by grind
    have b2 : 0 ≤ E - s := nonneg_of_mul hD (by omega)
    omega
  · have a1 := Int.mul_nonneg (by omega : 0 ≤ -E) h0
    have a2 : -E * t ≤ -E * D := Int.mul_le_mul_of_nonneg_left h1 (by omega)
    have e1 : D * (-s) = -E * t := by grind
    have b1 : 0 ≤ -s := nonneg_of_mul hD (by omega)
    have e : D * (s - E) = -E * D - D * (-s) := by grind
    have b2 : 0 ≤ s - E := nonneg_of_mul hD (by omega)
    omega
theorem onb_x {a b c : P2} (h : cr a b c = 0) (hne : a.1 ≠ b.1) (h1 : min a.1 b.1 ≤ c.1) (h2 : c.1 ≤ max a.1 b.1) : OnB a b c := by
  refine ⟨⟨h1, h2⟩, ?_⟩
  rcases Int.lt_or_gt_of_ne hne with k | k
  · have e : (b.1 - a.1) * (c.2 - a.2) = (b.2 - a.2) * (c.1 - a.1) := by unfold cr at h; omega
    have := colin e (by omega) (by omega) (by omega)
    omega
  · have e : (a.1 - b.1) * (c.2 - b.2) = (a.2 - b.2) * (c.1 - b.1) := by unfold cr at h; grind
    have := colin e (by omega) (by omega) (by omega)
    omega
theorem line_cr {a b c d : P2} (hne : a ≠ b) (h1 : cr a b c = 0) (h2 : cr a b d = 0) : cr c d a = 0 ∧ cr c d b = 0 := by
  have e1 : (b.1 - a.1) * cr c d a = (c.1 - a.1) * cr a b d - (d.1 - a.1) * cr a b c := by unfold cr; grind
  have e2 : (b.2 - a.2) * cr c d a = (c.2 - a.2) * cr a b d - (d.2 - a.2) * cr a b c := by unfold cr; grind
  have e3 : cr c d b = cr c d a - cr a b d + cr a b c := by unfold cr; grind
  rw [h1, h2, Int.mul_zero, Int.mul_zero] at e1 e2
  have z : cr c d a = 0 := by
    rcases Int.mul_eq_zero.1 (by omega : (b.1 - a.1) * cr c d a = 0) with k | k
    · rcases Int.mul_eq_zero.1 (by omega : (b.2 - a.2) * cr c d a = 0) with m | m
      · exact absurd (Prod.ext (by omega) (by omega)) hne
      · exact m
    · exact k
  exact ⟨z, by omega⟩
theorem sm_line {a b c d : P2} (hx : spans a.1 b.1 c.1 d.1) (hy : spans a.2 b.2 c.2 d.2) (h1 : cr a b c = 0) (h2 : cr a b d = 0) (h3 : parts c d a b) : Meet a b c d := by
  by_cases e : a = b
  · subst e
    have z := (parts_eq (p := cr c d a) rfl h3).1
    refine .inr (.inr (.inr (.inl ⟨z, ?_⟩)))
    unfold spans at hx hy; unfold OnB; omega
  · obtain ⟨z1, z2⟩ := line_cr e h1 h2
    by_cases hu : a.1 = b.1
    · have key : ∀ p : P2, cr a b p = 0 → p.1 = a.1 := fun p hp => by
        unfold cr at hp
        rw [hu, Int.sub_self, Int.zero_mul] at hp
        rcases Int.mul_eq_zero.1 (by omega : (b.2 - a.2) * (p.1 - b.1) = 0) with m | m
        · exact absurd (Prod.ext hu (by omega)) e
        · omega
      have k1 := key c h1
      have k2 := key d h2
      unfold Meet OnB
      unfold spans at hy
      simp only [h1, h2, z1, z2, true_and]
      omega
    · by_cases c1 : min a.1 b.1 ≤ c.1 ∧ c.1 ≤ max a.1 b.1
      · exact .inr (.inl ⟨h1, onb_x h1 hu c1.1 c1.2⟩)
      · by_cases c2 : min a.1 b.1 ≤ d.1 ∧ d.1 ≤ max a.1 b.1
        · exact .inr (.inr (.inl ⟨h2, onb_x h2 hu c2.1 c2.2⟩))
        · unfold spans at hx
          exact .inr (.inr (.inr (.inl ⟨z1, onb_x z1 (by omega) (by omega) (by omega)⟩)))
theorem span_of {a b c d α β γ δ : Int} (h1 : 0 ≤ α) (h2 : 0 ≤ β) (h3 : 0 ≤ γ) (h4 : 0 ≤ δ) (hs : α + β = γ + δ) (hp : 0 < α + β) (he : γ * a + δ * b = α * d + β * c) : min a b ≤ max c d := by
  rcases Int.lt_or_le (max c d) (min a b) with k | k
  · exfalso
    have m1 : α * d ≤ α * max c d := Int.mul_le_mul_of_nonneg_left (by omega) h1
    have m2 : β * c ≤ β * max c d := Int.mul_le_mul_of_nonneg_left (by omega) h2
    have m3 : γ * (max c d + 1) ≤ γ * a := Int.mul_le_mul_of_nonneg_left (by omega) h3
    have m4 : δ * (max c d + 1) ≤ δ * b := Int.mul_le_mul_of_nonneg_left (by omega) h4
    generalize max c d = M at *
    have e1 : α * M + β * M = (α + β) * M := by grind
    have e2 : γ * (M + 1) + δ * (M + 1) = (α + β) * M + (α + β) := by rw [hs]; grind
    omega
  · exact k
theorem spans_of {a b c d α β γ δ : Int} (h1 : 0 ≤ α) (h2 : 0 ≤ β) (h3 : 0 ≤ γ) (h4 : 0 ≤ δ) (hs : α + β = γ + δ) (hp : 0 < α + β) (he : γ * a + δ * b = α * d + β * c) : spans a b c d :=
  ⟨span_of h1 h2 h3 h4 hs hp he, by
    have := span_of (a := c) (b := d) (c := a) (d := b) (α := δ) (β := γ) (γ := β) (δ := α) h4 h3 h2 h1 (by omega) (by omega) (by omega)
    exact this⟩
/-- c on the segment from a to b: they lie on two sides of whatever line through c. -/
theorem on_parts {a b c d : P2} (h : cr a b c = 0) (ho : OnB a b c) : parts c d a b := by
  refine parts_mul ?_
  have hm : (a.1 - c.1) * (b.2 - c.2) = (a.2 - c.2) * (b.1 - c.1) := by unfold cr at h; grind
  have opp : ∀ p q r : Int, min p q ≤ r → r ≤ max p q → (p - r) * (q - r) ≤ 0 := by
    intro p q r h1 h2
    rcases Int.lt_trichotomy p r with k | k | k
    · have := Int.mul_nonneg (a := r - p) (b := q - r) (by omega) (by omega)
      have e : (p - r) * (q - r) = - ((r - p) * (q - r)) := by grind
      omega
    · rw [k, Int.sub_self, Int.zero_mul]; omega
    · have := Int.mul_nonneg (a := p - r) (b := r - q) (by omega) (by omega)
      have e : (p - r) * (q - r) = - ((p - r) * (r - q)) := by grind
      omega
  have hA : (a.1 - c.1) * (b.1 - c.1) ≤ 0 := opp _ _ _ ho.1.1 ho.1.2
  have hB : (a.2 - c.2) * (b.2 - c.2) ≤ 0 := opp _ _ _ ho.2.1 ho.2.2
  have eR : cr c d a = (d.1 - c.1) * (a.2 - c.2) - (d.2 - c.2) * (a.1 - c.1) := rfl
  have eS : cr c d b = (d.1 - c.1) * (b.2 - c.2) - (d.2 - c.2) * (b.1 - c.1) := rfl
  rw [eR, eS]
  clear eR eS h ho
  generalize d.1 - c.1 = e1
  generalize d.2 - c.2 = e2
  generalize a.1 - c.1 = v1 at *
  generalize a.2 - c.2 = v2 at *
  generalize b.1 - c.1 = w1 at *
  generalize b.2 - c.2 = w2 at *
  by_cases zA : v1 * w1 = 0
  · by_cases zB : v2 * w2 = 0
    · have zm : (v1 * w2) * (v1 * w2) = 0 := by
        have : (v1 * w2) * (v1 * w2) = (v1 * w1) * (v2 * w2) := by
          have : (v1 * w2) * (v1 * w2) = (v1 * w2) * (v2 * w1) := by rw [hm]
          rw [this]; grind
        rw [this, zA, Int.zero_mul]
      have zm1 : v1 * w2 = 0 := by rcases Int.mul_eq_zero.1 zm with k | k <;> exact k
      have e : (e1 * v2 - e2 * v1) * (e1 * w2 - e2 * w1) = e1 * e1 * (v2 * w2) + e2 * e2 * (v1 * w1) - e1 * e2 * (v2 * w1) - e1 * e2 * (v1 * w2) := by grind
      rw [e, ← hm, zA, zB, zm1]
      simp
    · have e : (v2 * w2) * ((e1 * v2 - e2 * v1) * (e1 * w2 - e2 * w1)) = (e1 * (v2 * w2) - e2 * (v1 * w2)) * (e1 * (v2 * w2) - e2 * (v1 * w2)) := by grind
      have p := mul_self_nonneg7 (e1 * (v2 * w2) - e2 * (v1 * w2))
      rw [← e] at p
      rcases Int.lt_or_le 0 ((e1 * v2 - e2 * v1) * (e1 * w2 - e2 * w1)) with k | k
      · have := Int.mul_neg_of_neg_of_pos (by omega : v2 * w2 < 0) k; omega
      · exact k
  · have e : (v1 * w1) * ((e1 * v2 - e2 * v1) * (e1 * w2 - e2 * w1)) = (e1 * (v1 * w2) - e2 * (v1 * w1)) * (e1 * (v1 * w2) - e2 * (v1 * w1)) := by grind
    have p := mul_self_nonneg7 (e1 * (v1 * w2) - e2 * (v1 * w1))
    rw [← e] at p
    rcases Int.lt_or_le 0 ((e1 * v2 - e2 * v1) * (e1 * w2 - e2 * w1)) with k | k
    · have := Int.mul_neg_of_neg_of_pos (by omega : v1 * w1 < 0) k; omega
    · exact k
theorem on_sm {a b c d : P2} (h : cr a b c = 0) (ho : OnB a b c) : SM a b c d := by
  refine ⟨?_, ?_, ?_, on_parts h ho⟩
  · unfold OnB at ho; unfold spans; omega
  · unfold OnB at ho; unfold spans; omega
  · unfold parts; rw [h]; simp [sgn]
theorem sgn_ord {p q : Int} (h : sgn p ≠ sgn q) : (0 ≤ p ∧ q ≤ 0 ∧ 0 < p - q) ∨ (p ≤ 0 ∧ 0 ≤ q ∧ 0 < q - p) := by
  rcases sgn_cases p with ⟨_, e⟩ | ⟨_, e⟩ | ⟨_, e⟩ <;> rcases sgn_cases q with ⟨_, f⟩ | ⟨_, f⟩ | ⟨_, f⟩ <;> rw [e, f] at h <;> first | omega | exact absurd rfl h
theorem sm_iff (a b c d : P2) : SM a b c d ↔ Meet a b c d := by
  constructor
  · rintro ⟨hx, hy, h1, h2⟩
    by_cases e1 : sgn (cr a b c) = sgn (cr a b d)
    · obtain ⟨z1, z2⟩ := parts_eq e1 h1
      exact sm_line hx hy z1 z2 h2
    · by_cases e2 : sgn (cr c d a) = sgn (cr c d b)
      · obtain ⟨z1, z2⟩ := parts_eq e2 h2
        exact (sm_line (spans_symm hx) (spans_symm hy) z1 z2 h1).symm
      · exact .inl ⟨e1, e2⟩
  · rintro (⟨h1, h2⟩ | ⟨h, ho⟩ | ⟨h, ho⟩ | ⟨h, ho⟩ | ⟨h, ho⟩)
    · have ex : cr c d b * a.1 + (- cr c d a) * b.1 = cr a b c * d.1 + (- cr a b d) * c.1 := by unfold cr; grind
      have ey : cr c d b * a.2 + (- cr c d a) * b.2 = cr a b c * d.2 + (- cr a b d) * c.2 := by unfold cr; grind
      have ed : cr a b c - cr a b d = cr c d b - cr c d a := by unfold cr; grind
      have q1 := parts_ne h1
      have q2 := parts_ne h2
      have o1 := sgn_ord h1
      have o2 := sgn_ord h2
      refine ⟨?_, ?_, q1, q2⟩
      all_goals
        clear h1 h2 q1 q2
        generalize cr a b c = P at *
        generalize cr a b d = Q at *
        generalize cr c d a = R at *
        generalize cr c d b = S at *
        rcases o1 with ⟨u1, u2, u3⟩ | ⟨u1, u2, u3⟩
      · exact spans_of (α := P) (β := -Q) (γ := S) (δ := -R) u1 (by omega) (by omega) (by omega) (by omega) (by omega) ex
      · exact spans_of (α := -P) (β := Q) (γ := -S) (δ := R) (by omega) (by omega) (by omega) (by omega) (by omega) (by omega) (by grind)
      · exact spans_of (α := P) (β := -Q) (γ := S) (δ := -R) u1 (by omega) (by omega) (by omega) (by omega) (by omega) ey
      · exact spans_of (α := -P) (β := Q) (γ := -S) (δ := R) (by omega) (by omega) (by omega) (by omega) (by omega) (by omega) (by grind)
    · exact on_sm h ho
    · exact (on_sm h ho).swap
    · exact (on_sm h ho).symm
    · exact (on_sm h ho).swap.symm
end Go.Proofs.Ytkmopgdnaohcdaa
