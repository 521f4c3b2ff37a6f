/- Plain mathematics of clearances: squares of distances from segments and from convex polygons. -/
import Derived.Test.YtgpoknehbadddaaPla8
namespace Go.Proofs.Ytgpoknehbadddaa
set_option maxRecDepth 100000
/-- Small coordinates. -/
def near9 (p : P2) : Prop := (-1000 ≤ p.1 ∧ p.1 ≤ 1000) ∧ -1000 ≤ p.2 ∧ p.2 ≤ 1000
instance (p : P2) : Decidable (near9 p) := by unfold near9; infer_instance
/-- The way from a to p along the way from a to b. -/
def dot9 (p a b : P2) : Int := (p.1 - a.1) * (b.1 - a.1) + (p.2 - a.2) * (b.2 - a.2)
/-- The square of the distance of p from the segment from a to b, rounded down. -/
def segQ (p a b : P2) : Int := if dot9 p a b ≤ 0 then sq2 p a else if sq2 a b ≤ dot9 p a b then sq2 p b else cr a b p * cr a b p / sq2 a b
theorem sq2_swap (a b : P2) : sq2 a b = sq2 b a := by unfold sq2; grind
theorem sq2_same (a : P2) : sq2 a a = 0 := by unfold sq2; grind
theorem dot9_swap (p a b : P2) : dot9 p b a = sq2 a b - dot9 p a b := by unfold dot9 sq2; grind
theorem lagr9 (p a b : P2) : cr a b p * cr a b p + dot9 p a b * dot9 p a b = sq2 p a * sq2 a b := by unfold cr dot9 sq2; grind
theorem far9 (p a b : P2) : sq2 p b = sq2 p a - 2 * dot9 p a b + sq2 a b := by unfold dot9 sq2; grind
theorem near_sq {a b : P2} (ha : near9 a) (hb : near9 b) : 0 ≤ sq2 a b ∧ sq2 a b ≤ 8000000 := by
  unfold near9 at ha hb
  refine ⟨sq2_nonneg a b, ?_⟩
  have m1 := mul_bd (x := a.1 - b.1) (y := a.1 - b.1) (A := 2000) (B := 2000) (by omega) (by omega) (by omega) (by omega)
  have m2 := mul_bd (x := a.2 - b.2) (y := a.2 - b.2) (A := 2000) (B := 2000) (by omega) (by omega) (by omega) (by omega)
  unfold sq2
  omega
theorem near_dot {p a b : P2} (hp : near9 p) (ha : near9 a) (hb : near9 b) : (-4000000 ≤ (p.1 - a.1) * (b.1 - a.1) ∧ (p.1 - a.1) * (b.1 - a.1) ≤ 4000000) ∧ -4000000 ≤ (p.2 - a.2) * (b.2 - a.2) ∧ (p.2 - a.2) * (b.2 - a.2) ≤ 4000000 := by
  unfold near9 at hp ha hb
  exact ⟨mul_bd (A := 2000) (B := 2000) (by omega) (by omega) (by omega) (by omega), mul_bd (A := 2000) (B := 2000) (by omega) (by omega) (by omega) (by omega)⟩
theorem near_cr {p a b : P2} (hp : near9 p) (ha : near9 a) (hb : near9 b) : -8000000 ≤ cr a b p ∧ cr a b p ≤ 8000000 := by
  unfold near9 at hp ha hb
  have m1 := mul_bd (x := b.1 - a.1) (y := p.2 - a.2) (A := 2000) (B := 2000) (by omega) (by omega) (by omega) (by omega)
  have m2 := mul_bd (x := b.2 - a.2) (y := p.1 - a.1) (A := 2000) (B := 2000) (by omega) (by omega) (by omega) (by omega)
  unfold cr
  omega
theorem near_ok {p : P2} (h : near9 p) : okQ p := by unfold near9 at h; unfold okQ okP; omega
theorem segQ_nonneg (p a b : P2) : 0 ≤ segQ p a b := by
  unfold segQ
  split
  · exact sq2_nonneg _ _
  · split
    · exact sq2_nonneg _ _
    · exact Int.ediv_nonneg (by rcases Int.le_total 0 (cr a b p) with h | h; exact Int.mul_nonneg h h; exact Int.mul_nonneg_of_nonpos_of_nonpos h h) (sq2_nonneg _ _)
theorem segQ_swap (p a b : P2) : segQ p b a = segQ p a b := by
  have d := dot9_swap p a b
  have f := far9 p a b
  have n := sq2_nonneg a b
  unfold segQ
  rw [d, sq2_swap b a, cr_swap, Int.neg_mul_neg]
  by_cases h1 : dot9 p a b ≤ 0
  · rw [if_pos h1]
    by_cases h2 : sq2 a b - dot9 p a b ≤ 0
    · rw [if_pos h2]
      have h3 : dot9 p a b = 0 := by omega
      omega
    · rw [if_neg h2, if_pos (by omega)]
  · rw [if_neg h1]
    by_cases h2 : sq2 a b ≤ dot9 p a b
    · rw [if_pos h2, if_pos (by omega)]
    · rw [if_neg h2, if_neg (by omega), if_neg (by omega)]
theorem div_le9 {x y z : Int} (hy : 0 < y) (h : x ≤ z * y) : x / y ≤ z := by
  have k := Int.ediv_le_ediv hy h
  rw [Int.mul_ediv_cancel _ (by omega)] at k
  exact k
theorem sq_nn9 (x : Int) : 0 ≤ x * x := by
  rcases Int.le_total 0 x with h | h
  · exact Int.mul_nonneg h h
  · exact Int.mul_nonneg_of_nonpos_of_nonpos h h
theorem segQ_left (p a b : P2) : segQ p a b ≤ sq2 p a := by
  have f := far9 p a b
  unfold segQ
  split
  · exact Int.le_refl _
  · rename_i h1
    split
    · rename_i h2; omega
    · rename_i h2
      refine div_le9 (by omega) ?_
      have l := lagr9 p a b
      have s := sq_nn9 (dot9 p a b)
      omega
theorem segQ_right (p a b : P2) : segQ p a b ≤ sq2 p b := by
  rw [← segQ_swap]; exact segQ_left p b a
theorem segQ_first (a b : P2) : segQ a a b = 0 := by
  have h : dot9 a a b = 0 := by unfold dot9; grind
  unfold segQ
  rw [if_pos (by omega)]
  exact sq2_same a
theorem segQ_point (p a : P2) : segQ p a a = sq2 p a := by
  have h : dot9 p a a = 0 := by unfold dot9; grind
  unfold segQ
  rw [if_pos (by omega)]
theorem segQ_near {p a b : P2} (hp : near9 p) (ha : near9 a) : segQ p a b ≤ 8000000 := Int.le_trans (segQ_left p a b) (near_sq hp ha).2
/-- The square of the distance from a segment, or -1. -/
def ssV (p a b : P2) : Int := if near9 p ∧ near9 a ∧ near9 b then segQ p a b else -1
theorem ssV_yes {p a b : P2} (hp : near9 p) (ha : near9 a) (hb : near9 b) : ssV p a b = segQ p a b := if_pos ⟨hp, ha, hb⟩
theorem ssV_no {p a b : P2} (h : ¬ (near9 p ∧ near9 a ∧ near9 b)) : ssV p a b = -1 := if_neg h
theorem ssV_bd (p a b : P2) : -1 ≤ ssV p a b ∧ ssV p a b ≤ 8000000 := by
  unfold ssV
  split
  · rename_i h; exact ⟨by have := segQ_nonneg p a b; omega, segQ_near h.1 h.2.1⟩
  · omega
theorem ssV_swap (p a b : P2) : ssV p b a = ssV p a b := by
  by_cases h : near9 p ∧ near9 a ∧ near9 b
  · rw [ssV_yes h.1 h.2.1 h.2.2, ssV_yes h.1 h.2.2 h.2.1, segQ_swap]
  · rw [ssV_no h, ssV_no fun k => h ⟨k.1, k.2.2, k.2.1⟩]
theorem ssV_cases (p a b : P2) : (ssV p a b = -1 ∧ ¬ (near9 p ∧ near9 a ∧ near9 b)) ∨ (0 ≤ ssV p a b ∧ near9 p ∧ near9 a ∧ near9 b ∧ ssV p a b = segQ p a b) := by
  by_cases h : near9 p ∧ near9 a ∧ near9 b
  · exact .inr ⟨by rw [ssV_yes h.1 h.2.1 h.2.2]; exact segQ_nonneg _ _ _, h.1, h.2.1, h.2.2, ssV_yes h.1 h.2.1 h.2.2⟩
  · exact .inl ⟨ssV_no h, h⟩
/-- The least over the first m edges; -1 of none. -/
def minE (ps : List P2) (p : P2) : Nat → Int
  | 0 => -1
  | m + 1 => if minE ps p m < 0 ∨ segQ p (cor ps m) (cor ps (nx ps m)) < minE ps p m then segQ p (cor ps m) (cor ps (nx ps m)) else minE ps p m
theorem minE_spec (ps : List P2) (p : P2) : ∀ m, 1 ≤ m → 0 ≤ minE ps p m ∧ (∀ k, k < m → minE ps p m ≤ segQ p (cor ps k) (cor ps (nx ps k))) ∧ ∃ k, k < m ∧ minE ps p m = segQ p (cor ps k) (cor ps (nx ps k)) := by
  intro m
  induction m with
  | zero => intro h; omega
  | succ m ih =>
    intro _
    have s := segQ_nonneg p (cor ps m) (cor ps (nx ps m))
    by_cases h0 : m = 0
    · subst h0
      have e : minE ps p 1 = segQ p (cor ps 0) (cor ps (nx ps 0)) := if_pos (.inl (by show (-1 : Int) < 0; omega))
      rw [e]
      refine ⟨s, fun k hk => ?_, 0, by omega, rfl⟩
      obtain rfl : k = 0 := by omega
      exact Int.le_refl _
    · obtain ⟨i1, i2, k0, hk0, i3⟩ := ih (by omega)
      unfold minE
      split
      · rename_i h
        refine ⟨s, fun k hk => ?_, m, by omega, rfl⟩
        by_cases e : k = m
        · subst e; exact Int.le_refl _
        · have := i2 k (by omega); omega
      · rename_i h
        refine ⟨i1, fun k hk => ?_, k0, by omega, i3⟩
        by_cases e : k = m
        · subst e; omega
        · exact i2 k (by omega)
theorem minE_eq {ps qs : List P2} {p : P2} {m n : Nat} (hm : 1 ≤ m) (hn : 1 ≤ n) (h1 : ∀ k, k < m → ∃ j, j < n ∧ segQ p (cor qs j) (cor qs (nx qs j)) = segQ p (cor ps k) (cor ps (nx ps k)))
    (h2 : ∀ j, j < n → ∃ k, k < m ∧ segQ p (cor ps k) (cor ps (nx ps k)) = segQ p (cor qs j) (cor qs (nx qs j))) : minE ps p m = minE qs p n := by
  obtain ⟨_, a1, k, hk, a2⟩ := minE_spec ps p m hm
  obtain ⟨_, b1, j, hj, b2⟩ := minE_spec qs p n hn
  obtain ⟨j', hj', e1⟩ := h1 k hk
  obtain ⟨k', hk', e2⟩ := h2 j hj
  have c1 := a1 k' hk'
  have c2 := b1 j' hj'
  omega
theorem minE_trn {ps : List P2} (p : P2) (h : 1 ≤ ps.length) : minE (trn ps) p ps.length = minE ps p ps.length := by
  refine minE_eq h h (fun k hk => ?_) (fun j hj => ?_)
  · refine ⟨nx ps k, nx_lt hk, ?_⟩
    rw [trn_nx, trn_cor hk, trn_cor (nx_lt hk)]
  · obtain ⟨k, hk, e⟩ := pv_ex hj
    refine ⟨k, hk, ?_⟩
    rw [trn_nx, trn_cor hk, trn_cor (nx_lt hk), e]
/-- The square of the distance from a convex polygon, or -1. -/
def okPol9 (ps : List P2) (p : P2) : Prop := okCvx ps ∧ near9 p ∧ ∀ q ∈ ps, near9 q
noncomputable instance (ps : List P2) (p : P2) : Decidable (okPol9 ps p) := Classical.propDecidable _
noncomputable def psV (ps : List P2) (p : P2) : Int := if okPol9 ps p then (if Ins ps p then 0 else minE ps p ps.length) else -1
theorem psV_no {ps : List P2} {p : P2} (h : ¬ okPol9 ps p) : psV ps p = -1 := if_neg h
theorem psV_in {ps : List P2} {p : P2} (h : okPol9 ps p) (hi : Ins ps p) : psV ps p = 0 := by unfold psV; rw [if_pos h, if_pos hi]
theorem psV_out {ps : List P2} {p : P2} (h : okPol9 ps p) (hi : ¬ Ins ps p) : psV ps p = minE ps p ps.length := by unfold psV; rw [if_pos h, if_neg hi]
theorem minE_bd {ps : List P2} {p : P2} (hp : near9 p) (hq : ∀ q ∈ ps, near9 q) (h : 1 ≤ ps.length) : 0 ≤ minE ps p ps.length ∧ minE ps p ps.length ≤ 8000000 := by
  obtain ⟨a, _, k, hk, e⟩ := minE_spec ps p ps.length h
  exact ⟨a, by rw [e]; exact segQ_near hp (hq _ (cor_mem hk))⟩
theorem psV_bd (ps : List P2) (p : P2) : -1 ≤ psV ps p ∧ psV ps p ≤ 8000000 := by
  by_cases h : okPol9 ps p
  · by_cases hi : Ins ps p
    · rw [psV_in h hi]; omega
    · rw [psV_out h hi]; have := minE_bd h.2.1 h.2.2 (by have := h.1.1; omega); omega
  · rw [psV_no h]; omega
theorem psV_neg {ps : List P2} {p : P2} : psV ps p < 0 ↔ ¬ okPol9 ps p := by
  by_cases h : okPol9 ps p
  · refine ⟨fun k => ?_, fun k => absurd h k⟩
    by_cases hi : Ins ps p
    · rw [psV_in h hi] at k; omega
    · rw [psV_out h hi] at k; have := minE_bd h.2.1 h.2.2 (by have := h.1.1; omega); omega
  · rw [psV_no h]; exact ⟨fun _ => h, fun _ => by omega⟩
theorem okPol9.trn {ps : List P2} {p : P2} (h : okPol9 ps p) : okPol9 (trn ps) p := ⟨h.1.trn, h.2.1, fun q hq => h.2.2 q (trn_mem hq)⟩
theorem psV_trn {ps : List P2} {p : P2} (h : okPol9 ps p) : psV (trn ps) p = psV ps p := by
  by_cases hi : Ins ps p
  · rw [psV_in h hi, psV_in h.trn ((ins_trn p).2 hi)]
  · rw [psV_out h hi, psV_out h.trn (fun k => hi ((ins_trn p).1 k)), trn_len, minE_trn p (by have := h.1.1; omega)]
theorem psV_edge {ps : List P2} {p : P2} (h : okPol9 ps p) {k : Nat} (hk : k < ps.length) : psV ps p ≤ ssV p (cor ps k) (cor ps (nx ps k)) := by
  rw [ssV_yes h.2.1 (h.2.2 _ (cor_mem hk)) (h.2.2 _ (cor_mem (nx_lt hk)))]
  by_cases hi : Ins ps p
  · rw [psV_in h hi]; exact segQ_nonneg _ _ _
  · rw [psV_out h hi]; exact (minE_spec ps p ps.length (by omega)).2.1 k hk
/-- A point keeps a distance from obstacles. -/
def clr9 (obs : List (List P2)) (p : P2) (d : Int) : Prop := obs.length ≤ 8 ∧ (0 ≤ d ∧ d ≤ 1000) ∧ ∀ o ∈ obs, okPol9 o p ∧ d * d ≤ psV o p
noncomputable instance (obs : List (List P2)) (p : P2) (d : Int) : Decidable (clr9 obs p d) := Classical.propDecidable _
theorem clr9_less {obs : List (List P2)} {p : P2} {d e : Int} (h : clr9 obs p d) (h0 : 0 ≤ e) (h1 : e ≤ d) : clr9 obs p e := by
  refine ⟨h.1, ⟨h0, by have := h.2.1.2; omega⟩, fun o ho => ⟨(h.2.2 o ho).1, Int.le_trans ?_ (h.2.2 o ho).2⟩⟩
  exact Int.mul_le_mul h1 h1 h0 (by omega)
theorem clr9_none (p : P2) {d : Int} (h0 : 0 ≤ d) (h1 : d ≤ 1000) : clr9 [] p d := ⟨by simp, ⟨h0, h1⟩, fun o ho => by cases ho⟩
theorem clr9_one {ps : List P2} {p : P2} {d : Int} (h : okPol9 ps p) (h0 : 0 ≤ d) (h1 : d ≤ 1000) : clr9 [ps] p d ↔ d * d ≤ psV ps p := by
  constructor
  · intro k; exact (k.2.2 ps (by simp)).2
  · intro k
    exact ⟨by simp, ⟨h0, h1⟩, fun o ho => by rw [List.mem_singleton.1 ho]; exact ⟨h, k⟩⟩
end Go.Proofs.Ytgpoknehbadddaa
