/- Plain mathematics: walking round a set of points from corner to corner gives its hull. -/
import Derived.Test.YtkmopgdnaohcdaaHul8
namespace Go.Proofs.Ytkmopgdnaohcdaa
set_option maxRecDepth 100000
/-- The squared distance. -/
def sq2 (a b : P2) : Int := (a.1 - b.1) * (a.1 - b.1) + (a.2 - b.2) * (a.2 - b.2)
theorem mul_self_nonneg7 (x : Int) : 0 ≤ x * x := by
  rcases Int.le_total 0 x with h | h
  · exact Int.mul_nonneg h h
  · have := Int.mul_nonneg (a := -x) (b := -x) (by omega) (by omega); rw [Int.neg_mul_neg] at this; exact this
theorem sq2_nonneg (a b : P2) : 0 ≤ sq2 a b := by
  unfold sq2; have := mul_self_nonneg7 (a.1 - b.1); have := mul_self_nonneg7 (a.2 - b.2); omega
theorem sq2_pos {a b : P2} (h : a ≠ b) : 0 < sq2 a b := by
  have k1 := mul_self_nonneg7 (a.1 - b.1)
  have k2 := mul_self_nonneg7 (a.2 - b.2)
  unfold sq2
  rcases Int.lt_or_le 0 ((a.1 - b.1) * (a.1 - b.1) + (a.2 - b.2) * (a.2 - b.2)) with q | q
  · exact q
  · have z1 : (a.1 - b.1) * (a.1 - b.1) = 0 := by omega
    have z2 : (a.2 - b.2) * (a.2 - b.2) = 0 := by omega
    have e1 : a.1 - b.1 = 0 := by rcases Int.mul_eq_zero.1 z1 with k | k <;> exact k
    have e2 : a.2 - b.2 = 0 := by rcases Int.mul_eq_zero.1 z2 with k | k <;> exact k
    exact absurd (Prod.ext (by omega) (by omega)) h
/-- The inner product of b - a and c - d. -/
def dt (a b c d : P2) : Int := (b.1 - a.1) * (c.1 - d.1) + (b.2 - a.2) * (c.2 - d.2)
/-- Seen from 'at', q is the last one: all others are turned to its left, or nearer in its direction. -/
structure Nxt (S : List P2) (a q : P2) : Prop where
  mem : q ∈ S
  ne : q ≠ a
  all : ∀ p ∈ S, p ≠ a → 0 < cr a q p ∨ (cr a q p = 0 ∧ sq2 a p ≤ sq2 a q)
theorem Nxt.left {S : List P2} {a q p : P2} (h : Nxt S a q) (hp : p ∈ S) : 0 ≤ cr a q p := by
  by_cases e : p = a
  · rw [e, cr_same3]; omega
  · rcases h.all p hp e with k | k <;> omega
theorem bounded (g : P2 → Int) : ∀ S : List P2, ∃ N : Int, 0 < N ∧ ∀ p ∈ S, - N < g p
  | [] => ⟨1, by omega, fun p h => by cases h⟩
  | a :: S => by
    obtain ⟨N, h0, h⟩ := bounded g S
    refine ⟨max N (1 - g a), by omega, fun p hp => ?_⟩
    rcases List.mem_cons.1 hp with e | e
    · subst e; omega
    · have := h p e; omega
theorem sq_le {x y : Int} (hy : 0 < y) (h : x * x ≤ y * y) : x ≤ y := by
  rcases Int.lt_or_le y x with q | q
  · have h1 : y * y < y * x := Int.mul_lt_mul_of_pos_left q hy
    have h2 : y * x ≤ x * x := Int.mul_le_mul_of_nonneg_right (Int.le_of_lt q) (by omega)
    omega
  · exact q
/-- On the line of the last one, all others lie between. -/
theorem between {u a q p : P2} (hq : 0 < lin u a q) (h0 : cr a q p = 0) (hs : sq2 a p ≤ sq2 a q) (hqa : q ≠ a) (hne : p ≠ q) : dt a q p q < 0 := by
  -- lin q * (p - a) = lin p * (q - a)
  have w1 : lin u a q * (p.1 - a.1) = lin u a p * (q.1 - a.1) - u.2 * cr a q p := by unfold lin cr; grind
  have w2 : lin u a q * (p.2 - a.2) = lin u a p * (q.2 - a.2) + u.1 * cr a q p := by unfold lin cr; grind
  rw [h0, Int.mul_zero] at w1 w2
  have hE := sq2_pos (a := a) (b := q) (Ne.symm hqa)
  -- lin p <= lin q
  have le : lin u a p ≤ lin u a q := by
    have e : (lin u a p * lin u a p) * sq2 a q = (lin u a q * lin u a q) * sq2 a p := by
      have x1 : (lin u a q * (p.1 - a.1)) * (lin u a q * (p.1 - a.1)) + (lin u a q * (p.2 - a.2)) * (lin u a q * (p.2 - a.2)) = (lin u a q * lin u a q) * sq2 a p := by unfold sq2; grind
      have x2 : (lin u a p * (q.1 - a.1)) * (lin u a p * (q.1 - a.1)) + (lin u a p * (q.2 - a.2)) * (lin u a p * (q.2 - a.2)) = (lin u a p * lin u a p) * sq2 a q := by unfold sq2; grind
      rw [← x1, ← x2, w1, w2]
      simp
    have k : (lin u a p * lin u a p) * sq2 a q ≤ (lin u a q * lin u a q) * sq2 a q := by
      rw [e]
      exact Int.mul_le_mul_of_nonneg_left hs (mul_self_nonneg7 _)
    exact sq_le hq (Int.le_of_mul_le_mul_right k hE)
  have lt : lin u a p < lin u a q := by
    rcases Int.lt_or_le (lin u a p) (lin u a q) with k | k
    · exact k
    · have e : lin u a p = lin u a q := by omega
      rw [e] at w1 w2
      have z1 : p.1 - a.1 = q.1 - a.1 := Int.eq_of_mul_eq_mul_left (by omega) (by omega : lin u a q * (p.1 - a.1) = lin u a q * (q.1 - a.1))
      have z2 : p.2 - a.2 = q.2 - a.2 := Int.eq_of_mul_eq_mul_left (by omega) (by omega : lin u a q * (p.2 - a.2) = lin u a q * (q.2 - a.2))
      exact absurd (Prod.ext (by omega) (by omega)) hne
  have f : lin u a q * dt a q p q = (lin u a p - lin u a q) * sq2 a q := by
    have x1 : lin u a q * dt a q p q = (q.1 - a.1) * (lin u a q * (p.1 - a.1)) + (q.2 - a.2) * (lin u a q * (p.2 - a.2)) - lin u a q * sq2 a q := by unfold dt sq2; grind
    rw [x1, w1, w2]
    unfold sq2
    grind
  have g : (lin u a p - lin u a q) * sq2 a q < 0 := Int.mul_neg_of_neg_of_pos (by omega) hE
  rcases Int.lt_or_le (dt a q p q) 0 with k | k
  · exact k
  · have := Int.mul_nonneg (Int.le_of_lt hq) k
    omega
/-- The last one is extreme, too. -/
theorem Nxt.ext {S : List P2} {a q : P2} (h : Nxt S a q) (ha : Ext S a) : Ext S q := by
  obtain ⟨u, hu⟩ := ha
  have hq := hu q h.mem h.ne
  obtain ⟨N, hN, hb⟩ := bounded (fun p => - dt a q p q) S
  refine ⟨(- (N * (q.2 - a.2)) - (q.1 - a.1), N * (q.1 - a.1) - (q.2 - a.2)), fun p hp hne => ?_⟩
  have e : lin (- (N * (q.2 - a.2)) - (q.1 - a.1), N * (q.1 - a.1) - (q.2 - a.2)) q p = N * cr a q p - dt a q p q := by unfold lin cr dt; grind
  rw [e]
  have b := hb p hp
  by_cases hpa : p = a
  · subst hpa
    rw [cr_same3, Int.mul_zero]
    have : dt p q p q = - sq2 p q := by unfold dt sq2; grind
    have := sq2_pos (a := p) (b := q) (Ne.symm h.ne)
    omega
  · rcases h.all p hp hpa with k | ⟨k, k2⟩
    · have : N * 1 ≤ N * cr a q p := Int.mul_le_mul_of_nonneg_left (by omega) (by omega)
      omega
    · rw [k, Int.mul_zero]
      have := between hq k k2 h.ne hne
      omega
/-- An extreme point is not strictly between others. -/
theorem Nxt.strict {S : List P2} {a q p : P2} (h : Nxt S a q) (ha : Ext S a) (haS : a ∈ S) (hp : p ∈ S) (he : Ext S p) (h1 : p ≠ a) (h2 : p ≠ q) : 0 < cr a q p := by
  rcases h.all p hp h1 with k | ⟨k, k2⟩
  · exact k
  · exfalso
    obtain ⟨u, hu⟩ := ha
    obtain ⟨v, hv⟩ := he
    have d := between (hu q h.mem h.ne) k k2 h.ne h2
    have va := hv a haS (Ne.symm h1)
    have vq := hv q h.mem (Ne.symm h2)
    -- lin v p a * (..) : p lies between a and q
    have hq := hu q h.mem h.ne
    have hpp := hu p hp h1
    -- lin v p a * dt.. + lin v p q * .. = 0 along the line
    have w1 : lin v p a * dt a q p q - lin v p q * dt a q p a = (v.2 * (q.1 - a.1) - v.1 * (q.2 - a.2)) * cr a q p := by unfold lin dt cr; grind
    rw [k, Int.mul_zero] at w1
    -- dt a q p a > 0
    have x1 : lin u a q * dt a q p a = lin u a p * sq2 a q - (u.2 * (q.1 - a.1) - u.1 * (q.2 - a.2)) * cr a q p := by unfold lin dt sq2 cr; grind
    rw [k, Int.mul_zero] at x1
    have y1 : 0 < lin u a p * sq2 a q := Int.mul_pos hpp (sq2_pos (Ne.symm h.ne))
    have y2 : 0 < dt a q p a := pos_of_mul hq (by omega)
    have z1 : lin v p a * dt a q p q < 0 := Int.mul_neg_of_pos_of_neg va d
    have z2 : 0 < lin v p q * dt a q p a := Int.mul_pos vq y2
    omega
/-- The walk round S, from the first corner on: each corner is the last one seen from the one before; the first does not come again. -/
structure Chain8 (S H : List P2) : Prop where
  pos : 1 ≤ H.length
  first : cor H 0 ∈ S ∧ Ext S (cor H 0)
  next : ∀ i, i + 1 < H.length → Nxt S (cor H i) (cor H (i + 1))
  away : ∀ i, 0 < i → i < H.length → cor H i ≠ cor H 0
theorem Chain8.ext {S H : List P2} (h : Chain8 S H) : ∀ i, i < H.length → cor H i ∈ S ∧ Ext S (cor H i) := by
  intro i
  induction i with
  | zero => intro _; exact h.first
  | succ i ih =>
    intro hi
    have n := h.next i hi
    exact ⟨n.mem, n.ext (ih (by omega)).2⟩
/-- From the first corner the others are seen in their order. -/
theorem Chain8.turn {S H : List P2} (h : Chain8 S H) : ∀ i j, 0 < i → i < j → j < H.length → 0 < cr (cor H 0) (cor H i) (cor H j) := by
  obtain ⟨hs, u, hu⟩ := h.first
  have pos : ∀ i, 0 < i → i < H.length → 0 < lin u (cor H 0) (cor H i) := fun i h0 hi => hu _ (h.ext i hi).1 (h.away i h0 hi)
  have step : ∀ i, 0 < i → i + 1 < H.length → 0 < cr (cor H 0) (cor H i) (cor H (i + 1)) := fun i h0 hi => by
    have e := h.ext i (by omega)
    have := (h.next i hi).strict e.2 e.1 hs h.first.2 (fun q => h.away i h0 (by omega) q.symm) (fun q => h.away (i + 1) (by omega) hi q.symm)
    rw [cr_cyc] at this
    exact this
  have key : ∀ d i, 0 < i → i + d + 1 < H.length → 0 < cr (cor H 0) (cor H i) (cor H (i + d + 1)) := by
    intro d
    induction d with
    | zero => intro i h0 hi; exact step i h0 hi
    | succ d ih =>
      intro i h0 hi
      have a1 := ih i h0 (by omega)
      have a2 := step (i + d + 1) (by omega) (by omega)
      have r := lin_rule u (cor H 0) (cor H i) (cor H (i + d + 1)) (cor H (i + (d + 1) + 1))
      have p0 := pos i h0 (by omega)
      have p1 := pos (i + d + 1) (by omega) (by omega)
      have p2 := pos (i + (d + 1) + 1) (by omega) hi
      have n1 := Int.mul_pos p0 a2
      have n2 := Int.mul_pos p2 a1
      rw [show i + d + 1 + 1 = i + (d + 1) + 1 by omega] at n1
      exact pos_of_mul p1 (by omega)
  intro i j h0 hij hj
  have := key (j - i - 1) i h0 (by omega)
  rw [show i + (j - i - 1) + 1 = j by omega] at this
  exact this
theorem Chain8.inj {S H : List P2} (h : Chain8 S H) {i j : Nat} (hij : i < j) (hj : j < H.length) : cor H i ≠ cor H j := by
  intro e
  by_cases h0 : i = 0
  · subst h0; exact h.away j hij hj e.symm
  · have := h.turn i j (by omega) hij hj
    rw [e, cr_same2] at this
    omega
/-- A walk that has come round is a hull. -/
theorem Chain8.hull {S H : List P2} (h : Chain8 S H) (hn : 3 ≤ H.length) (hl : Nxt S (cor H (H.length - 1)) (cor H 0)) : Hull S H := by
  have nxt : ∀ k, k < H.length → Nxt S (cor H k) (cor H ((k + 1) % H.length)) := fun k hk => by
    by_cases q : k + 1 < H.length
    · rw [Nat.mod_eq_of_lt q]; exact h.next k q
    · have e : k = H.length - 1 := by omega
      rw [show k + 1 = H.length by omega, Nat.mod_self, e]; exact hl
  refine ⟨Edg.ccw fun k j hk hj h1 h2 => ?_, hn, fun p hp => ?_, fun p hp k hk => (nxt k hk).left hp⟩
  · have e := h.ext k hk
    have f := h.ext j hj
    have ne : ∀ a b, a < H.length → b < H.length → a ≠ b → cor H a ≠ cor H b := fun a b ha hb hab => by
      rcases Nat.lt_or_ge a b with q | q
      · exact h.inj q hb
      · exact fun z => h.inj (by omega : b < a) ha z.symm
    exact (nxt k hk).strict e.2 e.1 f.1 f.2 (ne j k hj hk h1) (ne j _ hj (Nat.mod_lt _ (by omega)) h2)
  · obtain ⟨i, hi, rfl⟩ := mem_cor hp
    exact (h.ext i hi).1
/-- Where the last one of a corner is the first, and that one's last one the corner, all points lie on one line. -/
theorem line_no_hull {S H : List P2} {a b : P2} (h1 : Nxt S a b) (h2 : Nxt S b a) (hh : Hull S H) : False := by
  have z : ∀ p ∈ S, cr a b p = 0 := fun p hp => by
    have k1 := h1.left hp
    have k2 := h2.left hp
    rw [cr_swap] at k2
    omega
  have n := hh.len
  have p0 := z _ (hh.sub _ (cor_mem (ps := H) (i := 0) (by omega)))
  have p1 := z _ (hh.sub _ (cor_mem (ps := H) (i := 1) (by omega)))
  have p2 := z _ (hh.sub _ (cor_mem (ps := H) (i := 2) (by omega)))
  have c := hh.ccw 0 1 2 (by omega) (by omega) (by omega)
  have e : sq2 a b * cr (cor H 0) (cor H 1) (cor H 2) = dt a b (cor H 1) (cor H 0) * (cr a b (cor H 2) - cr a b (cor H 0)) - dt a b (cor H 2) (cor H 0) * (cr a b (cor H 1) - cr a b (cor H 0)) := by unfold sq2 dt cr; grind
  rw [p0, p1, p2] at e
  simp only [Int.sub_self, Int.mul_zero] at e
  have := Int.mul_pos (sq2_pos (Ne.symm h1.ne)) c
  omega
theorem one_no_hull {S H : List P2} {a : P2} (h : ∀ p ∈ S, p = a) (hh : Hull S H) : False := by
  have n := hh.len
  have p0 := h _ (hh.sub _ (cor_mem (ps := H) (i := 0) (by omega)))
  have p1 := h _ (hh.sub _ (cor_mem (ps := H) (i := 1) (by omega)))
  exact hh.ccw.ne n (i := 0) (j := 1) (by omega) (by omega) (p0.trans p1.symm)
/-- The lexicographically least point is extreme. -/
theorem least_ext {S : List P2} {a : P2} (h : ∀ p ∈ S, a.1 < p.1 ∨ (a.1 = p.1 ∧ a.2 ≤ p.2)) : Ext S a := by
  obtain ⟨N, hN, hb⟩ := bounded (fun p => p.2 - a.2) S
  refine ⟨(N, 1), fun p hp hne => ?_⟩
  have b := hb p hp
  show 0 < N * (p.1 - a.1) + 1 * (p.2 - a.2)
  rcases h p hp with k | ⟨k, k2⟩
  · have : N * 1 ≤ N * (p.1 - a.1) := Int.mul_le_mul_of_nonneg_left (by omega) (by omega)
    omega
  · have : p.2 ≠ a.2 := fun e => hne (Prod.ext (by omega) (by omega))
    rw [show p.1 - a.1 = 0 by omega]
    omega
/-- A list without repetitions within S is not longer than S. -/
theorem short8 : ∀ (L S : List P2), L.Nodup → (∀ p ∈ L, p ∈ S) → L.length ≤ S.length
  | [], S, _, _ => Nat.zero_le _
  | a :: L, S, hn, hs => by
    have ha := hs a List.mem_cons_self
    have hn' := List.nodup_cons.1 hn
    have := short8 L (S.erase a) hn'.2 (fun p hp => (List.mem_erase_of_ne (fun e => hn'.1 (by rw [← e]; exact hp))).2 (hs p (List.mem_cons_of_mem _ hp)))
    rw [List.length_erase_of_mem ha] at this
    have : 1 ≤ S.length := List.length_pos_of_mem ha
    simp only [List.length_cons]
    omega
theorem Chain8.short {S H : List P2} (h : Chain8 S H) : H.length ≤ S.length := by
  refine short8 H S ?_ (fun p hp => by obtain ⟨i, hi, rfl⟩ := mem_cor hp; exact (h.ext i hi).1)
  rw [List.nodup_iff_pairwise_ne, List.pairwise_iff_getElem]
  intro i j hi hj hij e
  have := h.inj hij hj
  unfold cor at this
  rw [List.getD_eq_getElem?_getD, List.getD_eq_getElem?_getD, List.getElem?_eq_getElem hi, List.getElem?_eq_getElem hj] at this
  exact this e
end Go.Proofs.Ytkmopgdnaohcdaa
