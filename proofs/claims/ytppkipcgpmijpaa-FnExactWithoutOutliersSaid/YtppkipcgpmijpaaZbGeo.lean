/- Several of my texts in one: Geo8, Hul8, Wra8, Mee8, Mon8, Mon8b, Seg8. -/
import Derived.Test.YtppkipcgpmijpaaZcPts
namespace Go.Proofs.Ytppkipcgpmijpaa
set_option maxRecDepth 100000
/-- A point in whole numbers. -/
abbrev P2 := Int × Int
/-- The cross product of b - a and c - a. -/
def cr (a b c : P2) : Int := (b.1 - a.1) * (c.2 - a.2) - (b.2 - a.2) * (c.1 - a.1)
theorem cr_cyc (a b c : P2) : cr b c a = cr a b c := by unfold cr; grind
theorem cr_cyc2 (a b c : P2) : cr c a b = cr a b c := by unfold cr; grind
theorem cr_swap (a b c : P2) : cr b a c = - cr a b c := by unfold cr; grind
theorem cr_swap2 (a b c : P2) : cr a c b = - cr a b c := by unfold cr; grind
theorem cr_same (a b : P2) : cr a a b = 0 := by unfold cr; grind
theorem cr_same2 (a b : P2) : cr a b b = 0 := by unfold cr; grind
theorem cr_same3 (a b : P2) : cr a b a = 0 := by unfold cr; grind
/-- Four points: the areas of two halves. -/
theorem cr_four (a b c d : P2) : cr a b c + cr a c d = cr a b d + cr b c d := by unfold cr; grind
/-- Vectors from one point: the rule of three. -/
theorem cr_rule (o u a b c : P2) : cr o u b * cr o a c = cr o u a * cr o b c + cr o u c * cr o a b := by unfold cr; grind
theorem pos_of_mul {a b : Int} (ha : 0 < a) (h : 0 < a * b) : 0 < b := by
  rcases Int.lt_trichotomy b 0 with k | k | k
  · have := Int.mul_neg_of_pos_of_neg ha k; omega
  · subst k; simp at h
  · exact k
theorem nonneg_of_mul {a b : Int} (ha : 0 < a) (h : 0 ≤ a * b) : 0 ≤ b := by
  rcases Int.lt_or_le b 0 with k | k
  · have := Int.mul_neg_of_pos_of_neg ha k; omega
  · exact k
/-- Left of a half plane's edge the relation 'counterclockwise' is transitive. -/
theorem cr_trans {o u a b c : P2} (hu : 0 < cr o u b) (ha : 0 ≤ cr o u a) (hc : 0 < cr o u c) (h1 : 0 < cr o a b) (h2 : 0 ≤ cr o b c) : 0 < cr o a c := by
  have e := cr_rule o u a b c
  have k1 : 0 ≤ cr o u a * cr o b c := Int.mul_nonneg ha h2
  have k2 : 0 < cr o u c * cr o a b := Int.mul_pos hc h1
  exact pos_of_mul hu (by omega)
theorem cr_trans' {o u a b c : P2} (hu : 0 < cr o u b) (ha : 0 < cr o u a) (hc : 0 ≤ cr o u c) (h1 : 0 ≤ cr o a b) (h2 : 0 < cr o b c) : 0 < cr o a c := by
  have e := cr_rule o u a b c
  have k1 : 0 < cr o u a * cr o b c := Int.mul_pos ha h2
  have k2 : 0 ≤ cr o u c * cr o a b := Int.mul_nonneg hc h1
  exact pos_of_mul hu (by omega)
theorem cr_trans0 {o u a b c : P2} (hu : 0 < cr o u b) (ha : 0 ≤ cr o u a) (hc : 0 ≤ cr o u c) (h1 : 0 ≤ cr o a b) (h2 : 0 ≤ cr o b c) : 0 ≤ cr o a c := by
  have e := cr_rule o u a b c
  have k1 : 0 ≤ cr o u a * cr o b c := Int.mul_nonneg ha h2
  have k2 : 0 ≤ cr o u c * cr o a b := Int.mul_nonneg hc h1
  exact nonneg_of_mul hu (by omega)
/-- The i-th corner. -/
def cor (ps : List P2) (i : Nat) : P2 := ps.getD i (0, 0)
/-- Every three corners, in their order, turn left. -/
def Ccw (ps : List P2) : Prop := ∀ i j k, i < j → j < k → k < ps.length → 0 < cr (cor ps i) (cor ps j) (cor ps k)
/-- Every corner that is not on an edge lies to its left. -/
def Edg (ps : List P2) : Prop := ∀ k j, k < ps.length → j < ps.length → j ≠ k → j ≠ (k + 1) % ps.length → 0 < cr (cor ps k) (cor ps ((k + 1) % ps.length)) (cor ps j)
theorem Edg.ccw {ps : List P2} (h : Edg ps) : Ccw ps := by
  intro i j k hij hjk hk
  -- from corner i all later ones are seen in their order
  have edge : ∀ m l, m + 1 < ps.length → l < ps.length → l ≠ m → l ≠ m + 1 → 0 < cr (cor ps m) (cor ps (m + 1)) (cor ps l) := by
    intro m l h1 h2 h3 h4
    have := h m l (by omega) h2 h3 (by rw [Nat.mod_eq_of_lt h1]; exact h4)
    rw [Nat.mod_eq_of_lt h1] at this
    exact this
  have base : ∀ l, i + 1 < l → l < ps.length → 0 < cr (cor ps i) (cor ps (i + 1)) (cor ps l) := fun l h1 h2 => edge i l (by omega) h2 (by omega) (by omega)
  have step : ∀ l, i < l → l + 1 < ps.length → 0 < cr (cor ps i) (cor ps l) (cor ps (l + 1)) := fun l h1 h2 => by
    have := edge l i h2 (by omega) (by omega) (by omega)
    rw [cr_cyc] at this
    exact this
  have key : ∀ d j, i < j → j + d + 1 < ps.length → 0 < cr (cor ps i) (cor ps j) (cor ps (j + d + 1)) := by
    intro d
    induction d with
    | zero => intro j h1 h2; exact step j h1 h2
    | succ d ih =>
      intro j h1 h2
      have a1 := ih j h1 (by omega)
      have a2 := step (j + d + 1) (by omega) (by omega)
      by_cases hj : j = i + 1
      · subst hj
        exact base _ (by omega) (by omega)
      · exact cr_trans (u := cor ps (i + 1)) (base _ (by omega) (by omega)) (Int.le_of_lt (base _ (by omega) (by omega))) (base _ (by omega) (by omega)) a1 (Int.le_of_lt a2)
  have := key (k - j - 1) j hij (by omega)
  rw [show j + (k - j - 1) + 1 = k by omega] at this
  exact this
theorem Ccw.edg {ps : List P2} (h : Ccw ps) : Edg ps := by
  intro k j hk hj h1 h2
  by_cases hl : k + 1 < ps.length
  · rw [Nat.mod_eq_of_lt hl] at h2 ⊢
    rcases Nat.lt_or_ge j k with q | q
    · have := h j k (k + 1) q (by omega) hl
      rw [← cr_cyc] at this
      exact this
    · exact h k (k + 1) j (by omega) (by omega) hj
  · have e : k + 1 = ps.length := by omega
    rw [e, Nat.mod_self] at h2 ⊢
    have := h 0 j k (by omega) (by omega) hk
    rw [← cr_cyc2] at this
    exact this
theorem edg_iff (ps : List P2) : Edg ps ↔ Ccw ps := ⟨Edg.ccw, Ccw.edg⟩
/-- Twice the area of the fan of triangles at o: the sum over m edges from corner 0 on. -/
def fan (ps : List P2) (o : P2) : Nat → Int
  | 0 => 0
  | m + 1 => fan ps o m + cr o (cor ps m) (cor ps (m + 1))
/-- The fan from another point: the border's ends alone count. -/
theorem fan_move (ps : List P2) (o q : P2) : ∀ m, fan ps o m = fan ps q m + cr o (cor ps 0) q - cr o (cor ps m) q := by
  intro m
  induction m with
  | zero => unfold fan; omega
  | succ m ih =>
    unfold fan
    rw [ih]
    have e : cr o (cor ps m) (cor ps (m + 1)) + cr o (cor ps (m + 1)) q = cr o (cor ps m) q + cr q (cor ps m) (cor ps (m + 1)) := by
      unfold cr; grind
    omega
/-- All edges, the last one back to the first corner. -/
def loopSum (ps : List P2) (o : P2) : Int := fan ps o (ps.length - 1) + cr o (cor ps (ps.length - 1)) (cor ps 0)
/-- The sum of the triangles does not depend on the point. -/
theorem loopSum_move (ps : List P2) (o q : P2) : loopSum ps o = loopSum ps q := by
  unfold loopSum
  rw [fan_move ps o q]
  have e : cr o (cor ps 0) q - cr o (cor ps (ps.length - 1)) q + cr o (cor ps (ps.length - 1)) (cor ps 0) = cr q (cor ps (ps.length - 1)) (cor ps 0) := by
    unfold cr; grind
  omega
/-- A point is inside or on the border. -/
def Ins (ps : List P2) (p : P2) : Prop := ∀ k, k < ps.length → 0 ≤ cr (cor ps k) (cor ps ((k + 1) % ps.length)) p
theorem Ins.fwd {ps : List P2} {p : P2} (h : Ins ps p) {k : Nat} (hk : k + 1 < ps.length) : 0 ≤ cr p (cor ps k) (cor ps (k + 1)) := by
  have := h k (by omega)
  rw [Nat.mod_eq_of_lt hk, cr_cyc] at this
  exact this
theorem Ins.back {ps : List P2} {p : P2} (h : Ins ps p) (hn : 1 ≤ ps.length) : 0 ≤ cr p (cor ps (ps.length - 1)) (cor ps 0) := by
  have := h (ps.length - 1) (by omega)
  rw [show ps.length - 1 + 1 = ps.length by omega, Nat.mod_self, cr_cyc] at this
  exact this
theorem Ccw.corner {ps : List P2} (h : Ccw ps) {j : Nat} (hj : j < ps.length) : Ins ps (cor ps j) := by
  intro k hk
  by_cases h1 : j = k
  · subst h1; rw [cr_same3]; omega
  · by_cases h2 : j = (k + 1) % ps.length
    · rw [← h2, cr_same2]; omega
    · exact Int.le_of_lt (h.edg k j hk hj h1 h2)
/-- A linear map, by its two coefficients, of the way from o to p. -/
def lin (u o p : P2) : Int := u.1 * (p.1 - o.1) + u.2 * (p.2 - o.2)
theorem lin_rule (u o a b c : P2) : lin u o b * cr o a c = lin u o a * cr o b c + lin u o c * cr o a b := by unfold lin cr; grind
/-- Where a linear map is positive at all corners but 0 at the point, the point is not inside a polygon with an area. -/
theorem not_ins {ps : List P2} {p u : P2} (hn : 1 ≤ ps.length) (hu : ∀ k, k < ps.length → 0 < lin u p (cor ps k)) (hi : Ins ps p) (ha : 0 < loopSum ps p) : False := by
  -- from the first corner on, all are turned to the left, weakly; and strictly behind the first strict edge
  have weak : ∀ k, k < ps.length → 0 ≤ cr p (cor ps 0) (cor ps k) ∧ (0 < fan ps p k → 0 < cr p (cor ps 0) (cor ps k)) := by
    intro k
    induction k with
    | zero => intro _; rw [cr_same2]; exact ⟨Int.le_refl _, fun h => by unfold fan at h; omega⟩
    | succ k ih =>
      intro hk
      obtain ⟨i1, i2⟩ := ih (by omega)
      have e1 := hi.fwd hk
      have r := lin_rule u p (cor ps 0) (cor ps k) (cor ps (k + 1))
      have p0 := hu 0 (by omega)
      have p1 := hu k (by omega)
      have p2 := hu (k + 1) hk
      have n1 : 0 ≤ lin u p (cor ps 0) * cr p (cor ps k) (cor ps (k + 1)) := Int.mul_nonneg (Int.le_of_lt p0) e1
      have n2 : 0 ≤ lin u p (cor ps (k + 1)) * cr p (cor ps 0) (cor ps k) := Int.mul_nonneg (Int.le_of_lt p2) i1
      refine ⟨nonneg_of_mul p1 (by omega), fun hf => ?_⟩
      unfold fan at hf
      rcases Int.lt_or_le 0 (cr p (cor ps k) (cor ps (k + 1))) with q | q
      · have n3 : 0 < lin u p (cor ps 0) * cr p (cor ps k) (cor ps (k + 1)) := Int.mul_pos p0 q
        exact pos_of_mul p1 (by omega)
      · have n4 : 0 < lin u p (cor ps (k + 1)) * cr p (cor ps 0) (cor ps k) := Int.mul_pos p2 (i2 (by omega))
        exact pos_of_mul p1 (by omega)
  have last := weak (ps.length - 1) (by omega)
  have b := hi.back hn
  have e : cr p (cor ps (ps.length - 1)) (cor ps 0) = - cr p (cor ps 0) (cor ps (ps.length - 1)) := cr_swap2 _ _ _
  unfold loopSum at ha
  rcases Int.lt_or_le 0 (fan ps p (ps.length - 1)) with q | q
  · have := last.2 q; omega
  · omega
/-- The area of a list of corners that turn left is positive. -/
theorem Ccw.area {ps : List P2} (h : Ccw ps) (hn : 3 ≤ ps.length) (p : P2) : 0 < loopSum ps p := by
  rw [loopSum_move ps p (cor ps 0)]
  have key : ∀ m, m < ps.length → 0 ≤ fan ps (cor ps 0) m ∧ (2 ≤ m → 0 < fan ps (cor ps 0) m) := by
    intro m
    induction m with
    | zero => intro _; exact ⟨by unfold fan; omega, fun k => by omega⟩
    | succ m ih =>
      intro hm
      obtain ⟨i1, i2⟩ := ih (by omega)
      unfold fan
      by_cases h0 : m = 0
      · subst h0; rw [cr_same]; exact ⟨by omega, fun k => by omega⟩
      · have := h 0 m (m + 1) (by omega) (by omega) hm
        exact ⟨by omega, fun _ => by omega⟩
  unfold loopSum
  rw [cr_same3]
  have := (key (ps.length - 1) (by omega)).2 (by omega)
  omega
end Go.Proofs.Ytppkipcgpmijpaa
namespace Go.Proofs.Ytppkipcgpmijpaa
set_option maxRecDepth 100000
theorem cor_mem {ps : List P2} {i : Nat} (h : i < ps.length) : cor ps i ∈ ps := by
  unfold cor; rw [List.getD_eq_getElem?_getD, List.getElem?_eq_getElem h]; exact List.getElem_mem h
theorem mem_cor {ps : List P2} {p : P2} (h : p ∈ ps) : ∃ i, i < ps.length ∧ cor ps i = p := by
  obtain ⟨i, hi, e⟩ := List.getElem_of_mem h
  refine ⟨i, hi, ?_⟩
  unfold cor; rw [List.getD_eq_getElem?_getD, List.getElem?_eq_getElem hi]; exact e
/-- The corners differ. -/
theorem Ccw.ne {ps : List P2} (h : Ccw ps) (hn : 3 ≤ ps.length) {i j : Nat} (hij : i < j) (hj : j < ps.length) : cor ps i ≠ cor ps j := by
  intro e
  by_cases h0 : 0 < i
  · have := h 0 i j h0 hij hj
    rw [e, cr_same2] at this; omega
  · by_cases h1 : j + 1 < ps.length
    · have := h i j (j + 1) hij (by omega) h1
      rw [e, cr_same] at this; omega
    · have := h i 1 j (by omega) (by omega) hj
      rw [e, cr_same3] at this; omega
theorem Ccw.inj {ps : List P2} (h : Ccw ps) (hn : 3 ≤ ps.length) {i j : Nat} (hi : i < ps.length) (hj : j < ps.length) (e : cor ps i = cor ps j) : i = j := by
  rcases Nat.lt_trichotomy i j with k | k | k
  · exact absurd e (h.ne hn k hj)
  · exact k
  · exact absurd e.symm (h.ne hn k hi)
/-- h is the only point of S where a linear map is least. -/
def Ext (S : List P2) (h : P2) : Prop := ∃ u : P2, ∀ p ∈ S, p ≠ h → 0 < lin u h p
/-- What a hull of S is, but for its first corner. -/
structure Hull (S H : List P2) : Prop where
  ccw : Ccw H
  len : 3 ≤ H.length
  sub : ∀ h ∈ H, h ∈ S
  ins : ∀ p ∈ S, Ins H p
theorem two_lines {a b c p : P2} (h : 0 < cr a b c) (h1 : cr a b p = 0) (h2 : cr b c p = 0) : p = b := by
  have k1 : (p.1 - b.1) * cr a b c = (c.1 - b.1) * cr a b p - (b.1 - a.1) * cr b c p := by unfold cr; grind
  have k2 : (p.2 - b.2) * cr a b c = (c.2 - b.2) * cr a b p - (b.2 - a.2) * cr b c p := by unfold cr; grind
  rw [h1, h2] at k1 k2
  simp only [Int.mul_zero, Int.sub_zero] at k1 k2
  have z1 : p.1 - b.1 = 0 := by rcases Int.mul_eq_zero.1 k1 with k | k; exact k; omega
  have z2 : p.2 - b.2 = 0 := by rcases Int.mul_eq_zero.1 k2 with k | k; exact k; omega
  exact Prod.ext (by omega) (by omega)
theorem lin_two (a b c p : P2) : lin (-(c.2 - a.2), c.1 - a.1) b p = cr a b p + cr b c p := by unfold lin cr; grind
/-- The corners of a hull are extreme. -/
theorem Hull.ext {S H : List P2} (hh : Hull S H) {k : Nat} (hk : k < H.length) : Ext S (cor H k) := by
  have hn := hh.len
  -- the corners ahead and behind
  obtain ⟨a, ha, ea⟩ : ∃ a, a < H.length ∧ (a + 1) % H.length = k := by
    by_cases h0 : k = 0
    · exact ⟨H.length - 1, by omega, by rw [show H.length - 1 + 1 = H.length by omega, Nat.mod_self, h0]⟩
    · exact ⟨k - 1, by omega, by rw [show k - 1 + 1 = k by omega, Nat.mod_eq_of_lt hk]⟩
  obtain ⟨c, hc, ec⟩ : ∃ c, c < H.length ∧ (k + 1) % H.length = c := ⟨_, Nat.mod_lt _ (by omega), rfl⟩
  have hac : c ≠ a := by
    intro e
    subst e
    by_cases h1 : k + 1 < H.length
    · rw [Nat.mod_eq_of_lt h1] at ec
      subst ec
      by_cases h2 : k + 1 + 1 < H.length
      · rw [Nat.mod_eq_of_lt h2] at ea; omega
      · rw [show k + 1 + 1 = H.length by omega, Nat.mod_self] at ea; omega
    · rw [show k + 1 = H.length by omega, Nat.mod_self] at ec
      subst ec
      rw [Nat.mod_eq_of_lt (by omega)] at ea
      omega
  have hck : c ≠ k := by
    intro e
    subst e
    by_cases h1 : c + 1 < H.length
    · rw [Nat.mod_eq_of_lt h1] at ec; omega
    · rw [show c + 1 = H.length by omega, Nat.mod_self] at ec; omega
  have hpos : 0 < cr (cor H a) (cor H k) (cor H c) := by
    have := hh.ccw.edg a c ha hc hac (by rw [ea]; exact hck)
    rw [ea] at this
    exact this
  refine ⟨(-((cor H c).2 - (cor H a).2), (cor H c).1 - (cor H a).1), fun p hp hne => ?_⟩
  have i1 := hh.ins p hp a ha
  have i2 := hh.ins p hp k hk
  rw [ea] at i1
  rw [ec] at i2
  rw [lin_two]
  rcases Int.lt_or_le 0 (cr (cor H a) (cor H k) p + cr (cor H k) (cor H c) p) with q | q
  · exact q
  · exact absurd (two_lines hpos (by omega) (by omega)) hne
/-- An extreme point of S is a corner of every hull of S. -/
theorem Hull.has {S H : List P2} (hh : Hull S H) {h : P2} (hs : h ∈ S) (he : Ext S h) : h ∈ H := by
  refine Classical.byContradiction fun hn => ?_
  obtain ⟨u, hu⟩ := he
  exact not_ins (by have := hh.len; omega) (fun k hk => hu _ (hh.sub _ (cor_mem hk)) (fun e => hn (by rw [← e]; exact cor_mem hk))) (hh.ins h hs) (hh.ccw.area hh.len h)
theorem Hull.same {S H H' : List P2} (hh : Hull S H) (hh' : Hull S H') {p : P2} (hp : p ∈ H) : p ∈ H' := by
  obtain ⟨k, hk, rfl⟩ := mem_cor hp
  exact hh'.has (hh.sub _ hp) (hh.ext hk)
/-- Corners in their order from a common first one: one list has them as the other. -/
theorem ccw_prefix {H H' : List P2} (c : Ccw H) (c' : Ccw H') (n : 3 ≤ H.length) (n' : 3 ≤ H'.length) (s : ∀ p ∈ H, p ∈ H') (s' : ∀ p ∈ H', p ∈ H) (h0 : cor H 0 = cor H' 0) :
    ∀ k, k < H.length → k < H'.length ∧ cor H k = cor H' k := by
  intro k
  induction k using Nat.strongRecOn with
  | _ k ih =>
    intro hk
    by_cases hk0 : k = 0
    · subst hk0; exact ⟨by omega, h0⟩
    · -- x stands at m in H'
      obtain ⟨m, hm, em⟩ := mem_cor (s _ (cor_mem hk))
      have hmk : ¬ m < k := fun q => by
        have := (ih m q (by omega)).2
        rw [em] at this
        exact absurd (c.inj n (by omega) hk this) (by omega)
      by_cases hmk2 : m = k
      · subst hmk2; exact ⟨hm, em.symm⟩
      · -- y stands at k in H', at l in H
        obtain ⟨l, hl, el⟩ := mem_cor (s' _ (cor_mem (ps := H') (i := k) (by omega)))
        have hlk : ¬ l < k := fun q => by
          have := (ih l q (by omega)).2
          rw [el] at this
          exact absurd (c'.inj n' (by omega) (by omega) this) (by omega)
        have hlk2 : l ≠ k := fun e => by
          subst e
          rw [← em] at el
          exact absurd (c'.inj n' hm (by omega) el) hmk2
        have a1 := c 0 k l (by omega) (by omega) hl
        have a2 := c' 0 k m (by omega) (by omega) hm
        rw [el] at a1
        rw [em, ← h0, cr_swap2] at a2
        omega
/-- A set of points has one hull with a given first corner. -/
theorem Hull.unique {S H H' : List P2} (hh : Hull S H) (hh' : Hull S H') (h0 : cor H 0 = cor H' 0) : H = H' := by
  have p1 := ccw_prefix hh.ccw hh'.ccw hh.len hh'.len (fun p hp => hh.same hh' hp) (fun p hp => hh'.same hh hp) h0
  have p2 := ccw_prefix hh'.ccw hh.ccw hh'.len hh.len (fun p hp => hh'.same hh hp) (fun p hp => hh.same hh' hp) h0.symm
  have hl : H.length = H'.length := by
    have a := (p1 (H.length - 1) (by have := hh.len; omega)).1
    have b := (p2 (H'.length - 1) (by have := hh'.len; omega)).1
    omega
  refine List.ext_getElem hl fun i h1 h2 => ?_
  have := (p1 i h1).2
  unfold cor at this
  rw [List.getD_eq_getElem?_getD, List.getD_eq_getElem?_getD, List.getElem?_eq_getElem h1, List.getElem?_eq_getElem h2] at this
  exact this
end Go.Proofs.Ytppkipcgpmijpaa
namespace Go.Proofs.Ytppkipcgpmijpaa
set_option maxRecDepth 100000
/-- The squared distance. -/
def sq2 (a b : P2) : Int := (a.1 - b.1) * (a.1 - b.1) + (a.2 - b.2) * (a.2 - b.2)
theorem mul_self_nonneg7 (x : Int) : 0 ≤ x * x := by
  rcases Int.le_total 0 x with h | h
  · exact Int.mul_nonneg h h
  · have := Int.mul_nonneg (a := -x) (b := -x) (by omega) (by omega); rw [Int.neg_mul_neg] at this; exact this
theorem sq2_nonneg (a b : P2) : 0 ≤ sq2 a b := by
  unfold sq2; have := mul_self_nonneg7 (a.1 - b.1); have := mul_self_nonneg7 (a.2 - b.2); omega
theorem sq2_pos {a b : P2} (h : a ≠ b) : 0 < sq2 a b := by
  have k1 := mul_self_nonneg7 (a.1 - b.1)
  have k2 := mul_self_nonneg7 (a.2 - b.2)
  unfold sq2
  rcases Int.lt_or_le 0 ((a.1 - b.1) * (a.1 - b.1) + (a.2 - b.2) * (a.2 - b.2)) with q | q
  · exact q
  · have z1 : (a.1 - b.1) * (a.1 - b.1) = 0 := by omega
    have z2 : (a.2 - b.2) * (a.2 - b.2) = 0 := by omega
    have e1 : a.1 - b.1 = 0 := by rcases Int.mul_eq_zero.1 z1 with k | k <;> exact k
    have e2 : a.2 - b.2 = 0 := by rcases Int.mul_eq_zero.1 z2 with k | k <;> exact k
    exact absurd (Prod.ext (by omega) (by omega)) h
/-- The inner product of b - a and c - d. -/
def dt (a b c d : P2) : Int := (b.1 - a.1) * (c.1 - d.1) + (b.2 - a.2) * (c.2 - d.2)
/-- Seen from 'at', q is the last one: all others are turned to its left, or nearer in its direction. -/
structure Nxt (S : List P2) (a q : P2) : Prop where
  mem : q ∈ S
  ne : q ≠ a
  all : ∀ p ∈ S, p ≠ a → 0 < cr a q p ∨ (cr a q p = 0 ∧ sq2 a p ≤ sq2 a q)
theorem Nxt.left {S : List P2} {a q p : P2} (h : Nxt S a q) (hp : p ∈ S) : 0 ≤ cr a q p := by
  by_cases e : p = a
  · rw [e, cr_same3]; omega
  · rcases h.all p hp e with k | k <;> omega
theorem bounded (g : P2 → Int) : ∀ S : List P2, ∃ N : Int, 0 < N ∧ ∀ p ∈ S, - N < g p
  | [] => ⟨1, by omega, fun p h => by cases h⟩
  | a :: S => by
    obtain ⟨N, h0, h⟩ := bounded g S
    refine ⟨max N (1 - g a), by omega, fun p hp => ?_⟩
    rcases List.mem_cons.1 hp with e | e
    · subst e; omega
    · have := h p e; omega
theorem sq_le {x y : Int} (hy : 0 < y) (h : x * x ≤ y * y) : x ≤ y := by
  rcases Int.lt_or_le y x with q | q
  · have h1 : y * y < y * x := Int.mul_lt_mul_of_pos_left q hy
    have h2 : y * x ≤ x * x := Int.mul_le_mul_of_nonneg_right (Int.le_of_lt q) (by omega)
    omega
  · exact q
/-- On the line of the last one, all others lie between. -/
theorem between {u a q p : P2} (hq : 0 < lin u a q) (h0 : cr a q p = 0) (hs : sq2 a p ≤ sq2 a q) (hqa : q ≠ a) (hne : p ≠ q) : dt a q p q < 0 := by
  -- lin q * (p - a) = lin p * (q - a)
  have w1 : lin u a q * (p.1 - a.1) = lin u a p * (q.1 - a.1) - u.2 * cr a q p := by unfold lin cr; grind
  have w2 : lin u a q * (p.2 - a.2) = lin u a p * (q.2 - a.2) + u.1 * cr a q p := by unfold lin cr; grind
  rw [h0, Int.mul_zero] at w1 w2
  have hE := sq2_pos (a := a) (b := q) (Ne.symm hqa)
  -- lin p <= lin q
  have le : lin u a p ≤ lin u a q := by
    have e : (lin u a p * lin u a p) * sq2 a q = (lin u a q * lin u a q) * sq2 a p := by
      have x1 : (lin u a q * (p.1 - a.1)) * (lin u a q * (p.1 - a.1)) + (lin u a q * (p.2 - a.2)) * (lin u a q * (p.2 - a.2)) = (lin u a q * lin u a q) * sq2 a p := by unfold sq2; grind
      have x2 : (lin u a p * (q.1 - a.1)) * (lin u a p * (q.1 - a.1)) + (lin u a p * (q.2 - a.2)) * (lin u a p * (q.2 - a.2)) = (lin u a p * lin u a p) * sq2 a q := by unfold sq2; grind
      rw [← x1, ← x2, w1, w2]
      simp
    have k : (lin u a p * lin u a p) * sq2 a q ≤ (lin u a q * lin u a q) * sq2 a q := by
      rw [e]
      exact Int.mul_le_mul_of_nonneg_left hs (mul_self_nonneg7 _)
    exact sq_le hq (Int.le_of_mul_le_mul_right k hE)
  have lt : lin u a p < lin u a q := by
    rcases Int.lt_or_le (lin u a p) (lin u a q) with k | k
    · exact k
    · have e : lin u a p = lin u a q := by omega
      rw [e] at w1 w2
      have z1 : p.1 - a.1 = q.1 - a.1 := Int.eq_of_mul_eq_mul_left (by omega) (by omega : lin u a q * (p.1 - a.1) = lin u a q * (q.1 - a.1))
      have z2 : p.2 - a.2 = q.2 - a.2 := Int.eq_of_mul_eq_mul_left (by omega) (by omega : lin u a q * (p.2 - a.2) = lin u a q * (q.2 - a.2))
      exact absurd (Prod.ext (by omega) (by omega)) hne
  have f : lin u a q * dt a q p q = (lin u a p - lin u a q) * sq2 a q := by
    have x1 : lin u a q * dt a q p q = (q.1 - a.1) * (lin u a q * (p.1 - a.1)) + (q.2 - a.2) * (lin u a q * (p.2 - a.2)) - lin u a q * sq2 a q := by unfold dt sq2; grind
    rw [x1, w1, w2]
    unfold sq2
    grind
  have g : (lin u a p - lin u a q) * sq2 a q < 0 := Int.mul_neg_of_neg_of_pos (by omega) hE
  rcases Int.lt_or_le (dt a q p q) 0 with k | k
  · exact k
  · have := Int.mul_nonneg (Int.le_of_lt hq) k
    omega
/-- The last one is extreme, too. -/
theorem Nxt.ext {S : List P2} {a q : P2} (h : Nxt S a q) (ha : Ext S a) : Ext S q := by
  obtain ⟨u, hu⟩ := ha
  have hq := hu q h.mem h.ne
  obtain ⟨N, hN, hb⟩ := bounded (fun p => - dt a q p q) S
  refine ⟨(- (N * (q.2 - a.2)) - (q.1 - a.1), N * (q.1 - a.1) - (q.2 - a.2)), fun p hp hne => ?_⟩
  have e : lin (- (N * (q.2 - a.2)) - (q.1 - a.1), N * (q.1 - a.1) - (q.2 - a.2)) q p = N * cr a q p - dt a q p q := by unfold lin cr dt; grind
  rw [e]
  have b := hb p hp
  by_cases hpa : p = a
  · subst hpa
    rw [cr_same3, Int.mul_zero]
    have : dt p q p q = - sq2 p q := by unfold dt sq2; grind
    have := sq2_pos (a := p) (b := q) (Ne.symm h.ne)
    omega
  · rcases h.all p hp hpa with k | ⟨k, k2⟩
    · have : N * 1 ≤ N * cr a q p := Int.mul_le_mul_of_nonneg_left (by omega) (by omega)
      omega
    · rw [k, Int.mul_zero]
      have := between hq k k2 h.ne hne
      omega
/-- An extreme point is not strictly between others. -/
theorem Nxt.strict {S : List P2} {a q p : P2} (h : Nxt S a q) (ha : Ext S a) (haS : a ∈ S) (hp : p ∈ S) (he : Ext S p) (h1 : p ≠ a) (h2 : p ≠ q) : 0 < cr a q p := by
  rcases h.all p hp h1 with k | ⟨k, k2⟩
  · exact k
  · exfalso
    obtain ⟨u, hu⟩ := ha
    obtain ⟨v, hv⟩ := he
    have d := between (hu q h.mem h.ne) k k2 h.ne h2
    have va := hv a haS (Ne.symm h1)
    have vq := hv q h.mem (Ne.symm h2)
    -- lin v p a * (..) : p lies between a and q
    have hq := hu q h.mem h.ne
    have hpp := hu p hp h1
    -- lin v p a * dt.. + lin v p q * .. = 0 along the line
    have w1 : lin v p a * dt a q p q - lin v p q * dt a q p a = (v.2 * (q.1 - a.1) - v.1 * (q.2 - a.2)) * cr a q p := by unfold lin dt cr; grind
    rw [k, Int.mul_zero] at w1
    -- dt a q p a > 0
    have x1 : lin u a q * dt a q p a = lin u a p * sq2 a q - (u.2 * (q.1 - a.1) - u.1 * (q.2 - a.2)) * cr a q p := by unfold lin dt sq2 cr; grind
    rw [k, Int.mul_zero] at x1
    have y1 : 0 < lin u a p * sq2 a q := Int.mul_pos hpp (sq2_pos (Ne.symm h.ne))
    have y2 : 0 < dt a q p a := pos_of_mul hq (by omega)
    have z1 : lin v p a * dt a q p q < 0 := Int.mul_neg_of_pos_of_neg va d
    have z2 : 0 < lin v p q * dt a q p a := Int.mul_pos vq y2
    omega
/-- The walk round S, from the first corner on: each corner is the last one seen from the one before; the first does not come again. -/
structure Chain8 (S H : List P2) : Prop where
  pos : 1 ≤ H.length
  first : cor H 0 ∈ S ∧ Ext S (cor H 0)
  next : ∀ i, i + 1 < H.length → Nxt S (cor H i) (cor H (i + 1))
  away : ∀ i, 0 < i → i < H.length → cor H i ≠ cor H 0
theorem Chain8.ext {S H : List P2} (h : Chain8 S H) : ∀ i, i < H.length → cor H i ∈ S ∧ Ext S (cor H i) := by
  intro i
  induction i with
  | zero => intro _; exact h.first
  | succ i ih =>
    intro hi
    have n := h.next i hi
    exact ⟨n.mem, n.ext (ih (by omega)).2⟩
/-- From the first corner the others are seen in their order. -/
theorem Chain8.turn {S H : List P2} (h : Chain8 S H) : ∀ i j, 0 < i → i < j → j < H.length → 0 < cr (cor H 0) (cor H i) (cor H j) := by
  obtain ⟨hs, u, hu⟩ := h.first
  have pos : ∀ i, 0 < i → i < H.length → 0 < lin u (cor H 0) (cor H i) := fun i h0 hi => hu _ (h.ext i hi).1 (h.away i h0 hi)
  have step : ∀ i, 0 < i → i + 1 < H.length → 0 < cr (cor H 0) (cor H i) (cor H (i + 1)) := fun i h0 hi => by
    have e := h.ext i (by omega)
    have := (h.next i hi).strict e.2 e.1 hs h.first.2 (fun q => h.away i h0 (by omega) q.symm) (fun q => h.away (i + 1) (by omega) hi q.symm)
    rw [cr_cyc] at this
    exact this
  have key : ∀ d i, 0 < i → i + d + 1 < H.length → 0 < cr (cor H 0) (cor H i) (cor H (i + d + 1)) := by
    intro d
    induction d with
    | zero => intro i h0 hi; exact step i h0 hi
    | succ d ih =>
      intro i h0 hi
      have a1 := ih i h0 (by omega)
      have a2 := step (i + d + 1) (by omega) (by omega)
      have r := lin_rule u (cor H 0) (cor H i) (cor H (i + d + 1)) (cor H (i + (d + 1) + 1))
      have p0 := pos i h0 (by omega)
      have p1 := pos (i + d + 1) (by omega) (by omega)
      have p2 := pos (i + (d + 1) + 1) (by omega) hi
      have n1 := Int.mul_pos p0 a2
      have n2 := Int.mul_pos p2 a1
      rw [show i + d + 1 + 1 = i + (d + 1) + 1 by omega] at n1
      exact pos_of_mul p1 (by omega)
  intro i j h0 hij hj
  have := key (j - i - 1) i h0 (by omega)
  rw [show i + (j - i - 1) + 1 = j by omega] at this
  exact this
theorem Chain8.inj {S H : List P2} (h : Chain8 S H) {i j : Nat} (hij : i < j) (hj : j < H.length) : cor H i ≠ cor H j := by
  intro e
  by_cases h0 : i = 0
  · subst h0; exact h.away j hij hj e.symm
  · have := h.turn i j (by omega) hij hj
    rw [e, cr_same2] at this
    omega
/-- A walk that has come round is a hull. -/
theorem Chain8.hull {S H : List P2} (h : Chain8 S H) (hn : 3 ≤ H.length) (hl : Nxt S (cor H (H.length - 1)) (cor H 0)) : Hull S H := by
  have nxt : ∀ k, k < H.length → Nxt S (cor H k) (cor H ((k + 1) % H.length)) := fun k hk => by
    by_cases q : k + 1 < H.length
    · rw [Nat.mod_eq_of_lt q]; exact h.next k q
    · have e : k = H.length - 1 := by omega
      rw [show k + 1 = H.length by omega, Nat.mod_self, e]; exact hl
  refine ⟨Edg.ccw fun k j hk hj h1 h2 => ?_, hn, fun p hp => ?_, fun p hp k hk => (nxt k hk).left hp⟩
  · have e := h.ext k hk
    have f := h.ext j hj
    have ne : ∀ a b, a < H.length → b < H.length → a ≠ b → cor H a ≠ cor H b := fun a b ha hb hab => by
      rcases Nat.lt_or_ge a b with q | q
      · exact h.inj q hb
      · exact fun z => h.inj (by omega : b < a) ha z.symm
    exact (nxt k hk).strict e.2 e.1 f.1 f.2 (ne j k hj hk h1) (ne j _ hj (Nat.mod_lt _ (by omega)) h2)
  · obtain ⟨i, hi, rfl⟩ := mem_cor hp
    exact (h.ext i hi).1
/-- Where the last one of a corner is the first, and that one's last one the corner, all points lie on one line. -/
theorem line_no_hull {S H : List P2} {a b : P2} (h1 : Nxt S a b) (h2 : Nxt S b a) (hh : Hull S H) : False := by
  have z : ∀ p ∈ S, cr a b p = 0 := fun p hp => by
    have k1 := h1.left hp
    have k2 := h2.left hp
    rw [cr_swap] at k2
    omega
  have n := hh.len
  have p0 := z _ (hh.sub _ (cor_mem (ps := H) (i := 0) (by omega)))
  have p1 := z _ (hh.sub _ (cor_mem (ps := H) (i := 1) (by omega)))
  have p2 := z _ (hh.sub _ (cor_mem (ps := H) (i := 2) (by omega)))
  have c := hh.ccw 0 1 2 (by omega) (by omega) (by omega)
  have e : sq2 a b * cr (cor H 0) (cor H 1) (cor H 2) = dt a b (cor H 1) (cor H 0) * (cr a b (cor H 2) - cr a b (cor H 0)) - dt a b (cor H 2) (cor H 0) * (cr a b (cor H 1) - cr a b (cor H 0)) := by unfold sq2 dt cr; grind
  rw [p0, p1, p2] at e
  simp only [Int.sub_self, Int.mul_zero] at e
  have := Int.mul_pos (sq2_pos (Ne.symm h1.ne)) c
  omega
theorem one_no_hull {S H : List P2} {a : P2} (h : ∀ p ∈ S, p = a) (hh : Hull S H) : False := by
  have n := hh.len
  have p0 := h _ (hh.sub _ (cor_mem (ps := H) (i := 0) (by omega)))
  have p1 := h _ (hh.sub _ (cor_mem (ps := H) (i := 1) (by omega)))
  exact hh.ccw.ne n (i := 0) (j := 1) (by omega) (by omega) (p0.trans p1.symm)
/-- The lexicographically least point is extreme. -/
theorem least_ext {S : List P2} {a : P2} (h : ∀ p ∈ S, a.1 < p.1 ∨ (a.1 = p.1 ∧ a.2 ≤ p.2)) : Ext S a := by
  obtain ⟨N, hN, hb⟩ := bounded (fun p => p.2 - a.2) S
  refine ⟨(N, 1), fun p hp hne => ?_⟩
  have b := hb p hp
  show 0 < N * (p.1 - a.1) + 1 * (p.2 - a.2)
  rcases h p hp with k | ⟨k, k2⟩
  · have : N * 1 ≤ N * (p.1 - a.1) := Int.mul_le_mul_of_nonneg_left (by omega) (by omega)
    omega
  · have : p.2 ≠ a.2 := fun e => hne (Prod.ext (by omega) (by omega))
    rw [show p.1 - a.1 = 0 by omega]
    omega
/-- A list without repetitions within S is not longer than S. -/
theorem short8 : ∀ (L S : List P2), L.Nodup → (∀ p ∈ L, p ∈ S) → L.length ≤ S.length
  | [], S, _, _ => Nat.zero_le _
  | a :: L, S, hn, hs => by
    have ha := hs a List.mem_cons_self
    have hn' := List.nodup_cons.1 hn
    have := short8 L (S.erase a) hn'.2 (fun p hp => (List.mem_erase_of_ne (fun e => hn'.1 (by rw [← e]; exact hp))).2 (hs p (List.mem_cons_of_mem _ hp)))
    rw [List.length_erase_of_mem ha] at this
    have : 1 ≤ S.length := List.length_pos_of_mem ha
    simp only [List.length_cons]
    omega
theorem Chain8.short {S H : List P2} (h : Chain8 S H) : H.length ≤ S.length := by
  refine short8 H S ?_ (fun p hp => by obtain ⟨i, hi, rfl⟩ := mem_cor hp; exact (h.ext i hi).1)
  rw [List.nodup_iff_pairwise_ne, List.pairwise_iff_getElem]
  intro i j hi hj hij e
  have := h.inj hij hj
  unfold cor at this
  rw [List.getD_eq_getElem?_getD, List.getD_eq_getElem?_getD, List.getElem?_eq_getElem hi, List.getElem?_eq_getElem hj] at this
  exact this e
end Go.Proofs.Ytppkipcgpmijpaa
namespace Go.Proofs.Ytppkipcgpmijpaa
set_option maxRecDepth 100000
/-- p is in the box of a and b. -/
def OnB (a b p : P2) : Prop := (min a.1 b.1 ≤ p.1 ∧ p.1 ≤ max a.1 b.1) ∧ min a.2 b.2 ≤ p.2 ∧ p.2 ≤ max a.2 b.2
instance (a b p : P2) : Decidable (OnB a b p) := by unfold OnB; infer_instance
/-- The segments from a to b and from c to d have a common point. -/
def Meet (a b c d : P2) : Prop :=
  (sgn (cr a b c) ≠ sgn (cr a b d) ∧ sgn (cr c d a) ≠ sgn (cr c d b)) ∨ (cr a b c = 0 ∧ OnB a b c) ∨ (cr a b d = 0 ∧ OnB a b d) ∨ (cr c d a = 0 ∧ OnB c d a) ∨ (cr c d b = 0 ∧ OnB c d b)
instance (a b c d : P2) : Decidable (Meet a b c d) := by unfold Meet; infer_instance
theorem OnB.swap {a b p : P2} (h : OnB a b p) : OnB b a p := by unfold OnB at *; omega
theorem sgn_neg7 (n : Int) : sgn (-n) = - sgn n := by unfold sgn; split <;> split <;> (try split) <;> (try split) <;> omega
theorem Meet.symm {a b c d : P2} (h : Meet a b c d) : Meet c d a b := by
  rcases h with ⟨h1, h2⟩ | h | h | h | h
  · exact .inl ⟨h2, h1⟩
  · exact .inr (.inr (.inr (.inl h)))
  · exact .inr (.inr (.inr (.inr h)))
  · exact .inr (.inl h)
  · exact .inr (.inr (.inl h))
theorem Meet.swap {a b c d : P2} (h : Meet a b c d) : Meet b a c d := by
  rcases h with ⟨h1, h2⟩ | h | h | h | h
  · refine .inl ⟨?_, h2.symm⟩
    rw [cr_swap a b c, cr_swap a b d, sgn_neg7, sgn_neg7]
    omega
  · exact .inr (.inl ⟨by rw [cr_swap a b c]; omega, h.2.swap⟩)
  · exact .inr (.inr (.inl ⟨by rw [cr_swap a b d]; omega, h.2.swap⟩))
  · exact .inr (.inr (.inr (.inr h)))
  · exact .inr (.inr (.inr (.inl h)))
theorem meet_symm (a b c d : P2) : Meet a b c d ↔ Meet c d a b := ⟨Meet.symm, Meet.symm⟩
theorem meet_swap (a b c d : P2) : Meet a b c d ↔ Meet b a c d := ⟨Meet.swap, Meet.swap⟩
theorem OnB.left (a b : P2) : OnB a b a := by unfold OnB; omega
theorem OnB.right (a b : P2) : OnB a b b := by unfold OnB; omega
/-- A common end. -/
theorem meet_end (a b c : P2) : Meet a b b c := .inr (.inl ⟨cr_same2 a b, OnB.right a b⟩)
/-- The middle of a segment, if it is exact. -/
theorem meet_mid {a b m : P2} (h1 : m.1 + m.1 = a.1 + b.1) (h2 : m.2 + m.2 = a.2 + b.2) : Meet a b m m := by
  refine .inr (.inl ⟨?_, by unfold OnB; omega⟩)
  have e1 : b.1 = m.1 + m.1 - a.1 := by omega
  have e2 : b.2 = m.2 + m.2 - a.2 := by omega
  unfold cr
  rw [e1, e2]
  grind
/-- Of the numbers i < n with M i > 0 one has the least N i / M i. -/
theorem least_ratio (N M : Nat → Int) : ∀ n : Nat, (∃ i, i < n ∧ 0 < M i) → ∃ j, j < n ∧ 0 < M j ∧ ∀ i, i < n → 0 < M i → N j * M i ≤ N i * M j := by
  intro n
  induction n with
  | zero => rintro ⟨i, hi, _⟩; omega
  | succ n ih =>
    rintro ⟨i, hi, hm⟩
    by_cases hex : ∃ i, i < n ∧ 0 < M i
    · obtain ⟨j, hj, mj, hall⟩ := ih hex
      by_cases hn : 0 < M n ∧ N n * M j < N j * M n
      · refine ⟨n, by omega, hn.1, fun i hi hmi => ?_⟩
        rcases Nat.lt_or_ge i n with q | q
        · have h1 := hall i q hmi
          -- N n * M j < N j * M n and N j * M i ≤ N i * M j
          have a1 : (N n * M i) * M j ≤ (N i * M n) * M j := by
            have b1 : (N n * M j) * M i ≤ (N j * M n) * M i := Int.mul_le_mul_of_nonneg_right (Int.le_of_lt hn.2) (Int.le_of_lt hmi)
            have b2 : (N j * M i) * M n ≤ (N i * M j) * M n := Int.mul_le_mul_of_nonneg_right h1 (Int.le_of_lt hn.1)
            have e1 : (N n * M i) * M j = (N n * M j) * M i := by grind
            have e2 : (N j * M n) * M i = (N j * M i) * M n := by grind
            have e3 : (N i * M n) * M j = (N i * M j) * M n := by grind
            omega
          exact Int.le_of_mul_le_mul_right a1 mj
        · have : i = n := by omega
          subst this; exact Int.le_refl _
      · refine ⟨j, by omega, mj, fun i hi hmi => ?_⟩
        rcases Nat.lt_or_ge i n with q | q
        · exact hall i q hmi
        · have : i = n := by omega
          subst this
          exact Int.not_lt.1 fun q => hn ⟨hmi, q⟩
    · have : i = n := by
        rcases Nat.lt_or_ge i n with q | q
        · exact absurd ⟨i, q, hm⟩ hex
        · omega
      subst this
      refine ⟨i, hi, hm, fun k hk hmk => ?_⟩
      have : k = i := by
        rcases Nat.lt_or_ge k i with q | q
        · exact absurd ⟨k, q, hmk⟩ hex
        · omega
      subst this
      exact Int.le_refl _
theorem sgn_ne {p q : Int} (h1 : p ≤ 0) (h2 : 0 ≤ q) (h3 : p ≠ q) : sgn p ≠ sgn q := by unfold sgn; split <;> split <;> (try split) <;> (try split) <;> omega
/-- The corner ahead and the corner behind. -/
def nx (ps : List P2) (k : Nat) : Nat := (k + 1) % ps.length
theorem nx_lt {ps : List P2} {k : Nat} (h : k < ps.length) : nx ps k < ps.length := Nat.mod_lt _ (by omega)
theorem nx_cases {ps : List P2} {k : Nat} (h : k < ps.length) : (k + 1 < ps.length ∧ nx ps k = k + 1) ∨ (k + 1 = ps.length ∧ nx ps k = 0) := by
  unfold nx
  by_cases q : k + 1 < ps.length
  · exact .inl ⟨q, Nat.mod_eq_of_lt q⟩
  · exact .inr ⟨by omega, by rw [show k + 1 = ps.length by omega, Nat.mod_self]⟩
theorem pv_ex {ps : List P2} {k : Nat} (h : k < ps.length) : ∃ a, a < ps.length ∧ nx ps a = k := by
  by_cases h0 : k = 0
  · exact ⟨ps.length - 1, by omega, by unfold nx; rw [show ps.length - 1 + 1 = ps.length by omega, Nat.mod_self, h0]⟩
  · exact ⟨k - 1, by omega, by unfold nx; rw [show k - 1 + 1 = k by omega, Nat.mod_eq_of_lt h]⟩
/-- A segment that leaves a convex polygon meets an edge. -/
theorem leaves {ps : List P2} (hc : Ccw ps) (hn : 3 ≤ ps.length) {x y : P2} (hx : Ins ps x) (hy : ¬ Ins ps y) : ∃ j, j < ps.length ∧ Meet x y (cor ps j) (cor ps (nx ps j)) := by
  have hex : ∃ i, i < ps.length ∧ 0 < - cr (cor ps i) (cor ps (nx ps i)) y := by
    refine Classical.byContradiction fun q => hy fun k hk => ?_
    rcases Int.lt_or_le (cr (cor ps k) (cor ps ((k + 1) % ps.length)) y) 0 with z | z
    · exact absurd ⟨k, hk, (show 0 < - cr (cor ps k) (cor ps (nx ps k)) y by unfold nx; omega)⟩ q
    · exact z
  obtain ⟨j, hj, mj, hall⟩ := least_ratio (fun i => cr (cor ps i) (cor ps (nx ps i)) x) (fun i => - cr (cor ps i) (cor ps (nx ps i)) y) ps.length hex
  have hxi : ∀ i, i < ps.length → 0 ≤ cr (cor ps i) (cor ps (nx ps i)) x := fun i hi => hx i hi
  -- at the place where it leaves, no edge is behind
  have hz : ∀ i, i < ps.length → 0 ≤ cr (cor ps i) (cor ps (nx ps i)) x * (- cr (cor ps j) (cor ps (nx ps j)) y) + cr (cor ps i) (cor ps (nx ps i)) y * cr (cor ps j) (cor ps (nx ps j)) x := by
    intro i hi
    have a1 := hxi i hi
    have a2 := hxi j hj
    rcases Int.lt_or_le 0 (- cr (cor ps i) (cor ps (nx ps i)) y) with q | q
    · have := hall i hi q
      have e : cr (cor ps i) (cor ps (nx ps i)) y * cr (cor ps j) (cor ps (nx ps j)) x = - (cr (cor ps j) (cor ps (nx ps j)) x * (- cr (cor ps i) (cor ps (nx ps i)) y)) := by grind
      omega
    · have k1 := Int.mul_nonneg a1 (Int.le_of_lt mj)
      have k2 : 0 ≤ cr (cor ps i) (cor ps (nx ps i)) y * cr (cor ps j) (cor ps (nx ps j)) x := Int.mul_nonneg (by omega) a2
      omega
  obtain ⟨a, ha, ea⟩ := pv_ex hj
  have hnj := nx_lt hj
  -- the two corners of the edge are on both sides of the segment
  have hne : ∀ k, k < ps.length → nx ps k ≠ k := fun k hk => by rcases nx_cases hk with q | q <;> omega
  have hne2 : ∀ k, k < ps.length → nx ps (nx ps k) ≠ k := fun k hk => by
    have hk2 := nx_lt hk
    rcases nx_cases hk with q | q <;> rcases nx_cases hk2 with r | r <;> omega
  have c1 : 0 < cr (cor ps a) (cor ps j) (cor ps (nx ps j)) := by
    have := hc.edg a (nx ps j) ha hnj (by rw [← ea]; exact hne2 a ha) (by show nx ps j ≠ nx ps a; rw [ea]; exact hne j hj)
    change 0 < cr (cor ps a) (cor ps (nx ps a)) _ at this
    rw [ea] at this
    exact this
  have c2 : 0 < cr (cor ps (nx ps j)) (cor ps (nx ps (nx ps j))) (cor ps j) := hc.edg (nx ps j) j hnj hj (hne j hj).symm (fun e => hne2 j hj e.symm)
  have z1 := hz a ha
  have z2 := hz (nx ps j) hnj
  rw [ea] at z1
  have hBx : 0 ≤ cr (cor ps j) (cor ps (nx ps j)) x := hxi j hj
  refine ⟨j, hj, ?_⟩
  clear hxi hz hall hne hne2
  generalize cor ps a = A at *
  generalize cor ps j = B at *
  generalize cor ps (nx ps j) = C at *
  generalize cor ps (nx ps (nx ps j)) = D at *
  have i1 : cr A B x * (- cr B C y) + cr A B y * cr B C x = cr A B C * (- cr x y B) := by unfold cr; grind
  have i2 : cr C D x * (- cr B C y) + cr C D y * cr B C x = cr C D B * cr x y C := by unfold cr; grind
  have i3 : cr x y C - cr x y B = cr B C x - cr B C y := by unfold cr; grind
  rw [i1] at z1
  rw [i2] at z2
  have p1 := nonneg_of_mul c1 z1
  have p2 := nonneg_of_mul c2 z2
  refine .inl ⟨sgn_ne (by omega) p2 (by omega), ?_⟩
  exact (sgn_ne (by omega) hBx (by omega)).symm
/-- Where no edges meet, all corners are inside if one is. -/
theorem all_ins {as9 bs : List P2} (hb : Ccw bs) (nb : 3 ≤ bs.length) (hno : ∀ k j, k < as9.length → j < bs.length → ¬ Meet (cor as9 k) (cor as9 (nx as9 k)) (cor bs j) (cor bs (nx bs j))) {k : Nat} (hk : k < as9.length) (hi : Ins bs (cor as9 k)) :
    ∀ m, m < as9.length → Ins bs (cor as9 m) := by
  have step : ∀ k, k < as9.length → Ins bs (cor as9 k) → Ins bs (cor as9 (nx as9 k)) := fun k hk hi => by
    refine Classical.byContradiction fun q => ?_
    obtain ⟨j, hj, hm⟩ := leaves hb nb hi q
    exact hno k j hk hj hm
  have fwd : ∀ d, k + d < as9.length → Ins bs (cor as9 (k + d)) := by
    intro d
    induction d with
    | zero => intro _; exact hi
    | succ d ih =>
      intro h
      have := step (k + d) (by omega) (ih (by omega))
      rcases nx_cases (ps := as9) (k := k + d) (by omega) with q | q
      · rw [q.2] at this; exact this
      · omega
  have first : Ins bs (cor as9 0) := by
    have h1 := fwd (as9.length - 1 - k) (by omega)
    have := step _ (by omega) h1
    rcases nx_cases (ps := as9) (k := k + (as9.length - 1 - k)) (by omega) with q | q
    · omega
    · rw [q.2] at this; exact this
  intro m
  induction m with
  | zero => intro _; exact first
  | succ m ih =>
    intro h
    have := step m (by omega) (ih (by omega))
    rcases nx_cases (ps := as9) (k := m) (by omega) with q | q
    · rw [q.2] at this; exact this
    · omega
/-- Two convex polygons have a common point. -/
def CMeet (as9 bs : List P2) : Prop :=
  (∃ k, k < as9.length ∧ ((Ins bs (cor as9 k) ∨ Ins bs (cor as9 (nx as9 k))) ∨ ∃ j, j < bs.length ∧ Meet (cor as9 k) (cor as9 (nx as9 k)) (cor bs j) (cor bs (nx bs j)))) ∨ Ins as9 (cor bs 0)
theorem CMeet.symm {as9 bs : List P2} (na : 3 ≤ as9.length) (hb : Ccw bs) (nb : 3 ≤ bs.length) (h : CMeet as9 bs) : CMeet bs as9 := by
  by_cases hex : ∃ k j, k < as9.length ∧ j < bs.length ∧ Meet (cor as9 k) (cor as9 (nx as9 k)) (cor bs j) (cor bs (nx bs j))
  · obtain ⟨k, j, hk, hj, hm⟩ := hex
    exact .inl ⟨j, hj, .inr ⟨k, hk, hm.symm⟩⟩
  · have hno : ∀ k j, k < as9.length → j < bs.length → ¬ Meet (cor as9 k) (cor as9 (nx as9 k)) (cor bs j) (cor bs (nx bs j)) := fun k j hk hj hm => hex ⟨k, j, hk, hj, hm⟩
    rcases h with ⟨k, hk, (h | h) | ⟨j, hj, hm⟩⟩ | h
    · exact .inr (all_ins hb nb hno hk h 0 (by omega))
    · exact .inr (all_ins hb nb hno (nx_lt hk) h 0 (by omega))
    · exact absurd hm (hno k j hk hj)
    · exact .inl ⟨0, by omega, .inl (.inl h)⟩
theorem cmeet_symm {as9 bs : List P2} (ha : Ccw as9) (na : 3 ≤ as9.length) (hb : Ccw bs) (nb : 3 ≤ bs.length) : CMeet as9 bs ↔ CMeet bs as9 := ⟨CMeet.symm na hb nb, CMeet.symm nb ha na⟩
theorem cmeet_corner {as9 bs : List P2} {k : Nat} (hk : k < as9.length) (h : Ins bs (cor as9 k)) : CMeet as9 bs := .inl ⟨k, hk, .inl (.inl h)⟩
theorem cmeet_self {as9 : List P2} (ha : Ccw as9) (na : 3 ≤ as9.length) : CMeet as9 as9 := cmeet_corner (k := 0) (by omega) (ha.corner (by omega))
end Go.Proofs.Ytppkipcgpmijpaa
namespace Go.Proofs.Ytppkipcgpmijpaa
set_option maxRecDepth 100000
/-- In lexicographic order. -/
def lt2 (a b : P2) : Prop := a.1 < b.1 ∨ (a.1 = b.1 ∧ a.2 < b.2)
def le2 (a b : P2) : Prop := a.1 < b.1 ∨ (a.1 = b.1 ∧ a.2 ≤ b.2)
theorem le2_refl (a : P2) : le2 a a := .inr ⟨rfl, Int.le_refl _⟩
theorem le2_trans {a b c : P2} (h : le2 a b) (k : le2 b c) : le2 a c := by unfold le2 at *; omega
theorem lt2_of_lt_le {a b c : P2} (h : lt2 a b) (k : le2 b c) : lt2 a c := by unfold lt2 le2 at *; omega
theorem lt2_of_le_lt {a b c : P2} (h : le2 a b) (k : lt2 b c) : lt2 a c := by unfold lt2 le2 at *; omega
theorem lt2_le {a b : P2} (h : lt2 a b) : le2 a b := by unfold lt2 le2 at *; omega
theorem le2_anti {a b : P2} (h : le2 a b) (k : le2 b a) : a = b := by unfold le2 at *; exact Prod.ext (by omega) (by omega)
theorem le2_lt {a b : P2} (h : le2 a b) (n : a ≠ b) : lt2 a b := by
  unfold lt2 le2 at *
  have : ¬ (a.1 = b.1 ∧ a.2 = b.2) := fun e => n (Prod.ext e.1 e.2)
  omega
theorem lt2_ne {a b : P2} (h : lt2 a b) : a ≠ b := by rintro rfl; unfold lt2 at h; omega
theorem le2_total (a b : P2) : le2 a b ∨ lt2 b a := by unfold lt2 le2; omega
/-- A vector that leads forward. -/
def fw (u : P2) : Prop := 0 < u.1 ∨ (u.1 = 0 ∧ 0 < u.2)
/-- The cross product of two vectors. -/
def xp (u v : P2) : Int := u.1 * v.2 - u.2 * v.1
def vec (a b : P2) : P2 := (b.1 - a.1, b.2 - a.2)
theorem fw_vec {a b : P2} (h : lt2 a b) : fw (vec a b) := by unfold fw vec lt2 at *; simp only; omega
/-- Of three vectors that lead forward: turning is transitive. -/
theorem xp_trans {u v w : P2} (hu : fw u) (hv : fw v) (hw : fw w) (h1 : 0 ≤ xp u v) (h2 : 0 ≤ xp v w) : 0 ≤ xp u w := by
  have e1 : v.1 * xp u w = u.1 * xp v w + w.1 * xp u v := by unfold xp; grind
  have e2 : v.2 * xp u w = u.2 * xp v w + w.2 * xp u v := by unfold xp; grind
  have u1 : 0 ≤ u.1 := by unfold fw at hu; omega
  have w1 : 0 ≤ w.1 := by unfold fw at hw; omega
  rcases hv with k | ⟨k, k2⟩
  · have a1 := Int.mul_nonneg u1 h2
    have a2 := Int.mul_nonneg w1 h1
    exact nonneg_of_mul k (by omega)
  · have w0 : w.1 = 0 := by
      have : xp v w = - (v.2 * w.1) := by unfold xp; rw [k]; omega
      rcases Int.lt_or_le 0 w.1 with q | q
      · have := Int.mul_pos k2 q; omega
      · omega
    have w2 : 0 < w.2 := by unfold fw at hw; omega
    have : xp u w = u.1 * w.2 := by unfold xp; rw [w0]; omega
    rw [this]
    exact Int.mul_nonneg u1 (by omega)
theorem xp_trans1 {u v w : P2} (hu : fw u) (hv : fw v) (hw : fw w) (h1 : 0 < xp u v) (h2 : 0 ≤ xp v w) : 0 < xp u w := by
  have h := xp_trans hu hv hw (by omega) h2
  have e1 : v.1 * xp u w = u.1 * xp v w + w.1 * xp u v := by unfold xp; grind
  have e2 : v.2 * xp u w = u.2 * xp v w + w.2 * xp u v := by unfold xp; grind
  rcases Int.lt_or_le 0 (xp u w) with q | q
  · exact q
  · exfalso
    have z : xp u w = 0 := by omega
    rw [z, Int.mul_zero] at e1 e2
    have u1 : 0 ≤ u.1 := by unfold fw at hu; omega
    have w1 : 0 ≤ w.1 := by unfold fw at hw; omega
    have a1 := Int.mul_nonneg u1 h2
    have a2 := Int.mul_nonneg w1 (by omega : 0 ≤ xp u v)
    have w0 : w.1 = 0 := by
      rcases Int.lt_or_le 0 w.1 with q | q
      · have := Int.mul_pos q h1; omega
      · omega
    have w2 : 0 < w.2 := by unfold fw at hw; omega
    have z2 : xp u w = u.1 * w.2 := by unfold xp; rw [w0]; omega
    have u0 : u.1 = 0 := by
      rcases Int.lt_or_le 0 u.1 with q | q
      · have := Int.mul_pos q w2; omega
      · omega
    have z3 : xp u v = - (u.2 * v.1) := by unfold xp; rw [u0]; omega
    have v1 : 0 ≤ v.1 := by unfold fw at hv; omega
    have := Int.mul_nonneg (by unfold fw at hu; omega : 0 ≤ u.2) v1
    omega
theorem xp_trans2 {u v w : P2} (hu : fw u) (hv : fw v) (hw : fw w) (h1 : 0 ≤ xp u v) (h2 : 0 < xp v w) : 0 < xp u w := by
  -- in the mirror
  have m1 : xp (w.1, - w.2) (v.1, - v.2) = xp v w := by unfold xp; grind
  have h := xp_trans hu hv hw h1 (by omega)
  have e1 : v.1 * xp u w = u.1 * xp v w + w.1 * xp u v := by unfold xp; grind
  rcases Int.lt_or_le 0 (xp u w) with q | q
  · exact q
  · exfalso
    have z : xp u w = 0 := by omega
    rw [z, Int.mul_zero] at e1
    have u1 : 0 ≤ u.1 := by unfold fw at hu; omega
    have w1 : 0 ≤ w.1 := by unfold fw at hw; omega
    have a1 := Int.mul_nonneg u1 (by omega : 0 ≤ xp v w)
    have a2 := Int.mul_nonneg w1 h1
    have u0 : u.1 = 0 := by
      rcases Int.lt_or_le 0 u.1 with q | q
      · have := Int.mul_pos q h2; omega
      · omega
    have u2 : 0 < u.2 := by unfold fw at hu; omega
    have z2 : xp u w = - (u.2 * w.1) := by unfold xp; rw [u0]; omega
    have w0 : w.1 = 0 := by
      rcases Int.lt_or_le 0 w.1 with q | q
      · have := Int.mul_pos u2 q; omega
      · omega
    have z3 : xp u v = - (u.2 * v.1) := by unfold xp; rw [u0]; omega
    have v0 : v.1 = 0 := by
      rcases Int.lt_or_le 0 v.1 with q | q
      · have := Int.mul_pos u2 q; omega
      · unfold fw at hv; omega
    have z4 : xp v w = 0 := by unfold xp; rw [v0, w0]; simp
    omega
/-- q lies above the edge from a to b, or on it. -/
def Dn (a b q : P2) : Prop := 0 < cr a b q ∨ (cr a b q = 0 ∧ le2 a q ∧ le2 q b)
theorem Dn.nonneg {a b q : P2} (h : Dn a b q) : 0 ≤ cr a b q := by unfold Dn at h; omega
/-- The stack, the last corner first: every edge has all points above it, and the first corner is the least. -/
def Stk (P : List P2) : List P2 → Prop
  | [] => False
  | [a] => ∀ q ∈ P, le2 a q
  | b :: a :: s => lt2 a b ∧ (∀ q ∈ P, Dn a b q) ∧ Stk P (a :: s)
theorem Stk.pop {P : List P2} {b a : P2} {s : List P2} (h : Stk P (b :: a :: s)) : Stk P (a :: s) := h.2.2
theorem cr_xp (a b c : P2) : cr a b c = xp (vec a b) (vec a c) := by unfold cr xp vec; simp only
theorem cr_xp2 (a b c : P2) : cr a b c = xp (vec a b) (vec b c) := by unfold cr xp vec; simp only; grind
/-- A point ahead that is left of the last edge is left of all edges. -/
theorem Stk.left {P : List P2} {p : P2} : ∀ {s : List P2} {b a : P2}, Stk P (b :: a :: s) → (∀ x ∈ b :: a :: s, x ∈ P) → lt2 b p → 0 < cr a b p → Stk (p :: P) (b :: a :: s)
  | [], b, a, h, _, hp, hc => ⟨h.1, fun q hq => by
      rcases List.mem_cons.1 hq with e | e
      · subst e; exact .inl hc
      · exact h.2.1 q e, fun q hq => by
      rcases List.mem_cons.1 hq with e | e
      · subst e; exact lt2_le (lt2_of_lt_le h.1 (lt2_le hp))
      · exact h.2.2 q e⟩
  | c :: s, b, a, h, hm, hp, hc => by
    refine ⟨h.1, fun q hq => ?_, ?_⟩
    · rcases List.mem_cons.1 hq with e | e
      · subst e; exact .inl hc
      · exact h.2.1 q e
    · have h2 := h.2.2
      have hap : lt2 a p := lt2_of_lt_le h.1 (lt2_le hp)
      refine Stk.left h2 (fun x hx => hm x (List.mem_cons_of_mem _ hx)) hap ?_
      -- c a b turns left, a b p turns left
      have t : 0 < cr c a b := by
        rcases h2.2.1 b (hm b List.mem_cons_self) with k | ⟨k, k1, k2⟩
        · exact k
        · exact absurd (lt2_of_lt_le h.1 k2) (fun z => lt2_ne z rfl)
      rw [cr_xp2] at t hc ⊢
      have x1 : 0 < xp (vec c a) (vec b p) := xp_trans1 (fw_vec h2.1) (fw_vec h.1) (fw_vec hp) t (by omega)
      have x2 := xp_trans1 (fw_vec h2.1) (fw_vec h.1) (fw_vec hap) t (by
        have : xp (vec a b) (vec a p) = xp (vec a b) (vec b p) := by rw [← cr_xp, ← cr_xp2]
        omega)
      exact x2
/-- A corner is laid upon the stack. -/
theorem Stk.push {P : List P2} {p t : P2} {s : List P2} (h : Stk P (t :: s)) (hm : ∀ x ∈ t :: s, x ∈ P) (hmax : ∀ q ∈ P, le2 q p) (htp : lt2 t p)
    (hup : (∀ q ∈ P, le2 q t) ∨ ∃ u, lt2 t u ∧ cr t u p ≤ 0 ∧ ∀ q ∈ P, Dn t u q) (hdn : ∀ a s', s = a :: s' → 0 < cr a t p) : Stk (p :: P) (p :: t :: s) := by
  refine ⟨htp, fun q hq => ?_, ?_⟩
  · rcases List.mem_cons.1 hq with e | e
    · subst e; exact .inr ⟨cr_same2 _ _, lt2_le htp, le2_refl _⟩
    · by_cases hqt : q = t
      · subst hqt; exact .inr ⟨cr_same3 _ _, le2_refl _, lt2_le htp⟩
      · rcases le2_total t q with k | k
        · have ltq : lt2 t q := le2_lt k (Ne.symm hqt)
          rcases hup with u | ⟨u, u1, u2, u3⟩
          · exact absurd (le2_anti (u q e) k) hqt
          · have d := (u3 q e).nonneg
            have : 0 ≤ cr t p q := by
              rw [cr_xp] at u2 d ⊢
              have u2' : 0 ≤ xp (vec t p) (vec t u) := by
                have : xp (vec t p) (vec t u) = - xp (vec t u) (vec t p) := by unfold xp; grind
                omega
              exact xp_trans (fw_vec htp) (fw_vec u1) (fw_vec ltq) u2' d
            rcases Int.lt_or_le 0 (cr t p q) with z | z
            · exact .inl z
            · exact .inr ⟨by omega, k, hmax q e⟩
        · -- q comes ahead of t
          cases s with
          | nil => exact absurd (h q e) (fun z => lt2_ne (lt2_of_lt_le k z) rfl)
          | cons a s' =>
            have c := hdn a s' rfl
            have d := (h.2.1 q e).nonneg
            refine .inl ?_
            have d' : 0 ≤ xp (vec q t) (vec a t) := by
              have : xp (vec q t) (vec a t) = cr a t q := by unfold xp vec cr; simp only; grind
              omega
            rw [cr_xp2] at c
            have := xp_trans2 (fw_vec k) (fw_vec h.1) (fw_vec htp) d' c
            have e2 : xp (vec q t) (vec t p) = cr t p q := by unfold xp vec cr; simp only; grind
            omega
  · cases s with
    | nil =>
      intro q hq
      rcases List.mem_cons.1 hq with e | e
      · subst e; exact lt2_le htp
      · exact h q e
    | cons a s' => exact h.left hm htp (hdn a s' rfl)
/-- The program's inner loop, and its outer one. -/
def popTo (p : P2) : List P2 → List P2
  | b :: a :: s => if cr a b p ≤ 0 then popTo p (a :: s) else b :: a :: s
  | [a] => [a]
  | [] => []
def bord (s : List P2) (ps : List P2) : List P2 := ps.foldl (fun s p => p :: popTo p s) s
/-- Between two points: all are one point, or the stack is as it should be. -/
def Bst (P s : List P2) : Prop := (P = [] ∧ s = []) ∨ (∃ a, a ∈ P ∧ (∀ q ∈ P, q = a) ∧ (s = [a] ∨ s = [a, a])) ∨ (2 ≤ s.length ∧ Stk P s ∧ (∀ x ∈ s, x ∈ P) ∧ ∀ q ∈ P, le2 q (s.getD 0 (0, 0)))
theorem popTo_stk {P : List P2} {p : P2} (hmax : ∀ q ∈ P, le2 q p) : ∀ (s : List P2) (t : P2), Stk P (t :: s) → (∀ x ∈ t :: s, x ∈ P) →
    ((∀ q ∈ P, le2 q t) ∨ ∃ u, lt2 t u ∧ cr t u p ≤ 0 ∧ ∀ q ∈ P, Dn t u q) → (s = [] → lt2 t p) → Stk (p :: P) (p :: popTo p (t :: s)) ∧ (∀ x ∈ popTo p (t :: s), x ∈ P) ∧ popTo p (t :: s) ≠ []
  | [], t, h, hm, hup, h0 => ⟨h.push hm hmax (h0 rfl) hup (fun _ _ e => by cases e), hm, by simp [popTo]⟩
  | a :: s, t, h, hm, hup, _ => by
    unfold popTo
    by_cases c : cr a t p ≤ 0
    · rw [if_pos c]
      exact popTo_stk hmax s a h.pop (fun x hx => hm x (List.mem_cons_of_mem _ hx)) (.inr ⟨t, h.1, c, h.2.1⟩) (fun _ => lt2_of_lt_le h.1 (hmax t (hm t List.mem_cons_self)))
    · rw [if_neg c]
      have tp : lt2 t p := le2_lt (hmax t (hm t List.mem_cons_self)) (fun e => by subst e; rw [cr_same2] at c; omega)
      exact ⟨h.push hm hmax tp hup (fun a' s' e => by obtain ⟨rfl, rfl⟩ := List.cons.inj e; omega), hm, by simp⟩
theorem Bst.step {P s : List P2} {p : P2} (h : Bst P s) (hmax : ∀ q ∈ P, le2 q p) : Bst (p :: P) (p :: popTo p s) := by
  have mx : ∀ q ∈ p :: P, le2 q p := fun q hq => by
    rcases List.mem_cons.1 hq with e | e
    · subst e; exact le2_refl _
    · exact hmax q e
  rcases h with ⟨rfl, rfl⟩ | ⟨a, ha, hall, hs⟩ | ⟨hl, hst, hm, htop⟩
  · exact .inr (.inl ⟨p, List.mem_cons_self, fun q hq => by simpa using hq, .inl rfl⟩)
  · have e : popTo p s = [a] := by
      rcases hs with rfl | rfl
      · rfl
      · unfold popTo; rw [cr_same, if_pos (Int.le_refl 0)]; rfl
    rw [e]
    by_cases hp : p = a
    · subst hp
      exact .inr (.inl ⟨p, List.mem_cons_self, fun q hq => by
        rcases List.mem_cons.1 hq with e | e
        · exact e
        · exact hall q e, .inr rfl⟩)
    · have hap : lt2 a p := le2_lt (hmax a ha) (Ne.symm hp)
      refine .inr (.inr ⟨by simp, ?_, ?_, mx⟩)
      · exact Stk.push (s := []) (fun q hq => by rw [hall q hq]; exact le2_refl _) (fun x hx => by rw [List.mem_singleton.1 hx]; exact ha) hmax hap (.inl fun q hq => by rw [hall q hq]; exact le2_refl _) (fun _ _ e => by cases e)
      · intro x hx
        rcases List.mem_cons.1 hx with e | e
        · rw [e]; exact List.mem_cons_self
        · rw [List.mem_singleton.1 e]; exact List.mem_cons_of_mem _ ha
  · obtain ⟨t, s', rfl⟩ : ∃ t s', s = t :: s' := by cases s with | nil => simp at hl | cons t s' => exact ⟨t, s', rfl⟩
    have ns : s' ≠ [] := fun e => by rw [e] at hl; simp at hl
    obtain ⟨k1, k2, k3⟩ := popTo_stk hmax s' t hst hm (.inl htop) (fun e => absurd e ns)
    refine .inr (.inr ⟨?_, k1, fun x hx => ?_, mx⟩)
    · have := List.length_pos_iff.2 k3
      simp only [List.length_cons]; omega
    · rcases List.mem_cons.1 hx with e | e
      · rw [e]; exact List.mem_cons_self
      · exact List.mem_cons_of_mem _ (k2 x e)
/-- The points come in their order. -/
def Asc (ps : List P2) : Prop := ps.Pairwise le2
theorem Bst.run : ∀ (ps P s : List P2), Bst P s → Asc ps → (∀ q ∈ P, ∀ p ∈ ps, le2 q p) → Bst (ps.reverse ++ P) (bord s ps)
  | [], _, _, h, _, _ => by simpa [bord] using h
  | p :: ps, P, s, h, ha, hb => by
    have h1 := h.step (fun q hq => hb q hq p List.mem_cons_self)
    have a2 := List.pairwise_cons.1 ha
    have := Bst.run ps (p :: P) (p :: popTo p s) h1 a2.2 (fun q hq r hr => by
      rcases List.mem_cons.1 hq with e | e
      · rw [e]; exact a2.1 r hr
      · exact hb q e r (List.mem_cons_of_mem _ hr))
    simpa [bord, List.reverse_cons, List.append_assoc] using this
end Go.Proofs.Ytppkipcgpmijpaa
namespace Go.Proofs.Ytppkipcgpmijpaa
set_option maxRecDepth 100000
def ng (p : P2) : P2 := (-p.1, -p.2)
theorem cr_ng (a b c : P2) : cr (ng a) (ng b) (ng c) = cr a b c := by unfold cr ng; simp only; grind
theorem sq2_ng (a b : P2) : sq2 (ng a) (ng b) = sq2 a b := by unfold sq2 ng; simp only; grind
theorem ng_inj {a b : P2} (h : ng a = ng b) : a = b := by
  have h1 := congrArg Prod.fst h
  have h2 := congrArg Prod.snd h
  unfold ng at h1 h2; simp only at h1 h2
  exact Prod.ext (by omega) (by omega)
theorem le2_ng {a b : P2} (h : le2 a b) : le2 (ng b) (ng a) := by unfold le2 ng at *; simp only; omega
theorem lt2_ng {a b : P2} (h : lt2 (ng a) (ng b)) : lt2 b a := by unfold lt2 ng at *; simp only at h; omega
theorem le2_ng' {a b : P2} (h : le2 (ng a) (ng b)) : le2 b a := by unfold le2 ng at *; simp only at h; omega
theorem popTo_ng (p : P2) : ∀ s : List P2, popTo (ng p) (s.map ng) = (popTo p s).map ng
  | [] => rfl
  | [a] => rfl
  | b :: a :: s => by
    have ih := popTo_ng p (a :: s)
    unfold popTo
    simp only [List.map_cons] at ih ⊢
    rw [cr_ng]
    by_cases c : cr a b p ≤ 0
    · rw [if_pos c, if_pos c, ih]
    · rw [if_neg c, if_neg c]; rfl
theorem bord_ng : ∀ (ps s : List P2), bord (s.map ng) (ps.map ng) = (bord s ps).map ng
  | [], s => rfl
  | p :: ps, s => by
    have := bord_ng ps (p :: popTo p s)
    unfold bord at *
    simp only [List.map_cons, List.foldl_cons] at this ⊢
    rw [popTo_ng, this]
/-- On the line of an edge, between its ends: not farther. -/
theorem dn_near {a b q : P2} (hab : lt2 a b) (h0 : cr a b q = 0) (h1 : le2 a q) (h2 : le2 q b) : sq2 a q ≤ sq2 a b := by
  have sqm : ∀ x y : Int, 0 ≤ x → x ≤ y → x * x ≤ y * y := fun x y hx hy => Int.mul_le_mul hy hy hx (by omega)
  by_cases k : a.1 < b.1
  · have d0 : 0 ≤ q.1 - a.1 := by unfold le2 at h1; omega
    have d1 : q.1 - a.1 ≤ b.1 - a.1 := by unfold le2 at h2; omega
    have e : (b.1 - a.1) * (b.1 - a.1) * sq2 a q = (q.1 - a.1) * (q.1 - a.1) * sq2 a b := by
      have c : (b.1 - a.1) * (q.2 - a.2) = (b.2 - a.2) * (q.1 - a.1) := by unfold cr at h0; omega
      have x1 : (b.1 - a.1) * (b.1 - a.1) * sq2 a q = (b.1 - a.1) * (b.1 - a.1) * ((q.1 - a.1) * (q.1 - a.1)) + ((b.1 - a.1) * (q.2 - a.2)) * ((b.1 - a.1) * (q.2 - a.2)) := by unfold sq2; grind
      rw [x1, c]
      unfold sq2; grind
    have m := sqm _ _ d0 d1
    have m2 : (q.1 - a.1) * (q.1 - a.1) * sq2 a b ≤ (b.1 - a.1) * (b.1 - a.1) * sq2 a b := Int.mul_le_mul_of_nonneg_right m (sq2_nonneg _ _)
    have pos : 0 < (b.1 - a.1) * (b.1 - a.1) := Int.mul_pos (by omega) (by omega)
    rw [← e] at m2
    exact Int.le_of_mul_le_mul_left m2 pos
  · have e1 : a.1 = b.1 := by unfold lt2 at hab; omega
    have e2 : q.1 = a.1 := by unfold le2 at h1 h2; omega
    have m := sqm (q.2 - a.2) (b.2 - a.2) (by unfold le2 at h1; omega) (by unfold le2 at h2; omega)
    have s1 : (a.2 - q.2) * (a.2 - q.2) = (q.2 - a.2) * (q.2 - a.2) := by grind
    have s2 : (a.2 - b.2) * (a.2 - b.2) = (b.2 - a.2) * (b.2 - a.2) := by grind
    unfold sq2
    rw [e2, ← e1, s1, s2]
    omega
theorem dn_nxt {S : List P2} {a b : P2} (hab : lt2 a b) (hb : b ∈ S) (h : ∀ q ∈ S, Dn a b q) : Nxt S a b := by
  refine ⟨hb, fun e => lt2_ne hab e.symm, fun p hp hpa => ?_⟩
  rcases h p hp with k | ⟨k, k1, k2⟩
  · exact .inl k
  · exact .inr ⟨k, dn_near hab k k1 k2⟩
theorem nxt_ng {S : List P2} {a b : P2} (h : Nxt (S.map ng) (ng a) (ng b)) : Nxt S a b := by
  refine ⟨?_, fun e => h.ne (by rw [e]), fun p hp hpa => ?_⟩
  · obtain ⟨q, hq, e⟩ := List.mem_map.1 h.mem
    rw [← ng_inj e]; exact hq
  · have := h.all (ng p) (List.mem_map.2 ⟨p, hp, rfl⟩) (fun e => hpa (ng_inj e))
    rw [cr_ng, sq2_ng, sq2_ng] at this
    exact this
theorem cor_cons (a : P2) (s : List P2) (i : Nat) : cor (a :: s) (i + 1) = cor s i := by unfold cor; simp
theorem cor_zero (a : P2) (s : List P2) : cor (a :: s) 0 = a := by unfold cor; simp
theorem Stk.edge {P : List P2} : ∀ {s : List P2}, Stk P s → ∀ i, i + 1 < s.length → lt2 (cor s (i + 1)) (cor s i) ∧ ∀ q ∈ P, Dn (cor s (i + 1)) (cor s i) q
  | [], h, _, _ => h.elim
  | [a], _, i, hi => by simp at hi
  | b :: a :: s, h, 0, _ => ⟨h.1, h.2.1⟩
  | b :: a :: s, h, i + 1, hi => by
    have := Stk.edge h.2.2 i (by simp at hi ⊢; omega)
    rw [cor_cons, cor_cons]; exact this
theorem Stk.least {P : List P2} : ∀ {s : List P2}, Stk P s → ∀ q ∈ P, le2 (cor s (s.length - 1)) q
  | [], h, _, _ => h.elim
  | [a], h, q, hq => h q hq
  | b :: a :: s, h, q, hq => by
    have := Stk.least h.2.2 q hq
    rw [show (b :: a :: s).length - 1 = ((a :: s).length - 1) + 1 by simp, cor_cons]
    exact this
theorem Stk.mono {P s : List P2} (h : Stk P s) : ∀ d i, i + d + 1 < s.length → lt2 (cor s (i + d + 1)) (cor s i) := by
  intro d
  induction d with
  | zero => intro i hi; exact (h.edge i hi).1
  | succ d ih =>
    intro i hi
    have a := (h.edge (i + d + 1) (by omega)).1
    have b := ih i (by omega)
    exact lt2_of_lt_le a (lt2_le b)
/-- A hull of S with its first corner, or nothing. -/
def IsHull (S H : List P2) : Prop := (H = [] ∧ ∀ H', ¬ Hull S H') ∨ (Hull S H ∧ ∀ p ∈ S, le2 (cor H 0) p)
theorem IsHull.unique {S H H' : List P2} (h : IsHull S H) (h' : IsHull S H') : H = H' := by
  rcases h with ⟨rfl, n⟩ | ⟨h, l⟩
  · rcases h' with ⟨rfl, _⟩ | ⟨h', _⟩
    · rfl
    · exact absurd h' (n _)
  · rcases h' with ⟨rfl, n⟩ | ⟨h', l'⟩
    · exact absurd h (n _)
    · refine h.unique h' ?_
      have n1 := h.len
      have n2 := h'.len
      exact le2_anti (l _ (h'.sub _ (cor_mem (by omega)))) (l' _ (h.sub _ (cor_mem (by omega))))
/-- The two borders of points in their order. -/
def lowB (ps : List P2) : List P2 := (bord [] ps).reverse
def joinB (lo up : List P2) : List P2 := if lo.length + up.length < 5 then [] else lo.dropLast ++ up.dropLast
theorem cor_rev {s : List P2} {i : Nat} (h : i < s.length) : cor s.reverse i = cor s (s.length - 1 - i) := by
  unfold cor; rw [List.getD_eq_getElem?_getD, List.getD_eq_getElem?_getD, List.getElem?_reverse h]
theorem cor_join {a b : List P2} {i : Nat} (ha : 1 ≤ a.length) (hi : i < a.length - 1) : cor (a.reverse.dropLast ++ b) i = cor a (a.length - 1 - i) := by
  have : i < a.reverse.dropLast.length := by rw [List.length_dropLast, List.length_reverse]; exact hi
  rw [← cor_rev (by omega)]
  unfold cor
  rw [List.getD_eq_getElem?_getD, List.getD_eq_getElem?_getD, List.getElem?_append_left this, List.getElem?_dropLast, if_pos (by rw [List.length_reverse]; exact hi)]
theorem cor_join2 {a b : List P2} {i : Nat} (hi : i + 1 < b.length) : cor (a.reverse.dropLast ++ b.reverse.dropLast) (a.length - 1 + i) = cor b (b.length - 1 - i) := by
  rw [← cor_rev (by omega)]
  unfold cor
  rw [List.getD_eq_getElem?_getD, List.getD_eq_getElem?_getD, List.getElem?_append_right (by simp)]
  simp only [List.length_dropLast, List.length_reverse]
  rw [show a.length - 1 + i - (a.length - 1) = i by omega, List.getElem?_dropLast, if_pos (by rw [List.length_reverse]; omega)]
/-- The corners from the least point on, below, and back, above. -/
theorem join_hull {S sl su : List P2} (ml : 2 ≤ sl.length) (mu : 2 ≤ su.length)
    (el : ∀ i, i + 1 < sl.length → Nxt S (cor sl (i + 1)) (cor sl i)) (eu : ∀ i, i + 1 < su.length → Nxt S (cor su (i + 1)) (cor su i))
    (hmax : cor sl 0 = cor su (su.length - 1)) (hmin : cor sl (sl.length - 1) = cor su 0) (hS : cor sl (sl.length - 1) ∈ S) (hle : ∀ p ∈ S, le2 (cor sl (sl.length - 1)) p)
    (al : ∀ i, i + 1 < sl.length → cor sl i ≠ cor sl (sl.length - 1)) (au : ∀ i, 0 < i → i < su.length → cor su i ≠ cor su 0) : IsHull S (joinB sl.reverse su.reverse) := by
  unfold joinB
  simp only [List.length_reverse]
  by_cases h5 : sl.length + su.length < 5
  · rw [if_pos h5]
    refine .inl ⟨rfl, fun H' hH => ?_⟩
    have e1 : sl.length = 2 := by omega
    have e2 : su.length = 2 := by omega
    have k1 := el 0 (by omega)
    have k2 := eu 0 (by omega)
    rw [e2] at hmax; rw [e1] at hmin
    simp only [Nat.zero_add, Nat.add_one_sub_one] at *
    rw [← hmax, ← hmin] at k2
    exact line_no_hull k1 k2 hH
  · rw [if_neg h5]
    refine .inr ?_
    generalize eH : sl.reverse.dropLast ++ su.reverse.dropLast = H
    have hlen : H.length = sl.length + su.length - 2 := by rw [← eH]; simp; omega
    have lo : ∀ i, i < sl.length - 1 → cor H i = cor sl (sl.length - 1 - i) := fun i hi => by rw [← eH]; exact cor_join (by omega) hi
    have up : ∀ i, i + 1 < su.length → cor H (sl.length - 1 + i) = cor su (su.length - 1 - i) := fun i hi => by rw [← eH]; exact cor_join2 hi
    have h0 : cor H 0 = cor sl (sl.length - 1) := by rw [lo 0 (by omega)]; rfl
    have first : cor H 0 ∈ S ∧ Ext S (cor H 0) := by
      rw [h0]
      exact ⟨hS, least_ext fun p hp => hle p hp⟩
    refine ⟨Chain8.hull ⟨by omega, first, fun i hi => ?_, fun i h1 h2 => ?_⟩ (by omega) ?_, fun p hp => by rw [h0]; exact hle p hp⟩
    · rcases Nat.lt_or_ge (i + 1) (sl.length - 1) with q | q
      · rw [lo i (by omega), lo (i + 1) q]
        have := el (sl.length - 1 - (i + 1)) (by omega)
        rw [show sl.length - 1 - (i + 1) + 1 = sl.length - 1 - i by omega] at this
        exact this
      · rcases Nat.lt_or_ge i (sl.length - 1) with z | z
        · have e : i + 1 = sl.length - 1 + 0 := by omega
          rw [lo i z, e, up 0 (by omega), show su.length - 1 - 0 = su.length - 1 by omega, ← hmax, show sl.length - 1 - i = 0 + 1 by omega]
          exact el 0 (by omega)
        · obtain ⟨j, rfl⟩ : ∃ j, i = sl.length - 1 + j := ⟨i - (sl.length - 1), by omega⟩
          rw [up j (by omega), show sl.length - 1 + j + 1 = sl.length - 1 + (j + 1) by omega, up (j + 1) (by omega)]
          have := eu (su.length - 1 - (j + 1)) (by omega)
          rw [show su.length - 1 - (j + 1) + 1 = su.length - 1 - j by omega] at this
          exact this
    · rw [h0]
      rcases Nat.lt_or_ge i (sl.length - 1) with z | z
      · rw [lo i z]; exact al _ (by omega)
      · obtain ⟨j, rfl⟩ : ∃ j, i = sl.length - 1 + j := ⟨i - (sl.length - 1), by omega⟩
        rw [up j (by omega), hmin]
        exact au _ (by omega) (by omega)
    · rw [h0, hmin, hlen, show sl.length + su.length - 2 - 1 = sl.length - 1 + (su.length - 2) by omega, up (su.length - 2) (by omega), show su.length - 1 - (su.length - 2) = 0 + 1 by omega]
      exact eu 0 (by omega)
theorem getD_zero (s : List P2) : s.getD 0 (0, 0) = cor s 0 := rfl
/-- THE PROGRAM's HULL. -/
theorem mono_hull {S ps : List P2} (hmem : ∀ p, p ∈ S ↔ p ∈ ps) (ha : Asc ps) : IsHull S (joinB (lowB ps) (lowB ps.reverse)) := by
  have bl : Bst ps.reverse (bord [] ps) := by
    have := Bst.run ps [] [] (.inl ⟨rfl, rfl⟩) ha (fun q hq => by cases hq)
    rwa [List.append_nil] at this
  have bu : Bst ((ps.reverse.map ng).reverse) ((bord [] ps.reverse).map ng) := by
    have asc : Asc (ps.reverse.map ng) := by
      unfold Asc at *
      rw [List.pairwise_map, List.pairwise_reverse]
      exact ha.imp le2_ng
    have := Bst.run (ps.reverse.map ng) [] [] (.inl ⟨rfl, rfl⟩) asc (fun q hq => by cases hq)
    rw [List.append_nil] at this
    have e := bord_ng ps.reverse []
    rw [List.map_nil] at e
    rwa [e] at this
  have ml : ∀ p, p ∈ ps.reverse ↔ p ∈ S := fun p => by rw [List.mem_reverse, hmem]
  have mu : ∀ p, p ∈ S → ng p ∈ (ps.reverse.map ng).reverse := fun p hp => by
    rw [List.mem_reverse]; exact List.mem_map.2 ⟨p, by rw [ml]; exact hp, rfl⟩
  have mu' : ∀ q, q ∈ (ps.reverse.map ng).reverse → ∃ p ∈ S, ng p = q := fun q hq => by
    rw [List.mem_reverse] at hq
    obtain ⟨p, hp, e⟩ := List.mem_map.1 hq
    exact ⟨p, (ml p).1 hp, e⟩
  unfold lowB
  generalize bord [] ps = sl at *
  generalize bord [] ps.reverse = su at *
  rcases bl with ⟨e0, rfl⟩ | ⟨a, haP, hall, hs⟩ | ⟨l2, hst, hm, htop⟩
  · -- no points
    have none : ∀ p, p ∉ S := fun p hp => by rw [← ml, e0] at hp; cases hp
    have : su = [] := by
      rcases bu with ⟨_, e⟩ | ⟨a, haP, _⟩ | ⟨l2, hst, hm, _⟩
      · exact List.map_eq_nil_iff.1 e
      · obtain ⟨p, hp, _⟩ := mu' _ haP; exact absurd hp (none p)
      · cases su with
        | nil => rfl
        | cons t s => obtain ⟨p, hp, _⟩ := mu' _ (hm (ng t) (by simp)); exact absurd hp (none p)
    subst this
    exact .inl ⟨rfl, fun H' hH => none _ (hH.sub _ (cor_mem (i := 0) (by have := hH.len; omega)))⟩
  · -- one point
    have one : ∀ p ∈ S, p = a := fun p hp => hall p ((ml p).2 hp)
    have lu : su.length ≤ 2 := by
      rcases bu with ⟨_, e⟩ | ⟨b, _, _, e | e⟩ | ⟨l2, hst, hm, _⟩
      · rw [List.map_eq_nil_iff.1 e]; simp
      · have := congrArg List.length e; simp at this; omega
      · have := congrArg List.length e; simp at this; omega
      · exfalso
        have ed := (hst.edge 0 (by omega)).1
        have c0 := hm _ (cor_mem (i := 0) (by omega))
        have c1 := hm _ (cor_mem (i := 0 + 1) (by omega))
        obtain ⟨p0, q0, e0⟩ := mu' _ c0
        obtain ⟨p1, q1, e1⟩ := mu' _ c1
        rw [← e0, ← e1, one p0 q0, one p1 q1] at ed
        exact lt2_ne ed rfl
    have ll : sl.length ≤ 2 := by rcases hs with e | e <;> (rw [e]; simp)
    unfold joinB
    rw [if_pos (by simp only [List.length_reverse]; omega)]
    exact .inl ⟨rfl, fun H' hH => one_no_hull one hH⟩
  · have edl := hst.edge
    have c0 := hm _ (cor_mem (ps := sl) (i := 0) (by omega))
    have c1 := hm _ (cor_mem (ps := sl) (i := 0 + 1) (by omega))
    rcases bu with ⟨e, _⟩ | ⟨b, _, hb, _⟩ | ⟨k2, kst, km, ktop⟩
    · have := mu _ ((ml _).1 c0); rw [e] at this; cases this
    · exfalso
      have z0 := hb _ (mu _ ((ml _).1 c0))
      have z1 := hb _ (mu _ ((ml _).1 c1))
      exact lt2_ne (edl 0 (by omega)).1 (ng_inj (z1.trans z0.symm))
    · have cm : ∀ i, i < su.length → cor (su.map ng) i = ng (cor su i) := fun i hi => by
        unfold cor
        rw [List.getD_eq_getElem?_getD, List.getD_eq_getElem?_getD, List.getElem?_map, List.getElem?_eq_getElem hi]; rfl
      rw [List.length_map] at k2
      have edu := kst.edge
      rw [List.length_map] at edu
      have minl : ∀ p ∈ S, le2 (cor sl (sl.length - 1)) p := fun p hp => hst.least p ((ml p).2 hp)
      have maxl : ∀ p ∈ S, le2 p (cor sl 0) := fun p hp => htop p ((ml p).2 hp)
      have maxu : ∀ p ∈ S, le2 p (cor su (su.length - 1)) := fun p hp => by
        have := kst.least (ng p) (mu p hp)
        rw [List.length_map, cm _ (by omega)] at this
        exact le2_ng' this
      have minu : ∀ p ∈ S, le2 (cor su 0) p := fun p hp => by
        have := ktop (ng p) (mu p hp)
        rw [getD_zero, cm _ (by omega)] at this
        exact le2_ng' this
      have sL : ∀ i, i < sl.length → cor sl i ∈ S := fun i hi => (ml _).1 (hm _ (cor_mem hi))
      have sU : ∀ i, i < su.length → cor su i ∈ S := fun i hi => by
        obtain ⟨p, hp, e⟩ := mu' _ (km _ (cor_mem (i := i) (by simpa using hi)))
        rw [cm i hi] at e
        rw [← ng_inj e]; exact hp
      refine join_hull l2 k2 (fun i hi => dn_nxt (edl i hi).1 (sL i (by omega)) (fun q hq => (edl i hi).2 q ((ml q).2 hq))) (fun i hi => ?_) ?_ ?_ (sL _ (by omega)) minl ?_ ?_
      · have e := edu i hi
        rw [cm i (by omega), cm (i + 1) hi] at e
        refine nxt_ng (dn_nxt e.1 (List.mem_map.2 ⟨_, sU i (by omega), rfl⟩) (fun q hq => ?_))
        obtain ⟨p, hp, rfl⟩ := List.mem_map.1 hq
        exact e.2 _ (mu p hp)
      · exact le2_anti (maxu _ (sL 0 (by omega))) (maxl _ (sU _ (by omega)))
      · exact le2_anti (minl _ (sU 0 (by omega))) (minu _ (sL _ (by omega)))
      · intro i hi
        have := hst.mono (sl.length - 1 - i - 1) i (by omega)
        rw [show i + (sl.length - 1 - i - 1) + 1 = sl.length - 1 by omega] at this
        exact fun e => lt2_ne this e.symm
      · intro i h1 h2
        have := kst.mono (i - 1) 0 (by rw [List.length_map]; omega)
        rw [show 0 + (i - 1) + 1 = i by omega, cm i h2, cm 0 (by omega)] at this
        exact fun e => lt2_ne this (by rw [e])
end Go.Proofs.Ytppkipcgpmijpaa
namespace Go.Proofs.Ytppkipcgpmijpaa
set_option maxRecDepth 100000
/-- The boxes have a common number. -/
def spans (a b c d : Int) : Prop := min a b ≤ max c d ∧ min c d ≤ max a b
instance (a b c d : Int) : Decidable (spans a b c d) := by unfold spans; infer_instance
/-- c and d are not both on one side. -/
def parts (a b c d : P2) : Prop := sgn (cr a b c) * sgn (cr a b d) ≤ 0
instance (a b c d : P2) : Decidable (parts a b c d) := by unfold parts; infer_instance
def SM (a b c d : P2) : Prop := spans a.1 b.1 c.1 d.1 ∧ spans a.2 b.2 c.2 d.2 ∧ parts a b c d ∧ parts c d a b
theorem sgn_cases (n : Int) : (0 < n ∧ sgn n = 1) ∨ (n = 0 ∧ sgn n = 0) ∨ (n < 0 ∧ sgn n = -1) := by unfold sgn; split <;> (try split) <;> omega
theorem parts_ne {p q : Int} (h : sgn p ≠ sgn q) : sgn p * sgn q ≤ 0 := by
  rcases sgn_cases p with ⟨_, e⟩ | ⟨_, e⟩ | ⟨_, e⟩ <;> rcases sgn_cases q with ⟨_, f⟩ | ⟨_, f⟩ | ⟨_, f⟩ <;> simp only [e, f] at h ⊢ <;> first | omega | exact absurd rfl h
theorem parts_eq {p q : Int} (h : sgn p = sgn q) (hm : sgn p * sgn q ≤ 0) : p = 0 ∧ q = 0 := by
  rcases sgn_cases p with ⟨_, e⟩ | ⟨z, e⟩ | ⟨_, e⟩ <;> rcases sgn_cases q with ⟨_, f⟩ | ⟨y, f⟩ | ⟨_, f⟩ <;> simp only [e, f] at h hm <;> first | exact ⟨z, y⟩ | omega
theorem parts_mul {p q : Int} (h : p * q ≤ 0) : sgn p * sgn q ≤ 0 := by
  rcases sgn_cases p with ⟨k, e⟩ | ⟨_, e⟩ | ⟨k, e⟩ <;> rcases sgn_cases q with ⟨m, f⟩ | ⟨_, f⟩ | ⟨m, f⟩ <;> rw [e, f] <;> try omega
  · have := Int.mul_pos k m; omega
  · have := Int.mul_pos_of_neg_of_neg k m; omega
theorem spans_symm {a b c d : Int} (h : spans a b c d) : spans c d a b := ⟨h.2, h.1⟩
theorem spans_swap {a b c d : Int} (h : spans a b c d) : spans a b d c := by unfold spans at *; omega
theorem SM.symm {a b c d : P2} (h : SM a b c d) : SM c d a b := ⟨spans_symm h.1, spans_symm h.2.1, h.2.2.2, h.2.2.1⟩
theorem SM.swap {a b c d : P2} (h : SM a b c d) : SM a b d c := by
  refine ⟨spans_swap h.1, spans_swap h.2.1, ?_, ?_⟩
  · have := h.2.2.1; unfold parts at *; rw [Int.mul_comm]; exact this
  · have := h.2.2.2; unfold parts at *; rw [cr_swap c d a, cr_swap c d b, sgn_neg7, sgn_neg7, Int.neg_mul_neg]; exact this
/-- On one line: where one coordinate lies between, the other does. -/
theorem colin {D E t s : Int} (h : D * s = E * t) (hD : 0 < D) (h0 : 0 ≤ t) (h1 : t ≤ D) : min 0 E ≤ s ∧ s ≤ max 0 E := by
  rcases Int.le_total 0 E with hE | hE
  · have a1 := Int.mul_nonneg hE h0
    have a2 : E * t ≤ E * D := Int.mul_le_mul_of_nonneg_left h1 hE
    have b1 : 0 ≤ s := nonneg_of_mul hD (by omega)
    have e : D * (E - s) = E * D - D * s := by grind
    have b2 : 0 ≤ E - s := nonneg_of_mul hD (by omega)
    omega
  · have a1 := Int.mul_nonneg (by omega : 0 ≤ -E) h0
    have a2 : -E * t ≤ -E * D := Int.mul_le_mul_of_nonneg_left h1 (by omega)
    have e1 : D * (-s) = -E * t := by grind
    have b1 : 0 ≤ -s := nonneg_of_mul hD (by omega)
    have e : D * (s - E) = -E * D - D * (-s) := by grind
    have b2 : 0 ≤ s - E := nonneg_of_mul hD (by omega)
    omega
theorem onb_x {a b c : P2} (h : cr a b c = 0) (hne : a.1 ≠ b.1) (h1 : min a.1 b.1 ≤ c.1) (h2 : c.1 ≤ max a.1 b.1) : OnB a b c := by
  refine ⟨⟨h1, h2⟩, ?_⟩
  rcases Int.lt_or_gt_of_ne hne with k | k
  · have e : (b.1 - a.1) * (c.2 - a.2) = (b.2 - a.2) * (c.1 - a.1) := by unfold cr at h; omega
    have := colin e (by omega) (by omega) (by omega)
    omega
  · have e : (a.1 - b.1) * (c.2 - b.2) = (a.2 - b.2) * (c.1 - b.1) := by unfold cr at h; grind
    have := colin e (by omega) (by omega) (by omega)
    omega
theorem line_cr {a b c d : P2} (hne : a ≠ b) (h1 : cr a b c = 0) (h2 : cr a b d = 0) : cr c d a = 0 ∧ cr c d b = 0 := by
  have e1 : (b.1 - a.1) * cr c d a = (c.1 - a.1) * cr a b d - (d.1 - a.1) * cr a b c := by unfold cr; grind
  have e2 : (b.2 - a.2) * cr c d a = (c.2 - a.2) * cr a b d - (d.2 - a.2) * cr a b c := by unfold cr; grind
  have e3 : cr c d b = cr c d a - cr a b d + cr a b c := by unfold cr; grind
  rw [h1, h2, Int.mul_zero, Int.mul_zero] at e1 e2
  have z : cr c d a = 0 := by
    rcases Int.mul_eq_zero.1 (by omega : (b.1 - a.1) * cr c d a = 0) with k | k
    · rcases Int.mul_eq_zero.1 (by omega : (b.2 - a.2) * cr c d a = 0) with m | m
      · exact absurd (Prod.ext (by omega) (by omega)) hne
      · exact m
    · exact k
  exact ⟨z, by omega⟩
theorem sm_line {a b c d : P2} (hx : spans a.1 b.1 c.1 d.1) (hy : spans a.2 b.2 c.2 d.2) (h1 : cr a b c = 0) (h2 : cr a b d = 0) (h3 : parts c d a b) : Meet a b c d := by
  by_cases e : a = b
  · subst e
    have z := (parts_eq (p := cr c d a) rfl h3).1
    refine .inr (.inr (.inr (.inl ⟨z, ?_⟩)))
    unfold spans at hx hy; unfold OnB; omega
  · obtain ⟨z1, z2⟩ := line_cr e h1 h2
    by_cases hu : a.1 = b.1
    · have key : ∀ p : P2, cr a b p = 0 → p.1 = a.1 := fun p hp => by
        unfold cr at hp
        rw [hu, Int.sub_self, Int.zero_mul] at hp
        rcases Int.mul_eq_zero.1 (by omega : (b.2 - a.2) * (p.1 - b.1) = 0) with m | m
        · exact absurd (Prod.ext hu (by omega)) e
        · omega
      have k1 := key c h1
      have k2 := key d h2
      unfold Meet OnB
      unfold spans at hy
      simp only [h1, h2, z1, z2, true_and]
      omega
    · by_cases c1 : min a.1 b.1 ≤ c.1 ∧ c.1 ≤ max a.1 b.1
      · exact .inr (.inl ⟨h1, onb_x h1 hu c1.1 c1.2⟩)
      · by_cases c2 : min a.1 b.1 ≤ d.1 ∧ d.1 ≤ max a.1 b.1
        · exact .inr (.inr (.inl ⟨h2, onb_x h2 hu c2.1 c2.2⟩))
        · unfold spans at hx
          exact .inr (.inr (.inr (.inl ⟨z1, onb_x z1 (by omega) (by omega) (by omega)⟩)))
theorem span_of {a b c d α β γ δ : Int} (h1 : 0 ≤ α) (h2 : 0 ≤ β) (h3 : 0 ≤ γ) (h4 : 0 ≤ δ) (hs : α + β = γ + δ) (hp : 0 < α + β) (he : γ * a + δ * b = α * d + β * c) : min a b ≤ max c d := by
  rcases Int.lt_or_le (max c d) (min a b) with k | k
  · exfalso
    have m1 : α * d ≤ α * max c d := Int.mul_le_mul_of_nonneg_left (by omega) h1
    have m2 : β * c ≤ β * max c d := Int.mul_le_mul_of_nonneg_left (by omega) h2
    have m3 : γ * (max c d + 1) ≤ γ * a := Int.mul_le_mul_of_nonneg_left (by omega) h3
    have m4 : δ * (max c d + 1) ≤ δ * b := Int.mul_le_mul_of_nonneg_left (by omega) h4
    generalize max c d = M at *
    have e1 : α * M + β * M = (α + β) * M := by grind
    have e2 : γ * (M + 1) + δ * (M + 1) = (α + β) * M + (α + β) := by rw [hs]; grind
    omega
  · exact k
theorem spans_of {a b c d α β γ δ : Int} (h1 : 0 ≤ α) (h2 : 0 ≤ β) (h3 : 0 ≤ γ) (h4 : 0 ≤ δ) (hs : α + β = γ + δ) (hp : 0 < α + β) (he : γ * a + δ * b = α * d + β * c) : spans a b c d :=
  ⟨span_of h1 h2 h3 h4 hs hp he, by
    have := span_of (a := c) (b := d) (c := a) (d := b) (α := δ) (β := γ) (γ := β) (δ := α) h4 h3 h2 h1 (by omega) (by omega) (by omega)
    exact this⟩
/-- c on the segment from a to b: they lie on two sides of whatever line through c. -/
theorem on_parts {a b c d : P2} (h : cr a b c = 0) (ho : OnB a b c) : parts c d a b := by
  refine parts_mul ?_
  have hm : (a.1 - c.1) * (b.2 - c.2) = (a.2 - c.2) * (b.1 - c.1) := by unfold cr at h; grind
  have opp : ∀ p q r : Int, min p q ≤ r → r ≤ max p q → (p - r) * (q - r) ≤ 0 := by
    intro p q r h1 h2
    rcases Int.lt_trichotomy p r with k | k | k
    · have := Int.mul_nonneg (a := r - p) (b := q - r) (by omega) (by omega)
      have e : (p - r) * (q - r) = - ((r - p) * (q - r)) := by grind
      omega
    · rw [k, Int.sub_self, Int.zero_mul]; omega
    · have := Int.mul_nonneg (a := p - r) (b := r - q) (by omega) (by omega)
      have e : (p - r) * (q - r) = - ((p - r) * (r - q)) := by grind
      omega
  have hA : (a.1 - c.1) * (b.1 - c.1) ≤ 0 := opp _ _ _ ho.1.1 ho.1.2
  have hB : (a.2 - c.2) * (b.2 - c.2) ≤ 0 := opp _ _ _ ho.2.1 ho.2.2
  have eR : cr c d a = (d.1 - c.1) * (a.2 - c.2) - (d.2 - c.2) * (a.1 - c.1) := rfl
  have eS : cr c d b = (d.1 - c.1) * (b.2 - c.2) - (d.2 - c.2) * (b.1 - c.1) := rfl
  rw [eR, eS]
  clear eR eS h ho
  generalize d.1 - c.1 = e1
  generalize d.2 - c.2 = e2
  generalize a.1 - c.1 = v1 at *
  generalize a.2 - c.2 = v2 at *
  generalize b.1 - c.1 = w1 at *
  generalize b.2 - c.2 = w2 at *
  by_cases zA : v1 * w1 = 0
  · by_cases zB : v2 * w2 = 0
    · have zm : (v1 * w2) * (v1 * w2) = 0 := by
        have : (v1 * w2) * (v1 * w2) = (v1 * w1) * (v2 * w2) := by
          have : (v1 * w2) * (v1 * w2) = (v1 * w2) * (v2 * w1) := by rw [hm]
          rw [this]; grind
        rw [this, zA, Int.zero_mul]
      have zm1 : v1 * w2 = 0 := by rcases Int.mul_eq_zero.1 zm with k | k <;> exact k
      have e : (e1 * v2 - e2 * v1) * (e1 * w2 - e2 * w1) = e1 * e1 * (v2 * w2) + e2 * e2 * (v1 * w1) - e1 * e2 * (v2 * w1) - e1 * e2 * (v1 * w2) := by grind
      rw [e, ← hm, zA, zB, zm1]
      simp
    · have e : (v2 * w2) * ((e1 * v2 - e2 * v1) * (e1 * w2 - e2 * w1)) = (e1 * (v2 * w2) - e2 * (v1 * w2)) * (e1 * (v2 * w2) - e2 * (v1 * w2)) := by grind
      have p := mul_self_nonneg7 (e1 * (v2 * w2) - e2 * (v1 * w2))
      rw [← e] at p
      rcases Int.lt_or_le 0 ((e1 * v2 - e2 * v1) * (e1 * w2 - e2 * w1)) with k | k
      · have := Int.mul_neg_of_neg_of_pos (by omega : v2 * w2 < 0) k; omega
      · exact k
  · have e : (v1 * w1) * ((e1 * v2 - e2 * v1) * (e1 * w2 - e2 * w1)) = (e1 * (v1 * w2) - e2 * (v1 * w1)) * (e1 * (v1 * w2) - e2 * (v1 * w1)) := by grind
    have p := mul_self_nonneg7 (e1 * (v1 * w2) - e2 * (v1 * w1))
    rw [← e] at p
    rcases Int.lt_or_le 0 ((e1 * v2 - e2 * v1) * (e1 * w2 - e2 * w1)) with k | k
    · have := Int.mul_neg_of_neg_of_pos (by omega : v1 * w1 < 0) k; omega
    · exact k
theorem on_sm {a b c d : P2} (h : cr a b c = 0) (ho : OnB a b c) : SM a b c d := by
  refine ⟨?_, ?_, ?_, on_parts h ho⟩
  · unfold OnB at ho; unfold spans; omega
  · unfold OnB at ho; unfold spans; omega
  · unfold parts; rw [h]; simp [sgn]
theorem sgn_ord {p q : Int} (h : sgn p ≠ sgn q) : (0 ≤ p ∧ q ≤ 0 ∧ 0 < p - q) ∨ (p ≤ 0 ∧ 0 ≤ q ∧ 0 < q - p) := by
  rcases sgn_cases p with ⟨_, e⟩ | ⟨_, e⟩ | ⟨_, e⟩ <;> rcases sgn_cases q with ⟨_, f⟩ | ⟨_, f⟩ | ⟨_, f⟩ <;> rw [e, f] at h <;> first | omega | exact absurd rfl h
theorem sm_iff (a b c d : P2) : SM a b c d ↔ Meet a b c d := by
  constructor
  · rintro ⟨hx, hy, h1, h2⟩
    by_cases e1 : sgn (cr a b c) = sgn (cr a b d)
    · obtain ⟨z1, z2⟩ := parts_eq e1 h1
      exact sm_line hx hy z1 z2 h2
    · by_cases e2 : sgn (cr c d a) = sgn (cr c d b)
      · obtain ⟨z1, z2⟩ := parts_eq e2 h2
        exact (sm_line (spans_symm hx) (spans_symm hy) z1 z2 h1).symm
      · exact .inl ⟨e1, e2⟩
  · rintro (⟨h1, h2⟩ | ⟨h, ho⟩ | ⟨h, ho⟩ | ⟨h, ho⟩ | ⟨h, ho⟩)
    · have ex : cr c d b * a.1 + (- cr c d a) * b.1 = cr a b c * d.1 + (- cr a b d) * c.1 := by unfold cr; grind
      have ey : cr c d b * a.2 + (- cr c d a) * b.2 = cr a b c * d.2 + (- cr a b d) * c.2 := by unfold cr; grind
      have ed : cr a b c - cr a b d = cr c d b - cr c d a := by unfold cr; grind
      have q1 := parts_ne h1
      have q2 := parts_ne h2
      have o1 := sgn_ord h1
      have o2 := sgn_ord h2
      refine ⟨?_, ?_, q1, q2⟩
      all_goals
        clear h1 h2 q1 q2
        generalize cr a b c = P at *
        generalize cr a b d = Q at *
        generalize cr c d a = R at *
        generalize cr c d b = S at *
        rcases o1 with ⟨u1, u2, u3⟩ | ⟨u1, u2, u3⟩
      · exact spans_of (α := P) (β := -Q) (γ := S) (δ := -R) u1 (by omega) (by omega) (by omega) (by omega) (by omega) ex
      · exact spans_of (α := -P) (β := Q) (γ := -S) (δ := R) (by omega) (by omega) (by omega) (by omega) (by omega) (by omega) (by grind)
      · exact spans_of (α := P) (β := -Q) (γ := S) (δ := -R) u1 (by omega) (by omega) (by omega) (by omega) (by omega) ey
      · exact spans_of (α := -P) (β := Q) (γ := -S) (δ := R) (by omega) (by omega) (by omega) (by omega) (by omega) (by omega) (by grind)
    · exact on_sm h ho
    · exact (on_sm h ho).swap
    · exact (on_sm h ho).symm
    · exact (on_sm h ho).swap.symm
end Go.Proofs.Ytppkipcgpmijpaa
