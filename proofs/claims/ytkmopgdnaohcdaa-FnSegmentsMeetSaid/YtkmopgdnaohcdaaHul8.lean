/- Plain mathematics of convex hulls: a set of points has one hull. -/
import Derived.Test.YtkmopgdnaohcdaaGeo8
namespace Go.Proofs.Ytkmopgdnaohcdaa
set_option maxRecDepth 100000
theorem cor_mem {ps : List P2} {i : Nat} (h : i < ps.length) : cor ps i ∈ ps := by
  unfold cor; rw [List.getD_eq_getElem?_getD, List.getElem?_eq_getElem h]; exact List.getElem_mem h
theorem mem_cor {ps : List P2} {p : P2} (h : p ∈ ps) : ∃ i, i < ps.length ∧ cor ps i = p := by
  obtain ⟨i, hi, e⟩ := List.getElem_of_mem h
  refine ⟨i, hi, ?_⟩
  unfold cor; rw [List.getD_eq_getElem?_getD, List.getElem?_eq_getElem hi]; exact e
/-- The corners differ. -/
theorem Ccw.ne {ps : List P2} (h : Ccw ps) (hn : 3 ≤ ps.length) {i j : Nat} (hij : i < j) (hj : j < ps.length) : cor ps i ≠ cor ps j := by
  intro e
  by_cases h0 : 0 < i
  · have := h 0 i j h0 hij hj
    rw [e, cr_same2] at this; omega
  · by_cases h1 : j + 1 < ps.length
    · have := h i j (j + 1) hij (by omega) h1
      rw [e, cr_same] at this; omega
    · have := h i 1 j (by omega) (by omega) hj
      rw [e, cr_same3] at this; omega
theorem Ccw.inj {ps : List P2} (h : Ccw ps) (hn : 3 ≤ ps.length) {i j : Nat} (hi : i < ps.length) (hj : j < ps.length) (e : cor ps i = cor ps j) : i = j := by
  rcases Nat.lt_trichotomy i j with k | k | k
  · exact absurd e (h.ne hn k hj)
  · exact k
  · exact absurd e.symm (h.ne hn k hi)
/-- h is the only point of S where a linear map is least. -/
def Ext (S : List P2) (h : P2) : Prop := ∃ u : P2, ∀ p ∈ S, p ≠ h → 0 < lin u h p
/-- What a hull of S is, but for its first corner. -/
structure Hull (S H : List P2) : Prop where
  ccw : Ccw H
  len : 3 ≤ H.length
  sub : ∀ h ∈ H, h ∈ S
  ins : ∀ p ∈ S, Ins H p
theorem two_lines {a b c p : P2} (h : 0 < cr a b c) (h1 : cr a b p = 0) (h2 : cr b c p = 0) : p = b := by
  have k1 : (p.1 - b.1) * cr a b c = (c.1 - b.1) * cr a b p - (b.1 - a.1) * cr b c p := by unfold cr; grind
  have k2 : (p.2 - b.2) * cr a b c = (c.2 - b.2) * cr a b p - (b.2 - a.2) * cr b c p := by unfold cr; grind
  rw [h1, h2] at k1 k2
  simp only [Int.mul_zero, Int.sub_zero] at k1 k2
  have z1 : p.1 - b.1 = 0 := by rcases Int.mul_eq_zero.1 k1 with k | k; exact k; omega
  have z2 : p.2 - b.2 = 0 := by rcases Int.mul_eq_zero.1 k2 with k | k; exact k; omega
  exact Prod.ext (by omega) (by omega)
theorem lin_two (a b c p : P2) : lin (-(c.2 - a.2), c.1 - a.1) b p = cr a b p + cr b c p := by unfold lin cr; grind
/-- The corners of a hull are extreme. -/
theorem Hull.ext {S H : List P2} (hh : Hull S H) {k : Nat} (hk : k < H.length) : Ext S (cor H k) := by
  have hn := hh.len
  -- the corners ahead and behind
  obtain ⟨a, ha, ea⟩ : ∃ a, a < H.length ∧ (a + 1) % H.length = k := by
    by_cases h0 : k = 0
    · exact ⟨H.length - 1, by omega, by rw [show H.length - 1 + 1 = H.length by omega, Nat.mod_self, h0]⟩
    · exact ⟨k - 1, by omega, by rw [show k - 1 + 1 = k by omega, Nat.mod_eq_of_lt hk]⟩
  obtain ⟨c, hc, ec⟩ : ∃ c, c < H.length ∧ (k + 1) % H.length = c := ⟨_, Nat.mod_lt _ (by omega), rfl⟩
  have hac : c ≠ a := by
    intro e
    subst e
    by_cases h1 : k + 1 < H.length
    · rw [Nat.mod_eq_of_lt h1] at ec
      subst ec
      by_cases h2 : k + 1 + 1 < H.length
      · rw [Nat.mod_eq_of_lt h2] at ea; omega
      · rw [show k + 1 + 1 = H.length by omega, Nat.mod_self] at ea; omega
    · rw [show k + 1 = H.length by omega, Nat.mod_self] at ec
      subst ec
      rw [Nat.mod_eq_of_lt (by omega)] at ea
      omega
  have hck : c ≠ k := by
    intro e
    subst e
    by_cases h1 : c + 1 < H.length
    · rw [Nat.mod_eq_of_lt h1] at ec; omega
    · rw [show c + 1 = H.length by omega, Nat.mod_self] at ec; omega
  have hpos : 0 < cr (cor H a) (cor H k) (cor H c) := by
    have := hh.ccw.edg a c ha hc hac (by rw [ea]; exact hck)
    rw [ea] at this
    exact this
  refine ⟨(-((cor H c).2 - (cor H a).2), (cor H c).1 - (cor H a).1), fun p hp hne => ?_⟩
  have i1 := hh.ins p hp a ha
  have i2 := hh.ins p hp k hk
  rw [ea] at i1
  rw [ec] at i2
  rw [lin_two]
  rcases Int.lt_or_le 0 (cr (cor H a) (cor H k) p + cr (cor H k) (cor H c) p) with q | q
  · exact q
  · exact absurd (two_lines hpos (by omega) (by omega)) hne
/-- An extreme point of S is a corner of every hull of S. -/
theorem Hull.has {S H : List P2} (hh : Hull S H) {h : P2} (hs : h ∈ S) (he : Ext S h) : h ∈ H := by
  refine Classical.byContradiction fun hn => ?_
  obtain ⟨u, hu⟩ := he
  exact not_ins (by have := hh.len; omega) (fun k hk => hu _ (hh.sub _ (cor_mem hk)) (fun e => hn (by rw [← e]; exact cor_mem hk))) (hh.ins h hs) (hh.ccw.area hh.len h)
theorem Hull.same {S H H' : List P2} (hh : Hull S H) (hh' : Hull S H') {p : P2} (hp : p ∈ H) : p ∈ H' := by
  obtain ⟨k, hk, rfl⟩ := mem_cor hp
  exact hh'.has (hh.sub _ hp) (hh.ext hk)
/-- Corners in their order from a common first one: one list has them as the other. -/
theorem ccw_prefix {H H' : List P2} (c : Ccw H) (c' : Ccw H') (n : 3 ≤ H.length) (n' : 3 ≤ H'.length) (s : ∀ p ∈ H, p ∈ H') (s' : ∀ p ∈ H', p ∈ H) (h0 : cor H 0 = cor H' 0) :
    ∀ k, k < H.length → k < H'.length ∧ cor H k = cor H' k := by
  intro k
  induction k using Nat.strongRecOn with
  | _ k ih =>
    intro hk
    by_cases hk0 : k = 0
    · subst hk0; exact ⟨by omega, h0⟩
    · -- x stands at m in H'
      obtain ⟨m, hm, em⟩ := mem_cor (s _ (cor_mem hk))
      have hmk : ¬ m < k := fun q => by
        have := (ih m q (by omega)).2
        rw [em] at this
        exact absurd (c.inj n (by omega) hk this) (by omega)
      by_cases hmk2 : m = k
      · subst hmk2; exact ⟨hm, em.symm⟩
      · -- y stands at k in H', at l in H
        obtain ⟨l, hl, el⟩ := mem_cor (s' _ (cor_mem (ps := H') (i := k) (by omega)))
        have hlk : ¬ l < k := fun q => by
          have := (ih l q (by omega)).2
          rw [el] at this
          exact absurd (c'.inj n' (by omega) (by omega) this) (by omega)
        have hlk2 : l ≠ k := fun e => by
          subst e
          rw [← em] at el
          exact absurd (c'.inj n' hm (by omega) el) hmk2
        have a1 := c 0 k l (by omega) (by omega) hl
        have a2 := c' 0 k m (by omega) (by omega) hm
        rw [el] at a1
        rw [em, ← h0, cr_swap2] at a2
        omega
/-- A set of points has one hull with a given first corner. -/
theorem Hull.unique {S H H' : List P2} (hh : Hull S H) (hh' : Hull S H') (h0 : cor H 0 = cor H' 0) : H = H' := by
  have p1 := ccw_prefix hh.ccw hh'.ccw hh.len hh'.len (fun p hp => hh.same hh' hp) (fun p hp => hh'.same hh hp) h0
  have p2 := ccw_prefix hh'.ccw hh.ccw hh'.len hh.len (fun p hp => hh'.same hh hp) (fun p hp => hh.same hh' hp) h0.symm
  have hl : H.length = H'.length := by
    have a := (p1 (H.length - 1) (by have := hh.len; omega)).1
    have b := (p2 (H'.length - 1) (by have := hh'.len; omega)).1
    omega
  refine List.ext_getElem hl fun i h1 h2 => ?_
  have := (p1 i h1).2
  unfold cor at this
  rw [List.getD_eq_getElem?_getD, List.getD_eq_getElem?_getD, List.getElem?_eq_getElem h1, List.getElem?_eq_getElem h2] at this
  exact this
end Go.Proofs.Ytkmopgdnaohcdaa
