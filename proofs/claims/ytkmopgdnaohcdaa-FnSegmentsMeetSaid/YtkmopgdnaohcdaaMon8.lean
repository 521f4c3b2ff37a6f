/- Plain mathematics: the lower and the upper border of points in lexicographic order, joined, are their hull. -/
import Derived.Test.YtkmopgdnaohcdaaWra8
namespace Go.Proofs.Ytkmopgdnaohcdaa
set_option maxRecDepth 100000
/-- In lexicographic order. -/
def lt2 (a b : P2) : Prop := a.1 < b.1 ∨ (a.1 = b.1 ∧ a.2 < b.2)
def le2 (a b : P2) : Prop := a.1 < b.1 ∨ (a.1 = b.1 ∧ a.2 ≤ b.2)
theorem le2_refl (a : P2) : le2 a a := .inr ⟨rfl, Int.le_refl _⟩
theorem le2_trans {a b c : P2} (h : le2 a b) (k : le2 b c) : le2 a c := by unfold le2 at *; omega
theorem lt2_of_lt_le {a b c : P2} (h : lt2 a b) (k : le2 b c) : lt2 a c := by unfold lt2 le2 at *; omega
theorem lt2_of_le_lt {a b c : P2} (h : le2 a b) (k : lt2 b c) : lt2 a c := by unfold lt2 le2 at *; omega
theorem lt2_le {a b : P2} (h : lt2 a b) : le2 a b := by unfold lt2 le2 at *; omega
theorem le2_anti {a b : P2} (h : le2 a b) (k : le2 b a) : a = b := by unfold le2 at *; exact Prod.ext (by omega) (by omega)
theorem le2_lt {a b : P2} (h : le2 a b) (n : a ≠ b) : lt2 a b := by
  unfold lt2 le2 at *
  have : ¬ (a.1 = b.1 ∧ a.2 = b.2) := fun e => n (Prod.ext e.1 e.2)
  omega
theorem lt2_ne {a b : P2} (h : lt2 a b) : a ≠ b := by rintro rfl; unfold lt2 at h; omega
theorem le2_total (a b : P2) : le2 a b ∨ lt2 b a := by unfold lt2 le2; omega
/-- A vector that leads forward. -/
def fw (u : P2) : Prop := 0 < u.1 ∨ (u.1 = 0 ∧ 0 < u.2)
/-- The cross product of two vectors. -/
def xp (u v : P2) : Int := u.1 * v.2 - u.2 * v.1
def vec (a b : P2) : P2 := (b.1 - a.1, b.2 - a.2)
theorem fw_vec {a b : P2} (h : lt2 a b) : fw (vec a b) := by unfold fw vec lt2 at *; simp only; omega
/-- Of three vectors that lead forward: turning is transitive. -/
theorem xp_trans {u v w : P2} (hu : fw u) (hv : fw v) (hw : fw w) (h1 : 0 ≤ xp u v) (h2 : 0 ≤ xp v w) : 0 ≤ xp u w := by
  have e1 : v.1 * xp u w = u.1 * xp v w + w.1 * xp u v := by unfold xp; grind
  have e2 : v.2 * xp u w = u.2 * xp v w + w.2 * xp u v := by unfold xp; grind
  have u1 : 0 ≤ u.1 := by unfold fw at hu; omega
  have w1 : 0 ≤ w.1 := by unfold fw at hw; omega
  rcases hv with k | ⟨k, k2⟩
  · have a1 := Int.mul_nonneg u1 h2
    have a2 := Int.mul_nonneg w1 h1
    exact nonneg_of_mul k (by omega)
  · have w0 : w.1 = 0 := by
      have : xp v w = - (v.2 * w.1) := by unfold xp; rw [k]; omega
      rcases Int.lt_or_le 0 w.1 with q | q
      · have := Int.mul_pos k2 q; omega
      · omega
    have w2 : 0 < w.2 := by unfold fw at hw; omega
    have : xp u w = u.1 * w.2 := by unfold xp; rw [w0]; omega
    rw [this]
    exact Int.mul_nonneg u1 (by omega)
theorem xp_trans1 {u v w : P2} (hu : fw u) (hv : fw v) (hw : fw w) (h1 : 0 < xp u v) (h2 : 0 ≤ xp v w) : 0 < xp u w := by
  have h := xp_trans hu hv hw (by omega) h2
  have e1 : v.1 * xp u w = u.1 * xp v w + w.1 * xp u v := by unfold xp; grind
  have e2 : v.2 * xp u w = u.2 * xp v w + w.2 * xp u v := by unfold xp; grind
  rcases Int.lt_or_le 0 (xp u w) with q | q
  · exact q
  · exfalso
    have z : xp u w = 0 := by omega
    rw [z, Int.mul_zero] at e1 e2
    have u1 : 0 ≤ u.1 := by unfold fw at hu; omega
    have w1 : 0 ≤ w.1 := by unfold fw at hw; omega
    have a1 := Int.mul_nonneg u1 h2
    have a2 := Int.mul_nonneg w1 (by omega : 0 ≤ xp u v)
    have w0 : w.1 = 0 := by
      rcases Int.lt_or_le 0 w.1 with q | q
      · have := Int.mul_pos q h1; omega
      · omega
    have w2 : 0 < w.2 := by unfold fw at hw; omega
    have z2 : xp u w = u.1 * w.2 := by unfold xp; rw [w0]; omega
    have u0 : u.1 = 0 := by
      rcases Int.lt_or_le 0 u.1 with q | q
      · have := Int.mul_pos q w2; omega
      · omega
    have z3 : xp u v = - (u.2 * v.1) := by unfold xp; rw [u0]; omega
    have v1 : 0 ≤ v.1 := by unfold fw at hv; omega
    have := Int.mul_nonneg (by unfold fw at hu; omega : 0 ≤ u.2) v1
    omega
theorem xp_trans2 {u v w : P2} (hu : fw u) (hv : fw v) (hw : fw w) (h1 : 0 ≤ xp u v) (h2 : 0 < xp v w) : 0 < xp u w := by
  -- in the mirror
  have m1 : xp (w.1, - w.2) (v.1, - v.2) = xp v w := by unfold xp; grind
  have h := xp_trans hu hv hw h1 (by omega)
  have e1 : v.1 * xp u w = u.1 * xp v w + w.1 * xp u v := by unfold xp; grind
  rcases Int.lt_or_le 0 (xp u w) with q | q
  · exact q
  · exfalso
    have z : xp u w = 0 := by omega
    rw [z, Int.mul_zero] at e1
    have u1 : 0 ≤ u.1 := by unfold fw at hu; omega
    have w1 : 0 ≤ w.1 := by unfold fw at hw; omega
    have a1 := Int.mul_nonneg u1 (by omega : 0 ≤ xp v w)
    have a2 := Int.mul_nonneg w1 h1
    have u0 : u.1 = 0 := by
      rcases Int.lt_or_le 0 u.1 with q | q
      · have := Int.mul_pos q h2; omega
      · omega
    have u2 : 0 < u.2 := by unfold fw at hu; omega
    have z2 : xp u w = - (u.2 * w.1) := by unfold xp; rw [u0]; omega
    have w0 : w.1 = 0 := by
      rcases Int.lt_or_le 0 w.1 with q | q
      · have := Int.mul_pos u2 q; omega
      · omega
    have z3 : xp u v = - (u.2 * v.1) := by unfold xp; rw [u0]; omega
    have v0 : v.1 = 0 := by
      rcases Int.lt_or_le 0 v.1 with q | q
      · have := Int.mul_pos u2 q; omega
      · unfold fw at hv; omega
    have z4 : xp v w = 0 := by unfold xp; rw [v0, w0]; simp
    omega
/-- q lies above the edge from a to b, or on it. -/
def Dn (a b q : P2) : Prop := 0 < cr a b q ∨ (cr a b q = 0 ∧ le2 a q ∧ le2 q b)
theorem Dn.nonneg {a b q : P2} (h : Dn a b q) : 0 ≤ cr a b q := by unfold Dn at h; omega
/-- The stack, the last corner first: every edge has all points above it, and the first corner is the least. -/
def Stk (P : List P2) : List P2 → Prop
  | [] => False
  | [a] => ∀ q ∈ P, le2 a q
  | b :: a :: s => lt2 a b ∧ (∀ q ∈ P, Dn a b q) ∧ Stk P (a :: s)
theorem Stk.pop {P : List P2} {b a : P2} {s : List P2} (h : Stk P (b :: a :: s)) : Stk P (a :: s) := h.2.2
theorem cr_xp (a b c : P2) : cr a b c = xp (vec a b) (vec a c) := by unfold cr xp vec; simp only
theorem cr_xp2 (a b c : P2) : cr a b c = xp (vec a b) (vec b c) := by unfold cr xp vec; simp only; grind
/-- A point ahead that is left of the last edge is left of all edges. -/
theorem Stk.left {P : List P2} {p : P2} : ∀ {s : List P2} {b a : P2}, Stk P (b :: a :: s) → (∀ x ∈ b :: a :: s, x ∈ P) → lt2 b p → 0 < cr a b p → Stk (p :: P) (b :: a :: s)
  | [], b, a, h, _, hp, hc => ⟨h.1, fun q hq => by
      rcases List.mem_cons.1 hq with e | e
      · subst e; exact .inl hc
      · exact h.2.1 q e, fun q hq => by
      rcases List.mem_cons.1 hq with e | e
      · subst e; exact lt2_le (lt2_of_lt_le h.1 (lt2_le hp))
      · exact h.2.2 q e⟩
  | c :: s, b, a, h, hm, hp, hc => by
    refine ⟨h.1, fun q hq => ?_, ?_⟩
    · rcases List.mem_cons.1 hq with e | e
      · subst e; exact .inl hc
      · exact h.2.1 q e
    · have h2 := h.2.2
      have hap : lt2 a p := lt2_of_lt_le h.1 (lt2_le hp)
      refine Stk.left h2 (fun x hx => hm x (List.mem_cons_of_mem _ hx)) hap ?_
      -- c a b turns left, a b p turns left
      have t : 0 < cr c a b := by
        rcases h2.2.1 b (hm b List.mem_cons_self) with k | ⟨k, k1, k2⟩
        · exact k
        · exact absurd (lt2_of_lt_le h.1 k2) (fun z => lt2_ne z rfl)
      rw [cr_xp2] at t hc ⊢
      have x1 : 0 < xp (vec c a) (vec b p) := xp_trans1 (fw_vec h2.1) (fw_vec h.1) (fw_vec hp) t (by omega)
      have x2 := xp_trans1 (fw_vec h2.1) (fw_vec h.1) (fw_vec hap) t (by
        have : xp (vec a b) (vec a p) = xp (vec a b) (vec b p) := by rw [← cr_xp, ← cr_xp2]
        omega)
      exact x2
/-- A corner is laid upon the stack. -/
theorem Stk.push {P : List P2} {p t : P2} {s : List P2} (h : Stk P (t :: s)) (hm : ∀ x ∈ t :: s, x ∈ P) (hmax : ∀ q ∈ P, le2 q p) (htp : lt2 t p)
    (hup : (∀ q ∈ P, le2 q t) ∨ ∃ u, lt2 t u ∧ cr t u p ≤ 0 ∧ ∀ q ∈ P, Dn t u q) (hdn : ∀ a s', s = a :: s' → 0 < cr a t p) : Stk (p :: P) (p :: t :: s) := by
  refine ⟨htp, fun q hq => ?_, ?_⟩
  · rcases List.mem_cons.1 hq with e | e
    · subst e; exact .inr ⟨cr_same2 _ _, lt2_le htp, le2_refl _⟩
    · by_cases hqt : q = t
      · subst hqt; exact .inr ⟨cr_same3 _ _, le2_refl _, lt2_le htp⟩
      · rcases le2_total t q with k | k
        · have ltq : lt2 t q := le2_lt k (Ne.symm hqt)
          rcases hup with u | ⟨u, u1, u2, u3⟩
          · exact absurd (le2_anti (u q e) k) hqt
          · have d := (u3 q e).nonneg
            have : 0 ≤ cr t p q := by
              rw [cr_xp] at u2 d ⊢
              have u2' : 0 ≤ xp (vec t p) (vec t u) := by
                have : xp (vec t p) (vec t u) = - xp (vec t u) (vec t p) := by unfold xp; grind
                omega
              exact xp_trans (fw_vec htp) (fw_vec u1) (fw_vec ltq) u2' d
            rcases Int.lt_or_le 0 (cr t p q) with z | z
            · exact .inl z
            · exact .inr ⟨by omega, k, hmax q e⟩
        · -- q comes ahead of t
          cases s with
          | nil => exact absurd (h q e) (fun z => lt2_ne (lt2_of_lt_le k z) rfl)
          | cons a s' =>
            have c := hdn a s' rfl
            have d := (h.2.1 q e).nonneg
            refine .inl ?_
            have d' : 0 ≤ xp (vec q t) (vec a t) := by
              have : xp (vec q t) (vec a t) = cr a t q := by unfold xp vec cr; simp only; grind
              omega
            rw [cr_xp2] at c
            have := xp_trans2 (fw_vec k) (fw_vec h.1) (fw_vec htp) d' c
            have e2 : xp (vec q t) (vec t p) = cr t p q := by unfold xp vec cr; simp only; grind
            omega
  · cases s with
    | nil =>
      intro q hq
      rcases List.mem_cons.1 hq with e | e
      · subst e; exact lt2_le htp
      · exact h q e
    | cons a s' => exact h.left hm htp (hdn a s' rfl)
/-- The program's inner loop, and its outer one. -/
def popTo (p : P2) : List P2 → List P2
  | b :: a :: s => if cr a b p ≤ 0 then popTo p (a :: s) else b :: a :: s
  | [a] => [a]
  | [] => []
def bord (s : List P2) (ps : List P2) : List P2 := ps.foldl (fun s p => p :: popTo p s) s
/-- Between two points: all are one point, or the stack is as it should be. -/
def Bst (P s : List P2) : Prop := (P = [] ∧ s = []) ∨ (∃ a, a ∈ P ∧ (∀ q ∈ P, q = a) ∧ (s = [a] ∨ s = [a, a])) ∨ (2 ≤ s.length ∧ Stk P s ∧ (∀ x ∈ s, x ∈ P) ∧ ∀ q ∈ P, le2 q (s.getD 0 (0, 0)))
theorem popTo_stk {P : List P2} {p : P2} (hmax : ∀ q ∈ P, le2 q p) : ∀ (s : List P2) (t : P2), Stk P (t :: s) → (∀ x ∈ t :: s, x ∈ P) →
    ((∀ q ∈ P, le2 q t) ∨ ∃ u, lt2 t u ∧ cr t u p ≤ 0 ∧ ∀ q ∈ P, Dn t u q) → (s = [] → lt2 t p) → Stk (p :: P) (p :: popTo p (t :: s)) ∧ (∀ x ∈ popTo p (t :: s), x ∈ P) ∧ popTo p (t :: s) ≠ []
  | [], t, h, hm, hup, h0 => ⟨h.push hm hmax (h0 rfl) hup (fun _ _ e => by cases e), hm, by simp [popTo]⟩
  | a :: s, t, h, hm, hup, _ => by
    unfold popTo
    by_cases c : cr a t p ≤ 0
    · rw [if_pos c]
      exact popTo_stk hmax s a h.pop (fun x hx => hm x (List.mem_cons_of_mem _ hx)) (.inr ⟨t, h.1, c, h.2.1⟩) (fun _ => lt2_of_lt_le h.1 (hmax t (hm t List.mem_cons_self)))
    · rw [if_neg c]
      have tp : lt2 t p := le2_lt (hmax t (hm t List.mem_cons_self)) (fun e => by subst e; rw [cr_same2] at c; omega)
      exact ⟨h.push hm hmax tp hup (fun a' s' e => by obtain ⟨rfl, rfl⟩ := List.cons.inj e; omega), hm, by simp⟩
theorem Bst.step {P s : List P2} {p : P2} (h : Bst P s) (hmax : ∀ q ∈ P, le2 q p) : Bst (p :: P) (p :: popTo p s) := by
  have mx : ∀ q ∈ p :: P, le2 q p := fun q hq => by
    rcases List.mem_cons.1 hq with e | e
    · subst e; exact le2_refl _
    · exact hmax q e
  rcases h with ⟨rfl, rfl⟩ | ⟨a, ha, hall, hs⟩ | ⟨hl, hst, hm, htop⟩
  · exact .inr (.inl ⟨p, List.mem_cons_self, fun q hq => by simpa using hq, .inl rfl⟩)
  · have e : popTo p s = [a] := by
      rcases hs with rfl | rfl
      · rfl
      · unfold popTo; rw [cr_same, if_pos (Int.le_refl 0)]; rfl
    rw [e]
    by_cases hp : p = a
    · subst hp
      exact .inr (.inl ⟨p, List.mem_cons_self, fun q hq => by
        rcases List.mem_cons.1 hq with e | e
        · exact e
        · exact hall q e, .inr rfl⟩)
    · have hap : lt2 a p := le2_lt (hmax a ha) (Ne.symm hp)
      refine .inr (.inr ⟨by simp, ?_, ?_, mx⟩)
      · exact Stk.push (s := []) (fun q hq => by rw [hall q hq]; exact le2_refl _) (fun x hx => by rw [List.mem_singleton.1 hx]; exact ha) hmax hap (.inl fun q hq => by rw [hall q hq]; exact le2_refl _) (fun _ _ e => by cases e)
      · intro x hx
        rcases List.mem_cons.1 hx with e | e
        · rw [e]; exact List.mem_cons_self
        · rw [List.mem_singleton.1 e]; exact List.mem_cons_of_mem _ ha
  · obtain ⟨t, s', rfl⟩ : ∃ t s', s = t :: s' := by cases s with | nil => simp at hl | cons t s' => exact ⟨t, s', rfl⟩
    have ns : s' ≠ [] := fun e => by rw [e] at hl; simp at hl
    obtain ⟨k1, k2, k3⟩ := popTo_stk hmax s' t hst hm (.inl htop) (fun e => absurd e ns)
    refine .inr (.inr ⟨?_, k1, fun x hx => ?_, mx⟩)
    · have := List.length_pos_iff.2 k3
      simp only [List.length_cons]; omega
    · rcases List.mem_cons.1 hx with e | e
      · rw [e]; exact List.mem_cons_self
      · exact List.mem_cons_of_mem _ (k2 x e)
/-- The points come in their order. -/
def Asc (ps : List P2) : Prop := ps.Pairwise le2
theorem Bst.run : ∀ (ps P s : List P2), Bst P s → Asc ps → (∀ q ∈ P, ∀ p ∈ ps, le2 q p) → Bst (ps.reverse ++ P) (bord s ps)
  | [], _, _, h, _, _ => by simpa [bord] using h
  | p :: ps, P, s, h, ha, hb => by
    have h1 := h.step (fun q hq => hb q hq p List.mem_cons_self)
    have a2 := List.pairwise_cons.1 ha
    have := Bst.run ps (p :: P) (p :: popTo p s) h1 a2.2 (fun q hq r hr => by
      rcases List.mem_cons.1 hq with e | e
      · rw [e]; exact a2.1 r hr
      · exact hb q e r (List.mem_cons_of_mem _ hr))
    simpa [bord, List.reverse_cons, List.append_assoc] using this
end Go.Proofs.Ytkmopgdnaohcdaa
