/- Plain mathematics of the program's own search: what its set of bits and its way back say. -/
import Derived.Test.YtkogoflcacameaaPl11
import Derived.Laws.BitsAllLaws
namespace Go.Proofs.Ytkogoflcacameaa
set_option maxRecDepth 100000
theorem bk_one (s : Qu) (f k : Nat) (out : List C2) : bkL s (f + 1) (k : Int) out = bkL s f (qb s k) (qc s k :: out) := by
  show (if (k : Int) < 0 then out else bkL s f (qb s (k : Int).toNat) (qc s (k : Int).toNat :: out)) = _
  rw [if_neg (by omega), Int.toNat_natCast]
theorem bk_end (s : Qu) (f : Nat) (out : List C2) : bkL s f (-1) out = out := by
  cases f with
  | zero => rfl
  | succ f => rfl
theorem bk_fuel {fr : C2 → Bool} {a : C2} {s : Qu} {K : Nat} {d : Nat → Nat} (h : QI fr a s K d) : ∀ (k : Nat), k < s.length → ∀ f g out, k < f → k < g → bkL s f (k : Int) out = bkL s g (k : Int) out := by
  intro k
  induction k using Nat.strongRecOn with
  | _ k ih =>
    intro hk f g out hf hg
    obtain ⟨f, rfl⟩ : ∃ f', f = f' + 1 := ⟨f - 1, by omega⟩
    obtain ⟨g, rfl⟩ : ∃ g', g = g' + 1 := ⟨g - 1, by omega⟩
    rw [bk_one, bk_one]
    by_cases h0 : k = 0
    · subst h0
      rw [h.root.2.2.1, bk_end, bk_end]
    · obtain ⟨p, p1, p2, _⟩ := h.par k (by omega) hk
      rw [p1]
      exact ih p p2 (by omega) f g _ (by omega) (by omega)
theorem bk_prefix {fr : C2 → Bool} {a : C2} {s : Qu} {K : Nat} {d : Nat → Nat} (h : QI fr a s K d) (t : Qu) : ∀ (k : Nat), k < s.length → ∀ f out, bkL (s ++ t) f (k : Int) out = bkL s f (k : Int) out := by
  intro k
  induction k using Nat.strongRecOn with
  | _ k ih =>
    intro hk f out
    cases f with
    | zero => rfl
    | succ f =>
      have e1 : qc (s ++ t) k = qc s k := by unfold qc; rw [getD_app_left _ _ _ hk]
      have e2 : qb (s ++ t) k = qb s k := by unfold qb; rw [getD_app_left _ _ _ hk]
      rw [bk_one, bk_one, e1, e2]
      by_cases h0 : k = 0
      · subst h0
        rw [h.root.2.2.1, bk_end, bk_end]
      · obtain ⟨p, p1, p2, _⟩ := h.par k (by omega) hk
        rw [p1]
        exact ih p p2 (by omega) f _
theorem bfs_found {fr : C2 → Bool} {a b : C2} : ∀ (n f : Nat) (s : Qu) (k i : Nat) (d : Nat → Nat), QI fr a s k d → k + n = i → i < s.length → qc s i = b → n < f → bfs fr b f s k = bkL s (i + 1) (i : Int) []
  | _, 0, _, _, _, _, _, _, _, _, hf => absurd hf (by omega)
  | 0, f + 1, s, k, i, d, h, hi, hl, hb, hf => by
    obtain rfl : k = i := by omega
    show (if k < s.length then _ else _) = _
    rw [if_pos hl, if_pos hb]
  | n + 1, f + 1, s, k, i, d, h, hi, hl, hb, hf => by
    have hk : k < s.length := by omega
    have hne : qc s k ≠ b := fun q => by
      have := h.dist k i hk hl (by rw [q, hb])
      omega
    show (if k < s.length then _ else _) = _
    rw [if_pos hk, if_neg hne]
    obtain ⟨d', h', t, e⟩ := h.step hk
    have hl' : i < (expd fr s k).length := by rw [e, List.length_append]; omega
    have hb' : qc (expd fr s k) i = b := by rw [e]; unfold qc; rw [getD_app_left _ _ _ hl]; exact hb
    rw [bfs_found n f _ (k + 1) i d' h' (by omega) hl' hb' (by omega), e]
    exact bk_prefix h t i hl _ _
/-- Where a search stands: k cells have been looked at, none of them the end. -/
def At11 (T : List (List Bool)) (a b : C2) (s : Qu) (k : Nat) : Prop := squV T ∧ freeV T a = true ∧ freeV T b = true ∧ ∃ d, QI (freeV T) a s k d ∧ (∀ i, i < k → i < s.length → qc s i ≠ b) ∧ k ≤ s.length ∧ bfs (freeV T) b (401 - k) s k = planV T a b
section
variable {T : List (List Bool)} {a b : C2} {s : Qu} {k : Nat}
theorem At11.start (h : squV T ∧ freeV T a = true ∧ freeV T b = true) : At11 T a b [(a, -1)] 0 :=
  ⟨h.1, h.2.1, h.2.2, _, QI.start h.2.1, fun i hi => by omega, by simp, (if_pos h : planV T a b = _).symm⟩
theorem At11.len (h : At11 T a b s k) : s.length ≤ 400 := by
  obtain ⟨hs, _, _, d, q, _⟩ := h
  exact q.small hs
theorem At11.step (h : At11 T a b s k) (hk : k < s.length) (hb : qc s k ≠ b) : At11 T a b (expd (freeV T) s k) (k + 1) := by
  have hl := h.len
  obtain ⟨hs, ha, hbb, d, q, q1, q2, q3⟩ := h
  obtain ⟨d', h', t, e⟩ := q.step hk
  have hlen : s.length ≤ (expd (freeV T) s k).length := by rw [e, List.length_append]; omega
  refine ⟨hs, ha, hbb, d', h', fun i hi hi2 => ?_, by omega, ?_⟩
  · have his : i < s.length := by omega
    have : qc (expd (freeV T) s k) i = qc s i := by rw [e]; unfold qc; rw [getD_app_left _ _ _ his]
    rw [this]
    by_cases hik : i < k
    · exact q1 i hik his
    · obtain rfl : i = k := by omega
      exact hb
  · rw [← q3, show 401 - k = (401 - (k + 1)) + 1 by omega]
    show _ = (if k < s.length then _ else _)
    rw [if_pos hk, if_neg hb]
theorem At11.none (h : At11 T a b s k) (hk : s.length ≤ k) : planV T a b = [] := by
  have hl := h.len
  obtain ⟨hs, ha, hbb, d, q, q1, q2, q3⟩ := h
  rw [← q3, show 401 - k = (400 - k) + 1 by omega]
  show (if k < s.length then _ else _) = _
  rw [if_neg (by omega)]
theorem At11.found (h : At11 T a b s k) {i : Nat} (hi : i < s.length) (hb : qc s i = b) : planV T a b = bkL s (i + 1) (i : Int) [] := by
  have hl := h.len
  obtain ⟨hs, ha, hbb, d, q, q1, q2, q3⟩ := h
  have hik : k ≤ i := by
    rcases Nat.lt_or_ge i k with c | c
    · exact absurd hb (q1 i c hi)
    · exact c
  rw [← q3]
  exact bfs_found (i - k) (401 - k) s k i d q (by omega) hi hb (by omega)
theorem At11.small (h : At11 T a b s k) : ∀ i, i < s.length → 0 ≤ (qc s i).1 ∧ (qc s i).1 < 20 ∧ 0 ≤ (qc s i).2 ∧ (qc s i).2 < 20 := fun i hi => by
  obtain ⟨hs, ha, hbb, d, q, _⟩ := h
  exact freeV_small hs (q.free i hi)
theorem At11.par (h : At11 T a b s k) : ∀ i, i < s.length → (qb s i).toNat < s.length := fun i hi => by
  obtain ⟨hs, ha, hbb, d, q, _⟩ := h
  by_cases h0 : i = 0
  · subst h0; rw [q.root.2.2.1]; exact hi
  · obtain ⟨p, p1, p2, _⟩ := q.par i (by omega) hi
    rw [p1]; omega
theorem At11.has0 (h : At11 T a b s k) : 0 < s.length ∧ qc s 0 = a := by
  obtain ⟨hs, ha, hbb, d, q, _⟩ := h
  exact ⟨q.root.1, q.root.2.1⟩
end
/-- The cell from which the one at i was visited. -/
def befV (s : Qu) (i : Nat) : C2 := if qb s i < 0 then qc s i else qc s (qb s i).toNat
/-- The way back, from i down to j, the cells as they are appended. -/
def Way (s : Qu) (i j : Nat) (L : List C2) : Prop := ∃ M, L = M ++ [qc s j] ∧ bkL s (i + 1) (i : Int) [] = bkL s (j + 1) (j : Int) M.reverse
theorem Way.start (s : Qu) (i : Nat) : Way s i i [qc s i] := ⟨[], rfl, rfl⟩
section
variable {T : List (List Bool)} {a b : C2} {s : Qu} {k i j : Nat} {L : List C2}
theorem At11.back (h : At11 T a b s k) (hw : Way s i j L) (hj : j < s.length) (hne : qc s j ≠ a) : ∃ p, p < j ∧ befV s j = qc s p ∧ Way s i p (L ++ [qc s p]) := by
  obtain ⟨hs, ha, hbb, d, q, _⟩ := h
  have h0 : 0 < j := by
    rcases Nat.eq_zero_or_pos j with c | c
    · subst c; exact absurd q.root.2.1 hne
    · exact c
  obtain ⟨p, p1, p2, _⟩ := q.par j h0 hj
  refine ⟨p, p2, ?_, ?_⟩
  · unfold befV; rw [p1, if_neg (by omega), Int.toNat_natCast]
  · obtain ⟨M, e, hM⟩ := hw
    refine ⟨L, rfl, ?_⟩
    rw [hM, bk_one, p1, e, List.reverse_append]
    exact bk_fuel q p (by omega) _ _ _ p2 (by omega)
theorem At11.back0 (h : At11 T a b s k) (hw : Way s i j L) (hj : j < s.length) (he : qc s j = a) : bkL s (i + 1) (i : Int) [] = L.reverse := by
  obtain ⟨hs, ha, hbb, d, q, _⟩ := h
  obtain rfl : j = 0 := q.dist j 0 hj q.root.1 (by rw [he, q.root.2.1])
  obtain ⟨M, e, hM⟩ := hw
  rw [hM, bk_one, q.root.2.2.1, bk_end, e, List.reverse_append]
  rfl
theorem Way.len (hw : Way s i j L) : 0 < L.length := by obtain ⟨M, e, _⟩ := hw; rw [e]; simp
end
/-- A cell's number. -/
def cno (c : C2) : Nat := c.1.toNat * 20 + c.2.toNat
def smC (c : C2) : Prop := 0 ≤ c.1 ∧ c.1 < 20 ∧ 0 ≤ c.2 ∧ c.2 < 20
theorem cno_lt {c : C2} (h : smC c) : cno c < 400 := by unfold cno; unfold smC at h; omega
theorem cno_inj {c d : C2} (h : smC c) (k : smC d) (e : cno c = cno d) : c = d := by
  unfold cno at e; unfold smC at h k
  exact Prod.ext (by omega) (by omega)
/-- The seven words say which cells the queue has. -/
def Bits11 (V : Nat → Nat) (s : Qu) : Prop := (∀ q, q < 7 → V q < 18446744073709551616) ∧ ∀ k, k < 400 → ((V (k / 64)).testBit (k % 64) = true ↔ ∃ i, i < s.length ∧ cno (qc s i) = k)
theorem Bits11.nil : Bits11 (fun _ => 0) [] := ⟨fun _ _ => by show 0 < 18446744073709551616; omega, fun k _ => by simp⟩
theorem Bits11.has {V : Nat → Nat} {s : Qu} {c : C2} (h : Bits11 V s) (hs : ∀ i, i < s.length → smC (qc s i)) (hc : smC c) : (V (cno c / 64)).testBit (cno c % 64) = decide (Has s c) := by
  rw [Bool.eq_iff_iff, h.2 _ (cno_lt hc), decide_eq_true_iff]
  exact ⟨fun ⟨i, h1, h2⟩ => ⟨i, h1, cno_inj (hs i h1) hc h2⟩, fun ⟨i, h1, h2⟩ => ⟨i, h1, by rw [h2]⟩⟩
/-- One bit is set. -/
def setB (V : Nat → Nat) (n : Nat) : Nat → Nat := fun q => if q = n / 64 then V q ||| 2 ^ (n % 64) else V q
theorem Bits11.add {V : Nat → Nat} {s : Qu} {c : C2} (h : Bits11 V s) (p : Int) : Bits11 (setB V (cno c)) (s ++ [(c, p)]) := by
  refine ⟨fun q hq => ?_, fun k hk => ?_⟩
  · unfold setB
    split
    · exact Nat.or_lt_two_pow (n := 64) (h.1 q hq) (Nat.pow_lt_pow_right (by omega) (Nat.mod_lt _ (by omega)))
    · exact h.1 q hq
  · have key : (∃ i, i < (s ++ [(c, p)]).length ∧ cno (qc (s ++ [(c, p)]) i) = k) ↔ ((∃ i, i < s.length ∧ cno (qc s i) = k) ∨ cno c = k) := by
      constructor
      · rintro ⟨i, h1, h2⟩
        by_cases hi : i < s.length
        · rw [qc_app hi] at h2; exact .inl ⟨i, hi, h2⟩
        · obtain rfl : i = s.length := by simp at h1; omega
          rw [qc_last] at h2; exact .inr h2
      · rintro (⟨i, h1, h2⟩ | h2)
        · exact ⟨i, by simp; omega, by rw [qc_app h1]; exact h2⟩
        · exact ⟨s.length, by simp, by rw [qc_last]; exact h2⟩
    rw [key, ← h.2 k hk]
    unfold setB
    split
    · rename_i e
      rw [Nat.testBit_or, Nat.testBit_two_pow, Bool.or_eq_true, decide_eq_true_iff]
      constructor
      · rintro (q | q)
        · exact .inl q
        · exact .inr (by omega)
      · rintro (q | q)
        · exact .inl q
        · exact .inr (by omega)
    · rename_i e
      constructor
      · exact fun q => .inl q
      · rintro (q | q)
        · exact q
        · exact absurd (by rw [q]) e
theorem and_bit (v n : Nat) : (((v &&& 2 ^ n : Nat) : Int) != 0) = v.testBit n := by
  have e : (v &&& 2 ^ n).testBit n = v.testBit n := by rw [Nat.testBit_and, Nat.testBit_two_pow]; simp
  cases h : v.testBit n with
  | true =>
    rw [h] at e
    have : v &&& 2 ^ n ≠ 0 := fun q => by rw [q, Nat.zero_testBit] at e; cases e
    simp; omega
  | false =>
    have : v &&& 2 ^ n = 0 := by
      apply Nat.eq_of_testBit_eq
      intro i
      rw [Nat.testBit_and, Nat.testBit_two_pow, Nat.zero_testBit]
      by_cases k : n = i
      · subst k; rw [h]; rfl
      · simp [k]
    rw [this]; rfl
/-- One neighbour more. -/
def exps (fr : C2 → Bool) (s : Qu) (k j : Nat) : Qu := ((nbs (qc s k)).take j).foldl (vis fr k) s
theorem exps_zero (fr : C2 → Bool) (s : Qu) (k : Nat) : exps fr s k 0 = s := rfl
theorem exps_four (fr : C2 → Bool) (s : Qu) (k : Nat) : exps fr s k 4 = expd fr s k := rfl
theorem exps_succ (fr : C2 → Bool) (s : Qu) (k : Nat) {j : Nat} (h : j < 4) : exps fr s k (j + 1) = vis fr k (exps fr s k j) ((nbs (qc s k)).getD j (0, 0)) := by
  have e : (nbs (qc s k)).length = 4 := rfl
  unfold exps
  rw [List.take_succ_eq_append_getElem (by rw [e]; exact h), List.foldl_append, List.getD_eq_getElem?_getD, List.getElem?_eq_getElem (by rw [e]; exact h)]
  rfl
theorem vis_app (fr : C2 → Bool) (k : Nat) (s : Qu) (n : C2) : ∃ t, vis fr k s n = s ++ t := by
  unfold vis
  split
  · exact ⟨[], by simp⟩
  · exact ⟨_, rfl⟩
theorem exps_app (fr : C2 → Bool) (s : Qu) (k : Nat) : ∀ j, ∃ t, exps fr s k j = s ++ t := by
  have key : ∀ (l : List C2) (s : Qu), ∃ t, l.foldl (vis fr k) s = s ++ t := by
    intro l
    induction l with
    | nil => exact fun s => ⟨[], by simp⟩
    | cons n l ih =>
      intro s
      obtain ⟨t1, e1⟩ := vis_app fr k s n
      obtain ⟨t2, e2⟩ := ih (vis fr k s n)
      exact ⟨t1 ++ t2, by rw [List.foldl_cons, e2, e1, List.append_assoc]⟩
  exact fun j => key _ s
end Go.Proofs.Ytkogoflcacameaa
