/- Plain facts on motions: stop distances, the next speed, the speeds of a motion, and what a valid list of speeds is. -/
import Init
namespace Go.Proofs.Ytcoaahfnbgkofaa
set_option maxRecDepth 100000

/-- The stop distance of a speed, with f steps at most. -/
def stopF (r : Int) : Nat → Int → Int
  | 0, _ => 0
  | f + 1, v => if r < v then (v - r) + stopF r f (v - r) else 0
theorem stopF_enough (r : Int) (hr : 1 ≤ r) : ∀ (f g : Nat) (v : Int), v.toNat ≤ f → v.toNat ≤ g → stopF r f v = stopF r g v
  | 0, 0, _, _, _ => rfl
  | 0, g + 1, v, h, _ => by unfold stopF; rw [if_neg (by omega)]
  | f + 1, 0, v, _, h => by unfold stopF; rw [if_neg (by omega)]
  | f + 1, g + 1, v, h1, h2 => by
    unfold stopF
    by_cases h : r < v
    · rw [if_pos h, if_pos h, stopF_enough r hr f g (v - r) (by omega) (by omega)]
    · rw [if_neg h, if_neg h]
/-- The distance that is covered until rest. -/
def stopD (v r : Int) : Int := stopF r v.toNat v
theorem stopD_step (v r : Int) (hr : 1 ≤ r) (h : r < v) : stopD v r = (v - r) + stopD (v - r) r := by
  unfold stopD
  obtain ⟨f, hf⟩ : ∃ f, v.toNat = f + 1 := ⟨v.toNat - 1, by omega⟩
  rw [hf, stopF, if_pos h, stopF_enough r hr f (v - r).toNat (v - r) (by omega) (by omega)]
theorem stopD_zero (v r : Int) (h : v ≤ r) : stopD v r = 0 := by
  unfold stopD
  cases v.toNat with
  | zero => rfl
  | succ f => rw [stopF, if_neg (by omega)]
theorem stop_ind {P : Int → Prop} (r : Int) (hr : 1 ≤ r) (h0 : ∀ v, v ≤ r → P v) (h1 : ∀ v, r < v → P (v - r) → P v) (v : Int) : P v := by
  have H : ∀ (n : Nat) (v : Int), v.toNat ≤ n → P v := by
    intro n
    induction n with
    | zero => intro v hv; exact h0 v (by omega)
    | succ n ih =>
      intro v hv
      by_cases h : r < v
      · exact h1 v h (ih (v - r) (by omega))
      · exact h0 v (by omega)
  exact H v.toNat v (Nat.le_refl _)
theorem stopD_lo (v r : Int) (hr : 1 ≤ r) : 0 ≤ stopD v r := by
  refine stop_ind (P := fun v => 0 ≤ stopD v r) r hr (fun v h => ?_) (fun v h ih => ?_) v
  · rw [stopD_zero v r h]; omega
  · rw [stopD_step v r hr h]; omega
theorem stopD_hi (v r : Int) (hr : 1 ≤ r) (h0 : 0 ≤ v) (h1 : v ≤ 200) : stopD v r ≤ 200 * v := by
  revert h0 h1
  refine stop_ind (P := fun v => 0 ≤ v → v ≤ 200 → stopD v r ≤ 200 * v) r hr (fun v h h0 h1 => ?_) (fun v h ih h0 h1 => ?_) v
  · rw [stopD_zero v r h]; omega
  · rw [stopD_step v r hr h]
    have := ih (by omega) (by omega)
    omega
theorem stopD_ge (v r : Int) (hr : 1 ≤ r) : v - r ≤ stopD v r := by
  by_cases h : r < v
  · rw [stopD_step v r hr h]; have := stopD_lo (v - r) r hr; omega
  · rw [stopD_zero v r (by omega)]; omega
theorem stopD_succ (v r : Int) (hr : 1 ≤ r) : stopD v r ≤ stopD (v + 1) r := by
  refine stop_ind (P := fun v => stopD v r ≤ stopD (v + 1) r) r hr (fun v h => ?_) (fun v h ih => ?_) v
  · rw [stopD_zero v r h]; exact stopD_lo _ _ hr
  · rw [stopD_step v r hr h, stopD_step (v + 1) r hr (by omega), show v + 1 - r = v - r + 1 by omega]; omega
theorem stopD_mono (v r : Int) (hr : 1 ≤ r) (n : Nat) : stopD v r ≤ stopD (v + n) r := by
  induction n with
  | zero => simp
  | succ n ih =>
    have := stopD_succ (v + n) r hr
    rw [show v + ((n + 1 : Nat) : Int) = v + n + 1 by omega]
    omega
theorem stopD_le {v u r : Int} (hr : 1 ≤ r) (h : v ≤ u) : stopD v r ≤ stopD u r := by
  have := stopD_mono v r hr (u - v).toNat
  rw [show v + ((u - v).toNat : Int) = u by omega] at this
  exact this
theorem stopD_rise (v r : Int) (hr : 1 ≤ r) : stopD v (r + 1) ≤ stopD v r := by
  refine stop_ind (P := fun v => stopD v (r + 1) ≤ stopD v r) (r + 1) (by omega) (fun v h => ?_) (fun v h ih => ?_) v
  · rw [stopD_zero v (r + 1) h]; exact stopD_lo _ _ hr
  · rw [stopD_step v (r + 1) (by omega) h, stopD_step v r hr (by omega)]
    have := stopD_le (v := v - (r + 1)) (u := v - r) hr (by omega)
    omega
theorem stopD_next (v r : Int) (hr : 1 ≤ r) (_h0 : 0 ≤ v) : stopD v r = max 0 (v - r) + stopD (max 0 (v - r)) r := by
  by_cases h : r < v
  · rw [stopD_step v r hr h, show max 0 (v - r) = v - r by omega]
  · rw [stopD_zero v r (by omega), show max 0 (v - r) = 0 by omega, stopD_zero 0 r (by omega)]; omega

/-- What StopDistance returns. -/
def stopV (v r : Int) : Int := if (0 ≤ v ∧ v ≤ 200) ∧ (1 ≤ r ∧ r ≤ 50) then stopD v r else -1
theorem stopV_in (v r : Int) (h0 : 0 ≤ v) (h1 : v ≤ 200) (h2 : 1 ≤ r) (h3 : r ≤ 50) : stopV v r = stopD v r := by unfold stopV; rw [if_pos ⟨⟨h0, h1⟩, h2, h3⟩]
theorem stopV_out (v r : Int) (h : ¬ ((0 ≤ v ∧ v ≤ 200) ∧ (1 ≤ r ∧ r ≤ 50))) : stopV v r = -1 := by unfold stopV; rw [if_neg h]

/-- The greatest number of 0..m that is safe within the distance d. -/
def nextN (r d : Int) : Nat → Nat
  | 0 => 0
  | m + 1 => if ((m + 1 : Nat) : Int) + stopD ((m + 1 : Nat) : Int) r ≤ d then m + 1 else nextN r d m
theorem nextN_le (r d : Int) : ∀ m, nextN r d m ≤ m
  | 0 => Nat.le_refl _
  | m + 1 => by unfold nextN; split; exact Nat.le_refl _; exact Nat.le_succ_of_le (nextN_le r d m)
theorem nextN_safe (r d : Int) (hd : 0 ≤ d) (hr : 1 ≤ r) : ∀ m, (nextN r d m : Int) + stopD (nextN r d m) r ≤ d
  | 0 => by unfold nextN; rw [show ((0 : Nat) : Int) = 0 from rfl, stopD_zero 0 r (by omega)]; omega
  | m + 1 => by unfold nextN; split; assumption; exact nextN_safe r d hd hr m
theorem nextN_most (r d : Int) : ∀ m, nextN r d m = m ∨ d < (nextN r d m : Int) + 1 + stopD ((nextN r d m : Int) + 1) r
  | 0 => .inl rfl
  | m + 1 => by
    unfold nextN
    split
    · exact .inl rfl
    · rename_i h
      refine .inr ?_
      rcases nextN_most r d m with e | e
      · rw [e]; have : ((m + 1 : Nat) : Int) = (m : Int) + 1 := by omega
        rw [this] at h; omega
      · exact e
theorem nextN_pos (r d : Int) (hd : 1 ≤ d) (hr : 1 ≤ r) : ∀ m, 1 ≤ m → 1 ≤ nextN r d m
  | 0, h => by omega
  | m + 1, _ => by
    unfold nextN
    split
    · omega
    · rename_i h
      refine nextN_pos r d hd hr m ?_
      cases m with
      | succ m => omega
      | zero => rw [show ((0 + 1 : Nat) : Int) = 1 from rfl, stopD_zero 1 r hr] at h; omega
theorem nextN_take (r d : Int) (m : Nat) (h : (m : Int) + stopD m r ≤ d) : nextN r d m = m := by
  cases m with
  | zero => rfl
  | succ m => unfold nextN; rw [if_pos h]
theorem nextN_drop (r d : Int) (m : Nat) (h : ¬ ((m : Int) + stopD m r ≤ d)) (hm : 1 ≤ m) : nextN r d m = nextN r d (m - 1) := by
  cases m with
  | zero => omega
  | succ m => rw [nextN, if_neg h]; rfl

/-- The next speed. -/
def nextI (v d t r : Int) : Int := (nextN r d (min t (v + r)).toNat : Int)
theorem nextI_lo (v d t r : Int) : 0 ≤ nextI v d t r := by unfold nextI; omega
theorem nextI_hi (v d t r : Int) (ht : 1 ≤ t) (hr : 1 ≤ r) (hv : 0 ≤ v) : nextI v d t r ≤ min t (v + r) := by
  unfold nextI; have := nextN_le r d (min t (v + r)).toNat; omega
theorem nextI_safe (v d t r : Int) (hd : 0 ≤ d) (hr : 1 ≤ r) : nextI v d t r + stopD (nextI v d t r) r ≤ d := nextN_safe r d hd hr _
theorem nextI_most (v d t r : Int) (ht : 1 ≤ t) (hr : 1 ≤ r) (hv : 0 ≤ v) : nextI v d t r = min t (v + r) ∨ d < nextI v d t r + 1 + stopD (nextI v d t r + 1) r := by
  unfold nextI
  rcases nextN_most r d (min t (v + r)).toNat with e | e
  · left; rw [e]; omega
  · right; exact e
theorem nextI_pos (v d t r : Int) (hd : 1 ≤ d) (ht : 1 ≤ t) (hr : 1 ≤ r) (hv : 0 ≤ v) : 1 ≤ nextI v d t r := by
  unfold nextI
  have := nextN_pos r d hd hr (min t (v + r)).toNat (by omega)
  omega
theorem nextI_fall (v d t r : Int) (ht : 1 ≤ t) (hr : 1 ≤ r) (hv : 0 ≤ v) (hvt : v ≤ t) (hd : 1 ≤ d) (hs : stopD v r ≤ d) : v - r ≤ nextI v d t r := by
  by_cases h : r < v
  · rcases nextI_most v d t r ht hr hv with e | e
    · omega
    · rw [stopD_step v r hr h] at hs
      by_cases h2 : v - r ≤ nextI v d t r
      · exact h2
      · have := stopD_le (v := nextI v d t r + 1) (u := v - r) hr (by omega)
        omega
  · have := nextI_pos v d t r hd ht hr hv; omega
/-- What NextSpeed returns. -/
def nextV (v d t r : Int) : Int := if ((0 ≤ v ∧ v ≤ 200) ∧ (0 ≤ d ∧ d ≤ 5000)) ∧ ((1 ≤ t ∧ t ≤ 200) ∧ (1 ≤ r ∧ r ≤ 50)) then nextI v d t r else -1
theorem nextV_in (v d t r : Int) (h : ((0 ≤ v ∧ v ≤ 200) ∧ (0 ≤ d ∧ d ≤ 5000)) ∧ ((1 ≤ t ∧ t ≤ 200) ∧ (1 ≤ r ∧ r ≤ 50))) : nextV v d t r = nextI v d t r := by unfold nextV; rw [if_pos h]
theorem nextV_out (v d t r : Int) (h : ¬ (((0 ≤ v ∧ v ≤ 200) ∧ (0 ≤ d ∧ d ≤ 5000)) ∧ ((1 ≤ t ∧ t ≤ 200) ∧ (1 ≤ r ∧ r ≤ 50)))) : nextV v d t r = -1 := by unfold nextV; rw [if_neg h]

/-- The speeds of a motion that is at speed v with the distance d left, with f steps at most. -/
def profF (t r : Int) : Nat → Int → Int → List Int
  | 0, _, _ => []
  | f + 1, v, d => if 0 < d then nextI v d t r :: profF t r f (nextI v d t r) (d - nextI v d t r) else []
theorem profF_enough (t r : Int) (ht : 1 ≤ t) (hr : 1 ≤ r) : ∀ (f g : Nat) (v d : Int), 0 ≤ v → d.toNat ≤ f → d.toNat ≤ g → profF t r f v d = profF t r g v d
  | 0, 0, _, _, _, _, _ => rfl
  | 0, g + 1, v, d, _, h, _ => by unfold profF; rw [if_neg (by omega)]
  | f + 1, 0, v, d, _, _, h => by unfold profF; rw [if_neg (by omega)]
  | f + 1, g + 1, v, d, hv, h1, h2 => by
    unfold profF
    by_cases h : 0 < d
    · have := nextI_pos v d t r (by omega) ht hr hv
      rw [if_pos h, if_pos h, profF_enough t r ht hr f g _ _ (by omega) (by omega) (by omega)]
    · rw [if_neg h, if_neg h]
def profL (t r v d : Int) : List Int := profF t r d.toNat v d
theorem profL_step (t r v d : Int) (ht : 1 ≤ t) (hr : 1 ≤ r) (hv : 0 ≤ v) (hd : 0 < d) : profL t r v d = nextI v d t r :: profL t r (nextI v d t r) (d - nextI v d t r) := by
  have hp := nextI_pos v d t r (by omega) ht hr hv
  unfold profL
  obtain ⟨f, hf⟩ : ∃ f, d.toNat = f + 1 := ⟨d.toNat - 1, by omega⟩
  rw [hf, profF, if_pos hd, profF_enough t r ht hr f (d - nextI v d t r).toNat _ _ (by omega) (by omega) (by omega)]
theorem profL_nil (t r v d : Int) (hd : d ≤ 0) : profL t r v d = [] := by
  unfold profL; rw [show d.toNat = 0 by omega]; rfl
theorem prof_ind {P : Int → Int → Prop} (t r : Int) (ht : 1 ≤ t) (hr : 1 ≤ r) (h0 : ∀ v d, 0 ≤ v → d ≤ 0 → P v d) (h1 : ∀ v d, 0 ≤ v → 0 < d → P (nextI v d t r) (d - nextI v d t r) → P v d) (v d : Int) (hv : 0 ≤ v) : P v d := by
  have H : ∀ (n : Nat) (v d : Int), 0 ≤ v → d.toNat ≤ n → P v d := by
    intro n
    induction n with
    | zero => intro v d hv hd; exact h0 v d hv (by omega)
    | succ n ih =>
      intro v d hv hd
      by_cases h : 0 < d
      · have hp := nextI_pos v d t r (by omega) ht hr hv
        exact h1 v d hv h (ih _ _ (by omega) (by omega))
      · exact h0 v d hv (by omega)
  exact H d.toNat v d hv (Nat.le_refl _)
/-- The sum of a list. -/
def sumL : List Int → Int
  | [] => 0
  | x :: xs => x + sumL xs
theorem sumL_snoc (xs : List Int) (y : Int) : sumL (xs ++ [y]) = sumL xs + y := by
  induction xs with
  | nil => simp [sumL]
  | cons x xs ih => simp only [List.cons_append, sumL, ih]; omega
theorem sumL_append (xs ys : List Int) : sumL (xs ++ ys) = sumL xs + sumL ys := by
  induction xs with
  | nil => simp [sumL]
  | cons x xs ih => simp only [List.cons_append, sumL, ih]; omega
theorem prof_sum (t r v d : Int) (ht : 1 ≤ t) (hr : 1 ≤ r) (hv : 0 ≤ v) (hd : 0 ≤ d) : sumL (profL t r v d) = d := by
  revert hd
  refine prof_ind (P := fun v d => 0 ≤ d → sumL (profL t r v d) = d) t r ht hr (fun v d hv h hd => ?_) (fun v d hv h ih hd => ?_) v d hv
  · rw [profL_nil _ _ _ _ h]; simp only [sumL]; omega
  · rw [profL_step t r v d ht hr hv h, sumL]
    have := nextI_safe v d t r hd hr
    have h2 := stopD_lo (nextI v d t r) r hr
    rw [ih (by omega)]; omega
theorem prof_len (t r v d : Int) (ht : 1 ≤ t) (hr : 1 ≤ r) (hv : 0 ≤ v) (hd : 0 ≤ d) : ((profL t r v d).length : Int) ≤ d := by
  revert hd
  refine prof_ind (P := fun v d => 0 ≤ d → ((profL t r v d).length : Int) ≤ d) t r ht hr (fun v d hv h hd => ?_) (fun v d hv h ih hd => ?_) v d hv
  · rw [profL_nil _ _ _ _ h]; simp; omega
  · rw [profL_step t r v d ht hr hv h, List.length_cons]
    have := nextI_safe v d t r hd hr
    have h2 := stopD_lo (nextI v d t r) r hr
    have h3 := nextI_pos v d t r (by omega) ht hr hv
    have := ih (by omega)
    omega
theorem prof_far (t r v d : Int) (ht : 1 ≤ t) (hr : 1 ≤ r) (hv : 0 ≤ v) (hd : 0 ≤ d) : d ≤ ((profL t r v d).length : Int) * t := by
  revert hd
  refine prof_ind (P := fun v d => 0 ≤ d → d ≤ ((profL t r v d).length : Int) * t) t r ht hr (fun v d hv h hd => ?_) (fun v d hv h ih hd => ?_) v d hv
  · rw [profL_nil _ _ _ _ h]; simp; omega
  · rw [profL_step t r v d ht hr hv h, List.length_cons]
    have := nextI_safe v d t r hd hr
    have h2 := stopD_lo (nextI v d t r) r hr
    have h3 := nextI_hi v d t r ht hr hv
    have h4 := ih (by omega)
    have h5 : (((profL t r (nextI v d t r) (d - nextI v d t r)).length + 1 : Nat) : Int) * t = ((profL t r (nextI v d t r) (d - nextI v d t r)).length : Int) * t + t := by
      rw [Int.natCast_add, Int.add_mul]; simp
    rw [h5]; omega

/-- A valid rest of a motion behind the speed b. -/
def okProf (t r : Int) : Int → List Int → Prop
  | b, [] => b ≤ r
  | b, x :: xs => 1 ≤ x ∧ x ≤ t ∧ x ≤ b + r ∧ b - r ≤ x ∧ okProf t r x xs
theorem prof_ok (t r v d : Int) (ht : 1 ≤ t) (hr : 1 ≤ r) (hv : 0 ≤ v) (hvt : v ≤ t) (hs : stopD v r ≤ d) : okProf t r v (profL t r v d) := by
  revert hvt hs
  refine prof_ind (P := fun v d => v ≤ t → stopD v r ≤ d → okProf t r v (profL t r v d)) t r ht hr (fun v d hv h hvt hs => ?_) (fun v d hv h ih hvt hs => ?_) v d hv
  · rw [profL_nil _ _ _ _ h]; have := stopD_ge v r hr; simp only [okProf]; omega
  · rw [profL_step t r v d ht hr hv h]
    have h1 := nextI_safe v d t r (by omega) hr
    have h2 := stopD_lo (nextI v d t r) r hr
    have h3 := nextI_pos v d t r (by omega) ht hr hv
    have h4 := nextI_hi v d t r ht hr hv
    have h5 := nextI_fall v d t r ht hr hv hvt (by omega) hs
    exact ⟨h3, by omega, by omega, h5, ih (by omega) (by omega)⟩
instance okProf_dec (t r : Int) : ∀ (b : Int) (xs : List Int), Decidable (okProf t r b xs)
  | b, [] => inferInstanceAs (Decidable (b ≤ r))
  | b, x :: xs => by
    unfold okProf
    have := okProf_dec t r x xs
    infer_instance
/-- The speeds of a motion from rest to rest. -/
def validP (t r : Int) (xs : List Int) : Prop := (1 ≤ t ∧ t ≤ 200) ∧ (1 ≤ r ∧ r ≤ 50) ∧ xs.length ≤ 5000 ∧ okProf t r 0 xs
instance (t r : Int) (xs : List Int) : Decidable (validP t r xs) := by unfold validP; infer_instance
theorem okProf_snoc (t r : Int) : ∀ (b : Int) (xs : List Int) (y : Int), okProf t r b (xs ++ [y]) → y ≤ t
  | _, [], _, h => h.2.1
  | _, x :: xs, y, h => okProf_snoc t r x xs y h.2.2.2.2
/-- Steps between neighbours, and every number in 1..t. -/
def okIn (t r : Int) : List Int → Prop
  | [] => True
  | [x] => 1 ≤ x ∧ x ≤ t
  | x :: y :: xs => (1 ≤ x ∧ x ≤ t) ∧ (y ≤ x + r ∧ x - r ≤ y) ∧ okIn t r (y :: xs)
theorem okIn_of (t r : Int) : ∀ (b : Int) (xs : List Int), okProf t r b xs → okIn t r xs
  | _, [], _ => trivial
  | _, [_], h => ⟨h.1, h.2.1⟩
  | _, x :: y :: xs, h => ⟨⟨h.1, h.2.1⟩, ⟨h.2.2.2.2.2.2.1, h.2.2.2.2.2.2.2.1⟩, okIn_of t r x (y :: xs) h.2.2.2.2⟩
theorem okIn_snoc (t r : Int) : ∀ (xs : List Int) (x y : Int), okIn t r (xs ++ [x]) → (1 ≤ y ∧ y ≤ t) → (y ≤ x + r ∧ x - r ≤ y) → okIn t r (xs ++ [x] ++ [y])
  | [], _, _, h, hy, hs => ⟨h, hs, hy⟩
  | [_], _, _, h, hy, hs => ⟨h.1, h.2.1, h.2.2, hs, hy⟩
  | _ :: z2 :: xs, x, y, h, hy, hs => ⟨h.1, h.2.1, okIn_snoc t r (z2 :: xs) x y h.2.2 hy hs⟩
theorem okIn_rev (t r : Int) : ∀ (xs : List Int), okIn t r xs → okIn t r xs.reverse
  | [], _ => trivial
  | [x], h => h
  | x :: y :: xs, h => by
    have ih := okIn_rev t r (y :: xs) h.2.2
    rw [List.reverse_cons, List.reverse_cons]
    rw [List.reverse_cons] at ih
    exact okIn_snoc t r xs.reverse y x ih h.1 ⟨by have := h.2.1; omega, by have := h.2.1; omega⟩
theorem okProf_last (t r : Int) : ∀ (b : Int) (xs : List Int) (y : Int), okProf t r b (xs ++ [y]) → y ≤ r
  | _, [], _, h => h.2.2.2.2
  | _, x :: xs, y, h => okProf_last t r x xs y h.2.2.2.2
theorem okProf_to (t r : Int) : ∀ (xs : List Int) (b x : Int), okIn t r (x :: xs) → x ≤ b + r → b - r ≤ x → (∀ ys y, x :: xs = ys ++ [y] → y ≤ r) → okProf t r b (x :: xs)
  | [], b, x, h, h1, h2, hl => ⟨h.1, h.2, h1, h2, hl [] x rfl⟩
  | y :: xs, b, x, h, h1, h2, hl => ⟨h.1.1, h.1.2, h1, h2, okProf_to t r xs x y h.2.2 h.2.1.1 h.2.1.2 (fun ys z e => hl (x :: ys) z (by rw [e]; rfl))⟩
theorem okProf_rev (t r : Int) (hr : 1 ≤ r) (xs : List Int) (h : okProf t r 0 xs) : okProf t r 0 xs.reverse := by
  have hi := okIn_rev t r xs (okIn_of t r 0 xs h)
  cases hx : xs.reverse with
  | nil => show (0 : Int) ≤ r; omega
  | cons y ys =>
    rw [hx] at hi
    have e : xs = ys.reverse ++ [y] := by rw [← List.reverse_reverse xs, hx, List.reverse_cons]
    have hy : y ≤ r := okProf_last t r 0 ys.reverse y (by rw [← e]; exact h)
    have hy1 : 1 ≤ y := by
      cases ys with
      | nil => exact hi.1
      | cons z zs => exact hi.1.1
    refine okProf_to t r ys 0 y hi (by omega) (by omega) (fun zs z ez => ?_)
    have e2 : xs = z :: zs.reverse := by rw [← List.reverse_reverse xs, hx, ez]; simp
    rw [e2] at h
    have := h.2.2.1
    omega
theorem valid_rev (t r : Int) (xs : List Int) (h : validP t r xs) : validP t r xs.reverse :=
  ⟨h.1, h.2.1, by rw [List.length_reverse]; exact h.2.2.1, okProf_rev t r h.2.1.1 xs h.2.2.2⟩
theorem valid_top (t r : Int) (xs : List Int) : ¬ validP t r (xs ++ [t + 1]) := fun h => by
  have := okProf_snoc t r 0 xs (t + 1) h.2.2.2; omega
theorem valid_prof (t r d : Int) (ht : 1 ≤ t) (ht2 : t ≤ 200) (hr : 1 ≤ r) (hr2 : r ≤ 50) (hd : 0 ≤ d) (hd2 : d ≤ 5000) : validP t r (profL t r 0 d) :=
  ⟨⟨ht, ht2⟩, ⟨hr, hr2⟩, by have := prof_len t r 0 d ht hr (by omega) hd; omega, prof_ok t r 0 d ht hr (by omega) (by omega) (by rw [stopD_zero 0 r (by omega)]; exact hd)⟩
end Go.Proofs.Ytcoaahfnbgkofaa
