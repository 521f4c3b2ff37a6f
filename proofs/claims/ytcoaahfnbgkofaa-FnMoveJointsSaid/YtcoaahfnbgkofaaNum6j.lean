/- Plain facts on the rows of a coordinated motion. -/
import Derived.Test.YtcoaahfnbgkofaaNum6m
import Derived.Test.YtcoaahfnbgkofaaMt6
namespace Go.Proofs.Ytcoaahfnbgkofaa
set_option maxRecDepth 100000
/-- The angle of a joint after the part p of a motion over the distance d. -/
def angA (f t p d : Int) : Int := if t < f then f - (f - t) * p / d else f + (t - f) * p / d
theorem share_bd {x p d : Int} (h0 : 0 ≤ x) (hp : 0 ≤ p) (hp1 : p ≤ d) (hd : 0 < d) : 0 ≤ x * p / d ∧ x * p / d ≤ x := by
  refine ⟨Int.ediv_nonneg (Int.mul_nonneg h0 hp) (by omega), Int.ediv_le_of_le_mul hd ?_⟩
  exact Int.mul_le_mul_of_nonneg_left hp1 h0
theorem share_mono {x p q d : Int} (h0 : 0 ≤ x) (hpq : p ≤ q) (hd : 0 < d) : x * p / d ≤ x * q / d :=
  Int.ediv_le_ediv hd (Int.mul_le_mul_of_nonneg_left hpq h0)
/-- A joint moves by at most what the sum has grown. -/
theorem share_step {x p s d : Int} (h1 : x ≤ d) (hs : 0 ≤ s) (hd : 0 < d) : x * (p + s) / d ≤ x * p / d + s := by
  have hx : x * s ≤ d * s := Int.mul_le_mul_of_nonneg_right h1 hs
  have e : x * (p + s) ≤ x * p + s * d := by rw [Int.mul_add, Int.mul_comm s d]; omega
  have h2 : x * (p + s) / d ≤ (x * p + s * d) / d := Int.ediv_le_ediv hd e
  rw [Int.add_mul_ediv_right _ _ (by omega)] at h2
  exact h2
theorem share_all (x d : Int) (hd : 0 < d) : x * d / d = x := Int.mul_ediv_cancel x (by omega)
theorem share_none (x d : Int) : x * 0 / d = 0 := by simp
section
variable {f t p q s d : Int}
theorem angA_none : angA f t 0 d = f := by unfold angA; split <;> simp
theorem angA_all (hd : 0 < d) : angA f t d d = t := by
  unfold angA
  split
  · rw [share_all _ _ hd]; omega
  · rw [share_all _ _ hd]; omega
/-- An angle on the way lies between both ends. -/
theorem angA_in (hp : 0 ≤ p) (hp1 : p ≤ d) (hd : 0 < d) : min f t ≤ angA f t p d ∧ angA f t p d ≤ max f t := by
  unfold angA
  split
  · have := share_bd (x := f - t) (p := p) (d := d) (by omega) hp hp1 hd; omega
  · have := share_bd (x := t - f) (p := p) (d := d) (by omega) hp hp1 hd; omega
/-- A step of a joint: in its direction, by at most what the sum has grown. -/
theorem angA_step (h1 : t - f ≤ d) (h2 : f - t ≤ d) (hs : 0 ≤ s) (hd : 0 < d) :
    -s ≤ angA f t (p + s) d - angA f t p d ∧ angA f t (p + s) d - angA f t p d ≤ s ∧ (t < f → angA f t (p + s) d - angA f t p d ≤ 0) ∧ (f < t → 0 ≤ angA f t (p + s) d - angA f t p d) := by
  unfold angA
  split
  · have a := share_step (x := f - t) (p := p) (s := s) (d := d) h2 hs hd
    have b := share_mono (x := f - t) (p := p) (q := p + s) (d := d) (by omega) (by omega) hd
    omega
  · have a := share_step (x := t - f) (p := p) (s := s) (d := d) h1 hs hd
    have b := share_mono (x := t - f) (p := p) (q := p + s) (d := d) (by omega) (by omega) hd
    omega
theorem angA_still (h : f = t) : angA f t p d = f := by subst h; unfold angA; simp
end
/-- One row: the angles of all joints. -/
def rowA (fs ts : List Int) (p d : Int) : List Int := (List.range fs.length).map fun (j : Nat) => angA (fs.getD j 0) (ts.getD j 0) p d
theorem rowA_len (fs ts : List Int) (p d : Int) : (rowA fs ts p d).length = fs.length := by simp [rowA]
theorem rowA_at (fs ts : List Int) (p d : Int) (j : Nat) (h : j < fs.length) : (rowA fs ts p d).getD j 0 = angA (fs.getD j 0) (ts.getD j 0) p d := by
  unfold rowA; rw [List.getD_eq_getElem?_getD, List.getElem?_map, List.getElem?_range h]; rfl
/-- The sum of the first k speeds. -/
def partS (ps : List Int) (k : Nat) : Int := sumL (ps.take k)
theorem partS_zero (ps : List Int) : partS ps 0 = 0 := by simp [partS, sumL]
theorem partS_succ (ps : List Int) (k : Nat) (h : k < ps.length) : partS ps (k + 1) = partS ps k + ps.getD k 0 := by
  unfold partS
  rw [List.take_succ_eq_append_getElem h, sumL_snoc, List.getD_eq_getElem?_getD, List.getElem?_eq_getElem h]
  rfl
theorem partS_all (ps : List Int) : partS ps ps.length = sumL ps := by unfold partS; rw [List.take_length]
/-- All speeds lie in 1..t. -/
theorem prof_in (t r : Int) (ht : 1 ≤ t) (hr : 1 ≤ r) (v d : Int) (hv : 0 ≤ v) : ∀ x ∈ profL t r v d, 1 ≤ x ∧ x ≤ t := by
  refine prof_ind (P := fun v d => ∀ x ∈ profL t r v d, 1 ≤ x ∧ x ≤ t) t r ht hr ?_ ?_ v d hv
  · intro v d _ hd x hx; rw [profL_nil t r v d hd] at hx; cases hx
  · intro v d hv hd ih x hx
    rw [profL_step t r v d ht hr hv hd] at hx
    rcases List.mem_cons.1 hx with rfl | hx
    · have h1 := nextI_pos v d t r (by omega) ht hr hv
      have h2 := nextI_hi v d t r ht hr hv
      omega
    · exact ih x hx
theorem partS_mono (ps : List Int) (h : ∀ x ∈ ps, 1 ≤ x) {j k : Nat} (hjk : j ≤ k) (hk : k ≤ ps.length) : partS ps j ≤ partS ps k := by
  induction k with
  | zero => obtain rfl : j = 0 := by omega
            exact Int.le_refl _
  | succ k ih =>
    rcases Nat.lt_or_ge j (k + 1) with q | q
    · have h1 := ih (by omega) (by omega)
      have h2 := h (ps.getD k 0) (by rw [List.getD_eq_getElem?_getD, List.getElem?_eq_getElem (by omega)]; exact List.getElem_mem _)
      rw [partS_succ ps k (by omega)]
      omega
    · obtain rfl : j = k + 1 := by omega
      exact Int.le_refl _
/-- The speeds of a motion between two rows of valid angles. -/
structure Spd (ps : List Int) (t d : Int) : Prop where
  one : ∀ k, k < ps.length → 1 ≤ ps.getD k 0 ∧ ps.getD k 0 ≤ t
  sum : ∀ k, k ≤ ps.length → 0 ≤ partS ps k ∧ partS ps k ≤ d
  all : partS ps ps.length = d
  pos : 1 ≤ ps.length → 0 < d
  len : (ps.length : Int) ≤ d
theorem spd_of {ls lo hi fs ts : List Int} {t r : Int} (h : okMv ls lo hi fs ts t r) : Spd (profV (mostV fs ts) t r) t (mostV fs ts) := by
  have hm := h.1.move h.2.1 h.2.2
  have h1 := prof_in t r h.2.1.1 h.2.2.1 0 (mostV fs ts) (by omega)
  have h2 := prof_sum t r 0 (mostV fs ts) h.2.1.1 h.2.2.1 (by omega) h.1.most.1
  have h3 := prof_len t r 0 (mostV fs ts) h.2.1.1 h.2.2.1 (by omega) h.1.most.1
  rw [profV_in hm]
  refine ⟨fun k hk => h1 _ (by rw [List.getD_eq_getElem?_getD, List.getElem?_eq_getElem hk]; exact List.getElem_mem _), fun k hk => ?_, by rw [partS_all]; exact h2, fun q => by omega, h3⟩
  have a := partS_mono (profL t r 0 (mostV fs ts)) (fun x hx => (h1 x hx).1) (Nat.zero_le k) hk
  have b := partS_mono (profL t r 0 (mostV fs ts)) (fun x hx => (h1 x hx).1) hk (Nat.le_refl _)
  rw [partS_zero] at a
  rw [partS_all, h2] at b
  exact ⟨a, b⟩
/-- The rows of a motion. -/
def rowsA (fs ts ps : List Int) (d : Int) : List (List Int) := (List.range ps.length).map fun (k : Nat) => rowA fs ts (partS ps (k + 1)) d
theorem rowsA_len (fs ts ps : List Int) (d : Int) : (rowsA fs ts ps d).length = ps.length := by simp [rowsA]
theorem rowsA_at (fs ts ps : List Int) (d : Int) (k : Nat) (h : k < ps.length) : (rowsA fs ts ps d).getD k [] = rowA fs ts (partS ps (k + 1)) d := by
  unfold rowsA; rw [List.getD_eq_getElem?_getD, List.getElem?_map, List.getElem?_range h]; rfl
def moveV (ls lo hi fs ts : List Int) (t r : Int) : List (List Int) := if okMv ls lo hi fs ts t r then rowsA fs ts (profV (mostV fs ts) t r) (mostV fs ts) else []
theorem moveV_in {ls lo hi fs ts : List Int} {t r : Int} (h : okMv ls lo hi fs ts t r) : moveV ls lo hi fs ts t r = rowsA fs ts (profV (mostV fs ts) t r) (mostV fs ts) := by unfold moveV; rw [if_pos h]
theorem moveV_out {ls lo hi fs ts : List Int} {t r : Int} (h : ¬ okMv ls lo hi fs ts t r) : moveV ls lo hi fs ts t r = [] := by unfold moveV; rw [if_neg h]
theorem moveV_len (ls lo hi fs ts : List Int) (t r : Int) : (moveV ls lo hi fs ts t r).length ≤ 360 := by
  by_cases h : okMv ls lo hi fs ts t r
  · rw [moveV_in h, rowsA_len]; have := (spd_of h).len; have := h.1.most; omega
  · rw [moveV_out h]; simp
end Go.Proofs.Ytcoaahfnbgkofaa
