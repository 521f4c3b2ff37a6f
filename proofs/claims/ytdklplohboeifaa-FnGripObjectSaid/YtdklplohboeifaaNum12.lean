/- The plain mathematics of the gripper: one step of its fingers, where they come to rest and after how many steps, and what they hold. -/
import Derived.WalkKit
namespace Go.Proofs.Ytdklplohboeifaa
set_option maxRecDepth 100000

/-- The width after a step. -/
def gripN (w t s o : Int) : Int := if o ≤ w then max (min (max t (w - s)) (w + s)) o else min (max t (w - s)) (w + s)
/-- The arguments of a gripper. -/
def okGrip (w t s o : Int) : Prop := (0 ≤ w ∧ w ≤ 200) ∧ (0 ≤ t ∧ t ≤ 200) ∧ (0 ≤ o ∧ o ≤ 200) ∧ (1 ≤ s ∧ s ≤ 200)
instance (w t s o : Int) : Decidable (okGrip w t s o) := by unfold okGrip; infer_instance
def gripV (w t s o : Int) : Int := if okGrip w t s o then gripN w t s o else -1
def gripH (w t s o : Int) : Bool := decide (okGrip w t s o ∧ 0 < o ∧ gripN w t s o = o ∧ t < o)
theorem gripV_in {w t s o : Int} (h : okGrip w t s o) : gripV w t s o = gripN w t s o := if_pos h
theorem gripV_out {w t s o : Int} (h : ¬ okGrip w t s o) : gripV w t s o = -1 := if_neg h
theorem gripH_out {w t s o : Int} (h : ¬ okGrip w t s o) : gripH w t s o = false := by simp [gripH, h]
theorem gripN_rng {w t s o : Int} (h : okGrip w t s o) : 0 ≤ gripN w t s o ∧ gripN w t s o ≤ 200 := by
  obtain ⟨h1, h2, h3, h4⟩ := h
  unfold gripN; split <;> omega
theorem gripN_ok {w t s o : Int} (h : okGrip w t s o) : okGrip (gripN w t s o) t s o := ⟨gripN_rng h, h.2⟩
/-- Where the fingers come to rest. -/
def restW (w t o : Int) : Int := if t < w ∧ o ≤ w then max t o else t
theorem restW_step {w t s o : Int} (h : okGrip w t s o) : restW (gripN w t s o) t o = restW w t o := by
  obtain ⟨h1, h2, h3, h4⟩ := h
  unfold restW gripN; repeat' split
  all_goals omega
/-- How far the fingers are from there. -/
def farW (w t o : Int) : Nat := (restW w t o - w).natAbs
theorem farW_step {w t s o : Int} (h : okGrip w t s o) : (farW (gripN w t s o) t o : Int) = (farW w t o : Int) - min s (farW w t o) := by
  obtain ⟨h1, h2, h3, h4⟩ := h
  unfold farW restW gripN; repeat' split
  all_goals omega
theorem farW_rest {w t s o : Int} (h : okGrip w t s o) : gripN w t s o = w ↔ farW w t o = 0 := by
  obtain ⟨h1, h2, h3, h4⟩ := h
  unfold farW restW gripN; repeat' split
  all_goals omega
theorem farW_le {w t s o : Int} (h : okGrip w t s o) : (farW w t o : Int) ≤ ((t - w).natAbs : Int) ∧ farW w t o ≤ 200 := by
  obtain ⟨h1, h2, h3, h4⟩ := h
  unfold farW restW; split <;> omega
/-- The number of steps. -/
def gripT (w t s o : Int) : Int := ((farW w t o : Int) + s - 1) / s
theorem gripT_rest {w t s o : Int} (h : okGrip w t s o) (e : gripN w t s o = w) : gripT w t s o = 0 := by
  have hs := h.2.2.2
  rw [gripT, (farW_rest h).1 e]
  exact Int.ediv_eq_zero_of_lt (by omega) (by omega)
theorem gripT_step {w t s o : Int} (h : okGrip w t s o) (e : gripN w t s o ≠ w) : gripT w t s o = 1 + gripT (gripN w t s o) t s o := by
  have hs := h.2.2.2
  have hf := farW_step h
  have h0 : farW w t o ≠ 0 := fun q => e ((farW_rest h).2 q)
  unfold gripT
  rw [hf]
  by_cases hq : s ≤ (farW w t o : Int)
  · rw [show (farW w t o : Int) + s - 1 = ((farW w t o : Int) - min s (farW w t o) + s - 1) + 1 * s by omega, Int.add_mul_ediv_right _ _ (by omega)]
    exact Int.add_comm _ _
  · have z1 : ((farW w t o : Int) - min s (farW w t o) + s - 1) / s = 0 := by
      rw [show (farW w t o : Int) - min s (farW w t o) + s - 1 = s - 1 by omega]
      exact Int.ediv_eq_zero_of_lt (by omega) (by omega)
    have z2 : ((farW w t o : Int) - 1) / s = 0 := Int.ediv_eq_zero_of_lt (by omega) (by omega)
    rw [z1, show (farW w t o : Int) + s - 1 = ((farW w t o : Int) - 1) + 1 * s by omega, Int.add_mul_ediv_right _ _ (by omega), z2]
    rfl
theorem gripT_nonneg {w t s o : Int} (h : okGrip w t s o) : 0 ≤ gripT w t s o := by
  have hs := h.2.2.2
  exact Int.ediv_nonneg (by omega) (by omega)
theorem ceil_le {d s : Int} (hd : 0 ≤ d) (hs : 1 ≤ s) : (d + s - 1) / s ≤ d := by
  have h1 : d + s - 1 < (d + 1) * s := by
    have : 0 ≤ d * (s - 1) := Int.mul_nonneg hd (by omega)
    rw [Int.mul_sub] at this; rw [Int.add_mul]; omega
  have := Int.ediv_lt_of_lt_mul (by omega) h1
  omega
theorem ceil_mono {d s : Int} (hd : 0 ≤ d) (hs : 1 ≤ s) : (d + (s + 1) - 1) / (s + 1) ≤ (d + s - 1) / s := by
  have k0 : 0 ≤ (d + s - 1) / s := Int.ediv_nonneg (by omega) (by omega)
  have h2 := Int.lt_mul_ediv_self_add (x := d + s - 1) (k := s) (by omega)
  generalize (d + s - 1) / s = k at *
  have h3 : d ≤ s * k := by omega
  have h4 : d + (s + 1) - 1 < (k + 1) * (s + 1) := by
    rw [show (k + 1) * (s + 1) = s * k + k + s + 1 by rw [Int.mul_comm s k]; rw [Int.add_mul, Int.mul_add]; omega]; omega
  have := Int.ediv_lt_of_lt_mul (by omega) h4
  omega
theorem gripT_le {w t s o : Int} (h : okGrip w t s o) : gripT w t s o ≤ ((t - w).natAbs : Int) ∧ gripT w t s o ≤ 200 := by
  have hs := h.2.2.2
  have h1 := farW_le h
  have h2 := ceil_le (d := (farW w t o : Int)) (s := s) (by omega) (by omega)
  unfold gripT; omega
theorem gripT_fast {w t s o : Int} (h : okGrip w t s o) : gripT w t (s + 1) o ≤ gripT w t s o := by
  have hs := h.2.2.2
  exact ceil_mono (by omega) (by omega)
theorem gripT_zero {w t s o : Int} (h : okGrip w t s o) (e : gripT w t s o = 0) : gripN w t s o = w := by
  have hs := h.2.2.2
  refine (farW_rest h).2 ?_
  unfold gripT at e
  have := Int.lt_mul_ediv_self_add (x := (farW w t o : Int) + s - 1) (k := s) (by omega)
  rw [e, Int.mul_zero] at this
  omega
/-- The number of steps, or -1. -/
def gripTV (w t s o : Int) : Int := if okGrip w t s o then gripT w t s o else -1
theorem gripTV_in {w t s o : Int} (h : okGrip w t s o) : gripTV w t s o = gripT w t s o := if_pos h
theorem gripTV_out {w t s o : Int} (h : ¬ okGrip w t s o) : gripTV w t s o = -1 := if_neg h
/-- What is held by friction. -/
def okHold (f u w : Int) : Prop := (0 ≤ f ∧ f ≤ 1000) ∧ (0 ≤ u ∧ u ≤ 200) ∧ (0 ≤ w ∧ w ≤ 1000)
instance (f u w : Int) : Decidable (okHold f u w) := by unfold okHold; infer_instance
def holdV (f u w : Int) : Bool := decide (okHold f u w ∧ 100 * w ≤ 2 * f * u)
theorem holdV_out {f u w : Int} (h : ¬ okHold f u w) : holdV f u w = false := by simp [holdV, h]
theorem holdV_in {f u w : Int} (h : okHold f u w) : holdV f u w = decide (100 * w ≤ 2 * f * u) := by simp [holdV, h]
theorem fu_rng {f u w : Int} (h : okHold f u w) : 0 ≤ 2 * f * u ∧ 2 * f * u ≤ 400000 := by
  obtain ⟨h1, h2, _⟩ := h
  have a := Int.mul_nonneg (show 0 ≤ 2 * f by omega) h2.1
  have b := Int.mul_le_mul (show 2 * f ≤ 2000 by omega) h2.2 h2.1 (by omega)
  omega
theorem holdV_zero {f u w : Int} (h : okHold f u w) : holdV f u 0 = true := by
  have hk : okHold f u 0 := ⟨h.1, h.2.1, by omega⟩
  rw [holdV_in hk]; have := fu_rng h; simp; omega
theorem holdV_force {f u w : Int} (h : holdV f u w = true) (hf : f ≠ 1000) : holdV (f + 1) u w = true := by
  simp only [holdV, decide_eq_true_eq] at h ⊢
  obtain ⟨⟨h1, h2, h3⟩, h4⟩ := h
  refine ⟨⟨by omega, h2, h3⟩, ?_⟩
  rw [Int.mul_add, Int.add_mul, Int.mul_one]; omega
theorem holdV_friction {f u w : Int} (h : holdV f u w = true) (hu : u ≠ 200) : holdV f (u + 1) w = true := by
  simp only [holdV, decide_eq_true_eq] at h ⊢
  obtain ⟨⟨h1, h2, h3⟩, h4⟩ := h
  refine ⟨⟨h1, by omega, h3⟩, ?_⟩
  rw [Int.mul_add (2 * f) u 1]; omega
theorem holdV_less {f u w : Int} (h : holdV f u w = true) (hw : w ≠ 0) : holdV f u (w - 1) = true := by
  simp only [holdV, decide_eq_true_eq] at h ⊢
  obtain ⟨⟨h1, h2, h3⟩, h4⟩ := h
  exact ⟨⟨h1, h2, by omega⟩, by omega⟩
end Go.Proofs.Ytdklplohboeifaa
