/- Plain facts on arcs. -/
import Derived.Test.YtlajpeoadgfobaaDoorNum3
namespace Go.Proofs.YtlajpeoadgfobaaDoor
set_option maxRecDepth 100000
/-- The points of an arc. -/
def arcL (cx cy r f s : Int) (n : Nat) : List (Int × Int) := (List.range n).map fun (k : Nat) => (cx + rotX r 0 (f + (k : Int) * s), cy + rotY r 0 (f + (k : Int) * s))
theorem arcL_len (cx cy r f s : Int) (n : Nat) : (arcL cx cy r f s n).length = n := by simp [arcL]
theorem arcL_at (cx cy r f s : Int) (n k : Nat) (h : k < n) : (arcL cx cy r f s n).getD k (0, 0) = (cx + rotX r 0 (f + (k : Int) * s), cy + rotY r 0 (f + (k : Int) * s)) := by
  unfold arcL; rw [List.getD_eq_getElem?_getD, List.getElem?_map, List.getElem?_range h]; rfl
/-- How many points an arc has. -/
def arcN (f t s : Int) : Nat := ((t - f) / s).toNat + 1
def okArc (cx cy r f t s : Int) : Prop := okP cx cy ∧ (1 ≤ r ∧ r ≤ 500) ∧ (-360 ≤ f ∧ f ≤ 360) ∧ (f ≤ t ∧ t ≤ 360) ∧ (1 ≤ s ∧ s ≤ 360)
instance (cx cy r f t s : Int) : Decidable (okArc cx cy r f t s) := by unfold okArc; infer_instance
theorem arcN_in {f t s : Int} (k : Nat) (hs : 1 ≤ s) (hft : f ≤ t) : k < arcN f t s ↔ f + (k : Int) * s ≤ t := by
  have h0 : 0 ≤ (t - f) / s := Int.ediv_nonneg (by omega) (by omega)
  have h1 : (k : Int) ≤ (t - f) / s ↔ (k : Int) * s ≤ t - f := Int.le_ediv_iff_mul_le (by omega)
  unfold arcN
  constructor
  · intro h; have := h1.1 (by omega); omega
  · intro h; have := h1.2 (by omega); omega
theorem arcN_le {f t s : Int} (hs : 1 ≤ s) (hft : f ≤ t) (h1 : -360 ≤ f) (h2 : t ≤ 360) : arcN f t s ≤ 721 := by
  rcases Nat.lt_or_ge 721 (arcN f t s) with h | h
  · have := (arcN_in 721 hs hft).1 h
    have h2 : (721 : Int) * 1 ≤ 721 * s := Int.mul_le_mul_of_nonneg_left hs (by omega)
    have h3 : ((721 : Nat) : Int) * s = 721 * s := rfl
    omega
  · exact h
theorem arcN_quo {f t s : Int} (hs : 1 ≤ s) (hft : f ≤ t) : ((arcN f t s : Nat) : Int) = (t - f).tdiv s + 1 := by
  rw [Int.tdiv_eq_ediv_of_nonneg (by omega)]
  have h0 : 0 ≤ (t - f) / s := Int.ediv_nonneg (by omega) (by omega)
  unfold arcN
  omega
def arcV (cx cy r f t s : Int) : List (Int × Int) := if okArc cx cy r f t s then arcL cx cy r f s (arcN f t s) else []
theorem arcV_in {cx cy r f t s : Int} (h : okArc cx cy r f t s) : arcV cx cy r f t s = arcL cx cy r f s (arcN f t s) := by unfold arcV; rw [if_pos h]
theorem arcV_out {cx cy r f t s : Int} (h : ¬ okArc cx cy r f t s) : arcV cx cy r f t s = [] := by unfold arcV; rw [if_neg h]
theorem arcV_len (cx cy r f t s : Int) : (arcV cx cy r f t s).length ≤ 721 := by
  by_cases h : okArc cx cy r f t s
  · rw [arcV_in h, arcL_len]; exact arcN_le h.2.2.2.2.1 h.2.2.2.1.1 h.2.2.1.1 h.2.2.2.1.2
  · rw [arcV_out h]; simp
end Go.Proofs.YtlajpeoadgfobaaDoor
