/- Plain facts on the sines of whole degrees, times 4096, rounded. -/
import Derived.Test.YtolkihibjabmhaaDoorNum
namespace Go.Proofs.YtolkihibjabmhaaDoor
set_option maxRecDepth 100000
/-- The sines of 0 to 90 degrees. -/
def tabZ : List Int := [0, 71, 143, 214, 286, 357, 428, 499, 570, 641, 711, 782, 852, 921, 991, 1060, 1129, 1198, 1266, 1334, 1401, 1468, 1534, 1600, 1666, 1731, 1796, 1860, 1923, 1986, 2048, 2110, 2171, 2231, 2290, 2349, 2408, 2465, 2522, 2578, 2633, 2687, 2741, 2793, 2845, 2896, 2946, 2996, 3044, 3091, 3138, 3183, 3228, 3271, 3314, 3355, 3396, 3435, 3474, 3511, 3547, 3582, 3617, 3650, 3681, 3712, 3742, 3770, 3798, 3824, 3849, 3873, 3896, 3917, 3937, 3956, 3974, 3991, 4006, 4021, 4034, 4046, 4056, 4065, 4074, 4080, 4086, 4090, 4094, 4095, 4096]
def sinT (n : Nat) : Int := tabZ.getD n 0
theorem tabZ_bd : ∀ z ∈ tabZ, 0 ≤ z ∧ z ≤ 4096 := by decide
theorem sinT_bd (n : Nat) : 0 ≤ sinT n ∧ sinT n ≤ 4096 := by
  unfold sinT
  rw [List.getD_eq_getElem?_getD]
  by_cases h : n < tabZ.length
  · rw [List.getElem?_eq_getElem h]; exact tabZ_bd _ (List.getElem_mem h)
  · rw [List.getElem?_eq_none (by omega)]; exact ⟨by decide, by decide⟩
/-- The sine of d degrees, times 4096, rounded. -/
def sinV (d : Int) : Int := if deg d ≤ 90 then sinT (deg d).toNat else if deg d ≤ 180 then sinT (180 - deg d).toNat else if deg d ≤ 270 then - sinT (deg d - 180).toNat else - sinT (360 - deg d).toNat
theorem sinV_1 (d : Int) (h : deg d ≤ 90) : sinT (deg d).toNat = sinV d := by unfold sinV; rw [if_pos h]
theorem sinV_2 (d : Int) (h0 : ¬ deg d ≤ 90) (h : deg d ≤ 180) : sinT (180 - deg d).toNat = sinV d := by unfold sinV; rw [if_neg h0, if_pos h]
theorem sinV_3 (d : Int) (h0 : ¬ deg d ≤ 90) (h1 : ¬ deg d ≤ 180) (h : deg d ≤ 270) : - sinT (deg d - 180).toNat = sinV d := by unfold sinV; rw [if_neg h0, if_neg h1, if_pos h]
theorem sinV_4 (d : Int) (h0 : ¬ deg d ≤ 90) (h1 : ¬ deg d ≤ 180) (h : ¬ deg d ≤ 270) : - sinT (360 - deg d).toNat = sinV d := by unfold sinV; rw [if_neg h0, if_neg h1, if_neg h]
theorem sinV_bd (d : Int) : -4096 ≤ sinV d ∧ sinV d ≤ 4096 := by
  unfold sinV
  have h1 := sinT_bd (deg d).toNat
  have h2 := sinT_bd (180 - deg d).toNat
  have h3 := sinT_bd (deg d - 180).toNat
  have h4 := sinT_bd (360 - deg d).toNat
  split
  · omega
  · split
    · omega
    · split <;> omega
theorem sinV_deg (d : Int) : sinV (deg d) = sinV d := by
  unfold sinV; rw [show deg (deg d) = deg d by unfold deg; omega]
theorem all360 : ∀ n : Fin 360, sinV ((n.val : Int) + 180) = - sinV (n.val : Int) ∧ sinV (180 - (n.val : Int)) = sinV (n.val : Int) ∧
    sinV (deg (-(n.val : Int)) + 90) = sinV ((n.val : Int) + 90) ∧
    -8192 ≤ sinV (n.val : Int) * sinV (n.val : Int) + sinV ((n.val : Int) + 90) * sinV ((n.val : Int) + 90) - 16777216 ∧
    sinV (n.val : Int) * sinV (n.val : Int) + sinV ((n.val : Int) + 90) * sinV ((n.val : Int) + 90) - 16777216 ≤ 8192 := by decide +kernel
theorem at360 (n : Int) (h0 : 0 ≤ n) (h1 : n < 360) : sinV (n + 180) = - sinV n ∧ sinV (180 - n) = sinV n ∧ sinV (deg (-n) + 90) = sinV (n + 90) ∧
    -8192 ≤ sinV n * sinV n + sinV (n + 90) * sinV (n + 90) - 16777216 ∧ sinV n * sinV n + sinV (n + 90) * sinV (n + 90) - 16777216 ≤ 8192 := by
  have := all360 ⟨n.toNat, by omega⟩
  simp only [show ((n.toNat : Nat) : Int) = n by omega] at this
  exact this
theorem sin90 : sinV 90 = 4096 := by decide +kernel
theorem sq4096 (s : Int) (h0 : -4096 ≤ s) (h1 : s ≤ 4096) : 0 ≤ s * s ∧ s * s ≤ 16777216 := by
  rcases Int.le_total 0 s with h | h
  · exact ⟨Int.mul_nonneg h h, by have := Int.mul_le_mul h1 h1 h (by omega); omega⟩
  · have e : s * s = (-s) * (-s) := by rw [Int.neg_mul_neg]
    rw [e]
    exact ⟨Int.mul_nonneg (by omega) (by omega), by have := Int.mul_le_mul (show -s ≤ 4096 by omega) (show -s ≤ 4096 by omega) (by omega) (by omega); omega⟩
/-- The absolute value. -/
def absV (n : Int) : Int := max n (-n)
theorem absV_le (n k : Int) (h0 : -k ≤ n) (h1 : n ≤ k) : absV n ≤ k := by unfold absV; omega
end Go.Proofs.YtolkihibjabmhaaDoor
