/- Plain facts on lines between two points. -/
import Derived.Test.YtkmopgdnaohcdaaNum2
namespace Go.Proofs.Ytkmopgdnaohcdaa
set_option maxRecDepth 100000
/-- A coordinate of the k-th of n + 1 points on the way from a to b. -/
def lnC (a b n k : Int) : Int := a + flo (k * (b - a)) n
theorem lnC_mul {a b n k : Int} (hk0 : 0 ≤ k) (hk : k ≤ n) (hn : n ≤ 400) (a1 : -10000 ≤ a) (a2 : a ≤ 10000) (b1 : -10000 ≤ b) (b2 : b ≤ 10000) :
    -8000000 ≤ k * (b - a) ∧ k * (b - a) ≤ 8000000 :=
  mul_bd (A := 400) (B := 20000) (by omega) (by omega) (by omega) (by omega)
theorem flo_le_of {n d q : Int} (hd : 0 < d) (h : n ≤ q * d) : flo n d ≤ q := Int.ediv_le_of_le_mul hd h
theorem flo_ge_of {n d q : Int} (hd : 0 < d) (h : q * d ≤ n) : q ≤ flo n d := Int.le_ediv_of_mul_le hd h
/-- A point of a line lies in the box of its ends. -/
theorem lnC_up {a b n k : Int} (hn : 1 ≤ n) (h0 : 0 ≤ k) (h1 : k ≤ n) (h : a ≤ b) : a ≤ lnC a b n k ∧ lnC a b n k ≤ b := by
  unfold lnC
  have p : 0 ≤ k * (b - a) := Int.mul_nonneg h0 (by omega)
  have q : k * (b - a) ≤ n * (b - a) := Int.mul_le_mul_of_nonneg_right h1 (by omega)
  have g := flo_ge_of (n := k * (b - a)) (d := n) (q := 0) (by omega) (by omega)
  have l := flo_le_of (n := k * (b - a)) (d := n) (q := b - a) (by omega) (by rw [Int.mul_comm (b - a) n]; exact q)
  omega
theorem lnC_down {a b n k : Int} (hn : 1 ≤ n) (h0 : 0 ≤ k) (h1 : k ≤ n) (h : b ≤ a) : b ≤ lnC a b n k ∧ lnC a b n k ≤ a := by
  unfold lnC
  have e : k * (b - a) = -(k * (a - b)) := by grind
  have p : 0 ≤ k * (a - b) := Int.mul_nonneg h0 (by omega)
  have q : k * (a - b) ≤ n * (a - b) := Int.mul_le_mul_of_nonneg_right h1 (by omega)
  have e2 : (b - a) * n = -(n * (a - b)) := by grind
  have g := flo_ge_of (n := k * (b - a)) (d := n) (q := b - a) (by omega) (by rw [e2, e]; omega)
  have l := flo_le_of (n := k * (b - a)) (d := n) (q := 0) (by omega) (by rw [e]; omega)
  omega
theorem lnC_box {a b n k : Int} (hn : 1 ≤ n) (h0 : 0 ≤ k) (h1 : k ≤ n) : min a b ≤ lnC a b n k ∧ lnC a b n k ≤ max a b := by
  rcases Int.le_total a b with h | h
  · have := lnC_up hn h0 h1 h; omega
  · have := lnC_down hn h0 h1 h; omega
theorem lnC_first (a b n : Int) : lnC a b n 0 = a := by unfold lnC flo; simp
theorem lnC_last (a b n : Int) (hn : 1 ≤ n) : lnC a b n n = b := by
  unfold lnC flo
  rw [Int.mul_ediv_cancel_left _ (by omega)]
  omega
/-- The points of a line with n parts. -/
def lineL (ax ay bx b_y : Int) (n : Nat) : List (Int × Int) := (List.range (n + 1)).map fun (k : Nat) => (lnC ax bx n k, lnC ay b_y n k)
theorem lineL_len (ax ay bx b_y : Int) (n : Nat) : (lineL ax ay bx b_y n).length = n + 1 := by simp [lineL]
theorem lineL_at (ax ay bx b_y : Int) (n k : Nat) (h : k ≤ n) : (lineL ax ay bx b_y n).getD k (0, 0) = (lnC ax bx n k, lnC ay b_y n k) := by
  unfold lineL; rw [List.getD_eq_getElem?_getD, List.getElem?_map, List.getElem?_range (by omega)]; rfl
/-- The arguments of LinePoints. -/
def okLine (ax ay bx b_y n : Int) : Prop := okP ax ay ∧ okP bx b_y ∧ 1 ≤ n ∧ n ≤ 400
instance (ax ay bx b_y n : Int) : Decidable (okLine ax ay bx b_y n) := by unfold okLine; infer_instance
def lineV (ax ay bx b_y n : Int) : List (Int × Int) := if okLine ax ay bx b_y n then lineL ax ay bx b_y n.toNat else []
theorem lineV_in {ax ay bx b_y n : Int} (h : okLine ax ay bx b_y n) : lineV ax ay bx b_y n = lineL ax ay bx b_y n.toNat := by unfold lineV; rw [if_pos h]
theorem lineV_out {ax ay bx b_y n : Int} (h : ¬ okLine ax ay bx b_y n) : lineV ax ay bx b_y n = [] := by unfold lineV; rw [if_neg h]
theorem lineV_len (ax ay bx b_y n : Int) : (lineV ax ay bx b_y n).length ≤ 401 := by
  by_cases h : okLine ax ay bx b_y n
  · rw [lineV_in h, lineL_len]; have := h.2.2.2; omega
  · rw [lineV_out h]; simp
end Go.Proofs.Ytkmopgdnaohcdaa
