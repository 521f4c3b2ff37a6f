/- Plain facts on points with whole coordinates: which are valid, orientation, squared distance, the middle. -/
import Derived.Test.YtkogoflcacameaaNum
namespace Go.Proofs.Ytkogoflcacameaa
set_option maxRecDepth 100000

/-- A valid point. -/
def okP (x y : Int) : Prop := -10000 ≤ x ∧ x ≤ 10000 ∧ -10000 ≤ y ∧ y ≤ 10000
instance (x y : Int) : Decidable (okP x y) := by unfold okP; infer_instance
/-- Whether a coordinate is valid. -/
def okC (x : Int) : Prop := -10000 ≤ x ∧ x ≤ 10000
instance (x : Int) : Decidable (okC x) := by unfold okC; infer_instance

theorem mul_bd {x y A B : Int} (h1 : -A ≤ x) (h2 : x ≤ A) (h3 : -B ≤ y) (h4 : y ≤ B) : -(A * B) ≤ x * y ∧ x * y ≤ A * B := by
  have hA : 0 ≤ A := by omega
  have hB : 0 ≤ B := by omega
  have key : ∀ u v : Int, 0 ≤ u → u ≤ A → 0 ≤ v → v ≤ B → 0 ≤ u * v ∧ u * v ≤ A * B := fun u v a b c d => ⟨Int.mul_nonneg a c, Int.mul_le_mul b d c hA⟩
  rcases Int.le_total 0 x with hx | hx <;> rcases Int.le_total 0 y with hy | hy
  · have := key x y hx h2 hy h4; omega
  · have := key x (-y) hx h2 (by omega) (by omega); rw [Int.mul_neg] at this; omega
  · have := key (-x) y (by omega) (by omega) hy h4; rw [Int.neg_mul] at this; omega
  · have := key (-x) (-y) (by omega) (by omega) (by omega) (by omega); rw [Int.neg_mul_neg] at this; omega
theorem mul_bd8 {x y : Int} (h1 : -20000 ≤ x) (h2 : x ≤ 20000) (h3 : -20000 ≤ y) (h4 : y ≤ 20000) : -400000000 ≤ x * y ∧ x * y ≤ 400000000 := mul_bd (A := 20000) (B := 20000) h1 h2 h3 h4
theorem sq_nn (x : Int) : 0 ≤ x * x := by
  rcases Int.le_total 0 x with h | h
  · exact Int.mul_nonneg h h
  · rw [← Int.neg_mul_neg]; exact Int.mul_nonneg (by omega) (by omega)
theorem sq_zero {x : Int} (h : x * x = 0) : x = 0 := by
  rcases Int.mul_eq_zero.1 h with h | h <;> exact h

/-- The quotient rounded down. -/
def flo (n d : Int) : Int := n / d
theorem flo_neg (n d : Int) (hd : 0 < d) (h : n.tmod d < 0) : n.tdiv d - 1 = flo n d := by
  unfold flo
  have e := Int.mul_tdiv_add_tmod n d
  have b := Int.lt_tmod_of_pos n hd
  have : n / d = n.tdiv d - 1 := by
    rw [Int.ediv_eq_iff_of_pos hd]
    constructor
    · rw [Int.sub_mul, Int.one_mul, Int.mul_comm]; omega
    · rw [Int.sub_mul, Int.one_mul, Int.mul_comm]; omega
  omega
theorem flo_pos (n d : Int) (hd : 0 < d) (h : 0 ≤ n.tmod d) : n.tdiv d = flo n d := by
  unfold flo
  have e := Int.mul_tdiv_add_tmod n d
  have b := Int.tmod_lt_of_pos n hd
  have : n / d = n.tdiv d := by
    rw [Int.ediv_eq_iff_of_pos hd]
    constructor
    · rw [Int.mul_comm]; omega
    · rw [Int.mul_comm]; omega
  omega

theorem flo_bd (n d : Int) (hd : 0 < d) (h1 : -1000000000 ≤ n) (h2 : n ≤ 1000000000) : -1000000000 ≤ flo n d ∧ flo n d ≤ 1000000000 := by
  unfold flo
  constructor
  · rw [Int.le_ediv_iff_mul_le hd]
    have := Int.mul_le_mul_of_nonneg_left (show 1 ≤ d by omega) (show (0 : Int) ≤ 1000000000 by omega)
    omega
  · apply Int.ediv_le_of_le_mul hd
    have := Int.mul_le_mul_of_nonneg_left (show 1 ≤ d by omega) (show (0 : Int) ≤ 1000000000 by omega)
    omega
theorem tdiv_bd (n d : Int) (hd : 0 < d) (h1 : -1000000000 ≤ n) (h2 : n ≤ 1000000000) : -1000000000 ≤ n.tdiv d ∧ n.tdiv d ≤ 1000000001 := by
  have b := flo_bd n d hd h1 h2
  rcases Int.lt_or_le (n.tmod d) 0 with h | h
  · have e := flo_neg n d hd h; omega
  · have e := flo_pos n d hd h; omega

/-- The sign. -/
def sgn (n : Int) : Int := if 0 < n then 1 else if n < 0 then -1 else 0
theorem sgn_bd (n : Int) : -1 ≤ sgn n ∧ sgn n ≤ 1 := by unfold sgn; split <;> (try split) <;> omega
theorem sgn_pos (n : Int) (h : 0 < n) : sgn n = 1 := by unfold sgn; rw [if_pos h]
theorem sgn_neg (n : Int) (h : n < 0) : sgn n = -1 := by unfold sgn; rw [if_neg (by omega), if_pos h]
theorem sgn_zero (n : Int) (h : n = 0) : sgn n = 0 := by unfold sgn; rw [if_neg (by omega), if_neg (by omega)]
theorem sgn_min (n : Int) : sgn (-n) = - sgn n := by unfold sgn; split <;> split <;> (try split) <;> (try split) <;> omega

/-- The cross product of b - a and c - a. -/
def crossV (ax ay bx b_y cx cy : Int) : Int := (bx - ax) * (cy - ay) - (b_y - ay) * (cx - ax)
theorem cross_cyc (ax ay bx b_y cx cy : Int) : crossV bx b_y cx cy ax ay = crossV ax ay bx b_y cx cy := by
  unfold crossV; grind
theorem cross_swap (ax ay bx b_y cx cy : Int) : crossV bx b_y ax ay cx cy = - crossV ax ay bx b_y cx cy := by
  unfold crossV; grind
theorem cross_same (ax ay cx cy : Int) : crossV ax ay ax ay cx cy = 0 := by
  unfold crossV; grind
/-- What Orientation returns. -/
def oriV (ax ay bx b_y cx cy : Int) : Int := if okP ax ay ∧ okP bx b_y ∧ okP cx cy then sgn (crossV ax ay bx b_y cx cy) else 0
theorem oriV_in {ax ay bx b_y cx cy : Int} (h : okP ax ay ∧ okP bx b_y ∧ okP cx cy) : oriV ax ay bx b_y cx cy = sgn (crossV ax ay bx b_y cx cy) := by unfold oriV; rw [if_pos h]
theorem oriV_out {ax ay bx b_y cx cy : Int} (h : ¬ (okP ax ay ∧ okP bx b_y ∧ okP cx cy)) : oriV ax ay bx b_y cx cy = 0 := by unfold oriV; rw [if_neg h]
theorem oriV_bd (ax ay bx b_y cx cy : Int) : -1 ≤ oriV ax ay bx b_y cx cy ∧ oriV ax ay bx b_y cx cy ≤ 1 := by
  unfold oriV; split
  · exact sgn_bd _
  · omega
theorem oriV_cyc (ax ay bx b_y cx cy : Int) : oriV bx b_y cx cy ax ay = oriV ax ay bx b_y cx cy := by
  unfold oriV; rw [cross_cyc]
  by_cases h : okP ax ay ∧ okP bx b_y ∧ okP cx cy
  · rw [if_pos h, if_pos ⟨h.2.1, h.2.2, h.1⟩]
  · rw [if_neg h, if_neg fun k => h ⟨k.2.2, k.1, k.2.1⟩]
theorem oriV_swap (ax ay bx b_y cx cy : Int) : oriV bx b_y ax ay cx cy = - oriV ax ay bx b_y cx cy := by
  unfold oriV; rw [cross_swap, sgn_min]
  by_cases h : okP ax ay ∧ okP bx b_y ∧ okP cx cy
  · rw [if_pos h, if_pos ⟨h.2.1, h.1, h.2.2⟩]
  · rw [if_neg h, if_neg fun k => h ⟨k.2.1, k.1, k.2.2⟩]; rfl
theorem oriV_same (ax ay cx cy : Int) : oriV ax ay ax ay cx cy = 0 := by
  unfold oriV; rw [cross_same]
  split
  · rfl
  · rfl

/-- What SquaredDistance returns. -/
def sqV (ax ay bx b_y : Int) : Int := if okP ax ay ∧ okP bx b_y then (bx - ax) * (bx - ax) + (b_y - ay) * (b_y - ay) else -1
theorem sqV_in {ax ay bx b_y : Int} (h : okP ax ay ∧ okP bx b_y) : sqV ax ay bx b_y = (bx - ax) * (bx - ax) + (b_y - ay) * (b_y - ay) := by unfold sqV; rw [if_pos h]
theorem sqV_in' {ax ay bx b_y : Int} (h : okP ax ay ∧ okP bx b_y) : sqV ax ay bx b_y = (ax - bx) * (ax - bx) + (ay - b_y) * (ay - b_y) := by rw [sqV_in h]; grind
theorem sqV_out {ax ay bx b_y : Int} (h : ¬ (okP ax ay ∧ okP bx b_y)) : sqV ax ay bx b_y = -1 := by unfold sqV; rw [if_neg h]
theorem sqV_comm (ax ay bx b_y : Int) : sqV bx b_y ax ay = sqV ax ay bx b_y := by
  unfold sqV
  by_cases h : okP ax ay ∧ okP bx b_y
  · rw [if_pos h, if_pos ⟨h.2, h.1⟩]; grind
  · rw [if_neg h, if_neg fun k => h ⟨k.2, k.1⟩]
theorem sqV_lo (ax ay bx b_y : Int) : -1 ≤ sqV ax ay bx b_y := by
  unfold sqV; split
  · have := sq_nn (bx - ax); have := sq_nn (b_y - ay); omega
  · omega
theorem sqV_hi (ax ay bx b_y : Int) : sqV ax ay bx b_y ≤ 800000000 := by
  unfold sqV; split
  · rename_i h
    obtain ⟨⟨h1, h2, h3, h4⟩, ⟨h5, h6, h7, h8⟩⟩ := h
    have := mul_bd8 (x := bx - ax) (y := bx - ax) (by omega) (by omega) (by omega) (by omega)
    have := mul_bd8 (x := b_y - ay) (y := b_y - ay) (by omega) (by omega) (by omega) (by omega)
    omega
  · omega
theorem sqV_neg {ax ay bx b_y : Int} (h : sqV ax ay bx b_y < 0) : ¬ (okP ax ay ∧ okP bx b_y) := fun k => by
  rw [sqV_in k] at h
  have := sq_nn (bx - ax); have := sq_nn (b_y - ay); omega
theorem sqV_zero {ax ay bx b_y : Int} (h : okP ax ay ∧ okP bx b_y) : sqV ax ay bx b_y = 0 ↔ ax = bx ∧ ay = b_y := by
  rw [sqV_in h]
  have h1 := sq_nn (bx - ax)
  have h2 := sq_nn (b_y - ay)
  constructor
  · intro e
    have e1 := sq_zero (show (bx - ax) * (bx - ax) = 0 by omega)
    have e2 := sq_zero (show (b_y - ay) * (b_y - ay) = 0 by omega)
    omega
  · rintro ⟨rfl, rfl⟩
    simp
theorem sqV_twice {ax ay bx b_y : Int} (h : okP ax ay ∧ okP bx b_y) (hc : okP (2 * bx - ax) (2 * b_y - ay)) : sqV ax ay (2 * bx - ax) (2 * b_y - ay) = 4 * sqV ax ay bx b_y := by
  rw [sqV_in h, sqV_in ⟨h.1, hc⟩]; grind

/-- What Midpoint returns. -/
def midX (ax ay bx b_y : Int) : Int := if okP ax ay ∧ okP bx b_y then flo (ax + bx) 2 else 0
def midY (ax ay bx b_y : Int) : Int := if okP ax ay ∧ okP bx b_y then flo (ay + b_y) 2 else 0
theorem midX_in {ax ay bx b_y : Int} (h : okP ax ay ∧ okP bx b_y) : midX ax ay bx b_y = flo (ax + bx) 2 := by unfold midX; rw [if_pos h]
theorem midY_in {ax ay bx b_y : Int} (h : okP ax ay ∧ okP bx b_y) : midY ax ay bx b_y = flo (ay + b_y) 2 := by unfold midY; rw [if_pos h]
theorem midX_out {ax ay bx b_y : Int} (h : ¬ (okP ax ay ∧ okP bx b_y)) : midX ax ay bx b_y = 0 := by unfold midX; rw [if_neg h]
theorem midY_out {ax ay bx b_y : Int} (h : ¬ (okP ax ay ∧ okP bx b_y)) : midY ax ay bx b_y = 0 := by unfold midY; rw [if_neg h]
theorem midX_comm (ax ay bx b_y : Int) : midX bx b_y ax ay = midX ax ay bx b_y := by
  unfold midX
  by_cases h : okP ax ay ∧ okP bx b_y
  · rw [if_pos h, if_pos ⟨h.2, h.1⟩, Int.add_comm]
  · rw [if_neg h, if_neg fun k => h ⟨k.2, k.1⟩]
theorem midY_comm (ax ay bx b_y : Int) : midY bx b_y ax ay = midY ax ay bx b_y := by
  unfold midY
  by_cases h : okP ax ay ∧ okP bx b_y
  · rw [if_pos h, if_pos ⟨h.2, h.1⟩, Int.add_comm]
  · rw [if_neg h, if_neg fun k => h ⟨k.2, k.1⟩]
theorem flo2 (n : Int) : 2 * flo n 2 ≤ n ∧ n ≤ 2 * flo n 2 + 1 := by unfold flo; omega
theorem flo2_twice (n : Int) : flo (n + n) 2 = n := by unfold flo; omega
end Go.Proofs.Ytkogoflcacameaa
