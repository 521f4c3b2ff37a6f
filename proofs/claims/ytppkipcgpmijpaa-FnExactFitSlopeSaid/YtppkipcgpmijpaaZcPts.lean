/- Several of my texts in one: Num, Base, Num2, Pts, Pts2, Pts3. -/
import Init
import Derived.Test.YtppkipcgpmijpaaRows
import Derived.WalkKit
import Derived.ProofKit
import Derived.Outline
import Derived.IntWalk
import Derived.Lib.Hide
import Derived.Below
import Derived.Laws.StructEq
import Derived.Deep.RegionWith
import Derived.Deep.DrawnRows
import Derived.StillTailTactics
namespace Go.Proofs.Ytppkipcgpmijpaa
set_option maxRecDepth 100000

/-- The number of 0..359 that differs from d by a multiple of 360. -/
def deg (d : Int) : Int := d % 360
theorem deg_lo (d : Int) : 0 ≤ deg d := by unfold deg; omega
theorem deg_hi (d : Int) : deg d < 360 := by unfold deg; omega
theorem deg_le (d : Int) : deg d ≤ 359 := by unfold deg; omega
theorem deg_same (d : Int) (h0 : 0 ≤ d) (h1 : d < 360) : deg d = d := by unfold deg; omega
theorem deg_less (d : Int) (h0 : 0 ≤ d) (h1 : d < 360) : deg (d - 360) = d := by unfold deg; omega
theorem tmod_360 (d : Int) (h : d.tmod 360 < 0) : d.tmod 360 + 360 = deg d := by
  unfold deg; rw [Int.tmod_eq_emod] at *; split at h <;> split <;> omega
theorem tmod_360' (d : Int) (h : 0 ≤ d.tmod 360) : d.tmod 360 = deg d := by
  unfold deg; rw [Int.tmod_eq_emod] at *; split at h <;> split <;> omega

/-- The angle between two directions. -/
def ang (a b : Int) : Int := if deg (deg a - deg b) ≤ 180 then deg (deg a - deg b) else 360 - deg (deg a - deg b)
theorem ang_lo (a b : Int) : 0 ≤ ang a b := by unfold ang deg; split <;> omega
theorem ang_hi (a b : Int) : ang a b ≤ 180 := by unfold ang deg; split <;> omega
theorem ang_comm (a b : Int) : ang a b = ang b a := by unfold ang deg; split <;> split <;> omega
theorem ang_self (a : Int) : ang a a = 0 := by unfold ang deg; split <;> omega
theorem ang_spec (a b : Int) : min (deg (deg a - deg b)) (360 - deg (deg a - deg b)) = ang a b := by unfold ang deg; split <;> omega
theorem ang_impl (a b : Int) : min (deg (deg b - deg a)) (deg (deg a - deg b)) = ang a b := by unfold ang deg; split <;> omega
theorem ang_back (a b : Int) : ang a (deg b + 180) = 180 - ang a b := by unfold ang deg; split <;> split <;> omega
theorem ang_tri (a b c : Int) : ang a b ≤ ang a c + ang c b := by
  unfold ang deg; split <;> split <;> split <;> omega
theorem ang_deg (a b : Int) : ang (deg a) b = ang a b := by unfold ang deg; split <;> split <;> omega

/-- A turn from a towards b by at most s. -/
def turn (a b s : Int) : Int := if ang a b ≤ s then deg b else if deg (deg b - deg a) ≤ 180 then deg (deg a + s) else deg (deg a - s)
theorem turn_lo (a b s : Int) : 0 ≤ turn a b s := by unfold turn; split <;> (try split) <;> apply deg_lo
theorem turn_hi (a b s : Int) : turn a b s < 360 := by unfold turn; split <;> (try split) <;> apply deg_hi
theorem turn_far (a b s : Int) (h0 : 0 ≤ s) (h1 : s ≤ 180) : ang (turn a b s) b = max 0 (ang a b - s) := by
  unfold turn ang deg; repeat' split
  all_goals omega
theorem turn_by (a b s : Int) (h0 : 0 ≤ s) (h1 : s ≤ 180) : ang a (turn a b s) = min (ang a b) s := by
  unfold turn ang deg; repeat' split
  all_goals omega
theorem turn_180 (a b : Int) : turn a b 180 = deg b := by unfold turn; rw [if_pos (ang_hi a b)]
theorem turn_deg (a b s : Int) : turn (deg a) b s = turn a b s := by
  unfold turn; rw [ang_deg]; simp only [show deg (deg a) = deg a from by unfold deg; omega]
theorem ang_zero (a b : Int) (h : ang a b = 0) : deg a = deg b := by unfold ang deg at *; split at h <;> omega

/-- The largest number whose square is at most n. -/
def rootN : Nat → Nat
  | 0 => 0
  | n + 1 => if (rootN n + 1) * (rootN n + 1) ≤ n + 1 then rootN n + 1 else rootN n
theorem rootN_is (n : Nat) : rootN n * rootN n ≤ n ∧ n < (rootN n + 1) * (rootN n + 1) := by
  induction n with
  | zero => simp [rootN]
  | succ n ih =>
    unfold rootN
    split
    · rename_i h
      refine ⟨h, ?_⟩
      have e : (rootN n + 1 + 1) * (rootN n + 1 + 1) = (rootN n + 1) * (rootN n + 1) + 2 * (rootN n + 1) + 1 := by
        rw [Nat.add_mul, Nat.mul_add, Nat.one_mul, Nat.mul_one]; omega
      rw [e]; omega
    · rename_i h
      exact ⟨by omega, by omega⟩
theorem sq_mono {a b : Nat} (h : a ≤ b) : a * a ≤ b * b := Nat.mul_le_mul h h
def root (n : Int) : Int := (rootN n.toNat : Int)
theorem root_lo (n : Int) : 0 ≤ root n := by unfold root; omega
theorem root_is (n : Int) (h : 0 ≤ n) : root n * root n ≤ n ∧ n < (root n + 1) * (root n + 1) := by
  have := rootN_is n.toNat
  unfold root
  constructor
  · have h1 : ((rootN n.toNat * rootN n.toNat : Nat) : Int) ≤ (n.toNat : Int) := by exact_mod_cast this.1
    rw [Int.natCast_mul] at h1; omega
  · have h1 : (n.toNat : Int) < (((rootN n.toNat + 1) * (rootN n.toNat + 1) : Nat) : Int) := by exact_mod_cast this.2
    rw [Int.natCast_mul, Int.natCast_add] at h1
    have e : ((1 : Nat) : Int) = 1 := rfl
    rw [e] at h1; omega
theorem sq_lt {a b : Int} (ha : 0 ≤ a) (h : a < b) : (a + 1) * (a + 1) ≤ b * b := Int.mul_le_mul (by omega) (by omega) (by omega) (by omega)
theorem root_of (n k : Int) (hn : 0 ≤ n) (hk : 0 ≤ k) (h1 : k * k ≤ n) (h2 : n < (k + 1) * (k + 1)) : root n = k := by
  have hr := root_is n hn
  have h0 := root_lo n
  rcases Int.lt_trichotomy (root n) k with h | h | h
  · have := sq_lt h0 h; omega
  · exact h
  · have := sq_lt hk h; omega
theorem root_le (n k : Int) (hn : 0 ≤ n) (hk : 0 ≤ k) (h2 : n < (k + 1) * (k + 1)) : root n ≤ k := by
  have hr := root_is n hn
  have h0 := root_lo n
  rcases Int.lt_or_le k (root n) with h | h
  · have := sq_lt hk h; omega
  · exact h
end Go.Proofs.Ytppkipcgpmijpaa
namespace Go.Proofs.Ytppkipcgpmijpaa
set_option maxRecDepth 100000
open Go.RowKit

theorem ret_int {k : IntKind} {a b : Int} (h : a = b) : Ending.returned (.int k a) = .returned (.int k b) := by rw [h]
theorem ret_bool {a b : Bool} (h : a = b) : Ending.returned (.bool a) = .returned (.bool b) := by rw [h]

theorem reduced (d : Int) (w : World) (_h1 : -9223372036854775808 ≤ d) (_h2 : d ≤ 9223372036854775807) :
    Calls Try.prog 54 #[.int .i64 d] w fun e w' => e = .returned (.int .i64 (deg d)) ∧ w = w' := by
  have hd := deg_lo d
  have hd' := deg_hi d
  go_enter Try.func54, Try.ntmps54
  go_wp2
  · go_ret
    have h : d.tmod 360 < 0 := by assumption
    have e := tmod_360 d h
    exact ⟨ret_int (by rw [e, IntWalk.wrap64_in _ (by omega)]), rfl⟩
  · go_ret
    have h : 0 ≤ d.tmod 360 := by assumption
    exact ⟨ret_int (tmod_360' d h), rfl⟩
theorem implDegrees (d : Int) (w : World) (h1 : -9223372036854775808 ≤ d) (h2 : d ≤ 9223372036854775807) :
    Calls Try.prog 42 #[.int .i64 d] w fun e w' => e = .returned (.int .i64 (deg d)) ∧ w = w' := by
  go_enter Try.func42, Try.ntmps42
  go_wp2_with fail
  refine (reduced d _ h1 h2).mono ?_
  rintro e w' ⟨rfl, rfl⟩
  go_wp2
  go_ret
  exact ⟨rfl, rfl⟩
/-- What TurnToward returns: -1 where the step is out of range. -/
def turnV (a b s : Int) : Int := if 0 ≤ s ∧ s ≤ 180 then turn a b s else -1
theorem turnV_in (a b s : Int) (h0 : 0 ≤ s) (h1 : s ≤ 180) : turnV a b s = turn a b s := by unfold turnV; rw [if_pos ⟨h0, h1⟩]
theorem turnV_out (a b s : Int) (h : s < 0 ∨ 180 < s) : turnV a b s = -1 := by unfold turnV; rw [if_neg (by omega)]
theorem l1In_yes (n lo hi : Int) (w : World) (h1 : lo ≤ n) (h2 : n ≤ hi) :
    Calls Try.prog 38 #[.int .i64 n, .int .i64 lo, .int .i64 hi] w fun e w' => e = .returned (.bool true) ∧ w = w' := by
  go_enter Try.func38, Try.ntmps38
  go_wp2
  go_ret
  exact ⟨rfl, rfl⟩
theorem l1In_no (n lo hi : Int) (w : World) (h : n < lo ∨ hi < n) :
    Calls Try.prog 38 #[.int .i64 n, .int .i64 lo, .int .i64 hi] w fun e w' => e = .returned (.bool false) ∧ w = w' := by
  by_cases h1 : n < lo
  · clear h
    go_enter Try.func38, Try.ntmps38
    go_wp2
    go_ret
    exact ⟨rfl, rfl⟩
  · have h2 : decide (n ≤ hi) = false := decide_eq_false (by omega)
    clear h
    go_enter Try.func38, Try.ntmps38
    go_wp2
    go_ret
    exact ⟨rfl, rfl⟩
/-- What SquareRoot returns: 0 where the number is out of range. -/
def rootV (n : Int) : Int := if 0 ≤ n ∧ n ≤ 1000000000000 then root n else 0
theorem rootV_in (n : Int) (h0 : 0 ≤ n) (h1 : n ≤ 1000000000000) : rootV n = root n := by unfold rootV; rw [if_pos ⟨h0, h1⟩]
theorem rootV_out (n : Int) (h : n < 0 ∨ 1000000000000 < n) : rootV n = 0 := by unfold rootV; rw [if_neg (by omega)]
theorem rootV_zero : rootV 0 = 0 := by rw [rootV_in 0 (by omega) (by omega)]; exact root_of 0 0 (by omega) (by omega) (by omega) (by omega)
theorem rootV_of (n k : Int) (hn : 0 ≤ n) (hn' : n ≤ 1000000000000) (hk : 0 ≤ k) (h1 : k * k ≤ n) (h2 : n < (k + 1) * (k + 1)) : rootV n = k := by
  rw [rootV_in n hn hn']; exact root_of n k hn hk h1 h2
theorem alive (w : World) : Calls Try.prog 19 #[] w fun e w' => e = .returned (.bool true) ∧ w = w' := by
  have h : (deg (-1) == 359) = true := by decide
  go_enter Try.func19, Try.ntmps19
  go_wp2_with fail
  refine (implDegrees (-1) _ (by omega) (by omega)).mono ?_
  rintro e w' ⟨rfl, rfl⟩
  go_wp2
  go_ret
  exact ⟨rfl, rfl⟩
end Go.Proofs.Ytppkipcgpmijpaa
namespace Go.Proofs.Ytppkipcgpmijpaa
set_option maxRecDepth 100000

/-- A valid point. -/
def okP (x y : Int) : Prop := -10000 ≤ x ∧ x ≤ 10000 ∧ -10000 ≤ y ∧ y ≤ 10000
instance (x y : Int) : Decidable (okP x y) := by unfold okP; infer_instance
/-- Whether a coordinate is valid. -/
def okC (x : Int) : Prop := -10000 ≤ x ∧ x ≤ 10000
instance (x : Int) : Decidable (okC x) := by unfold okC; infer_instance

theorem mul_bd {x y A B : Int} (h1 : -A ≤ x) (h2 : x ≤ A) (h3 : -B ≤ y) (h4 : y ≤ B) : -(A * B) ≤ x * y ∧ x * y ≤ A * B := by
  have hA : 0 ≤ A := by omega
  have hB : 0 ≤ B := by omega
  have key : ∀ u v : Int, 0 ≤ u → u ≤ A → 0 ≤ v → v ≤ B → 0 ≤ u * v ∧ u * v ≤ A * B := fun u v a b c d => ⟨Int.mul_nonneg a c, Int.mul_le_mul b d c hA⟩
  rcases Int.le_total 0 x with hx | hx <;> rcases Int.le_total 0 y with hy | hy
  · have := key x y hx h2 hy h4; omega
  · have := key x (-y) hx h2 (by omega) (by omega); rw [Int.mul_neg] at this; omega
  · have := key (-x) y (by omega) (by omega) hy h4; rw [Int.neg_mul] at this; omega
  · have := key (-x) (-y) (by omega) (by omega) (by omega) (by omega); rw [Int.neg_mul_neg] at this; omega
theorem mul_bd8 {x y : Int} (h1 : -20000 ≤ x) (h2 : x ≤ 20000) (h3 : -20000 ≤ y) (h4 : y ≤ 20000) : -400000000 ≤ x * y ∧ x * y ≤ 400000000 := mul_bd (A := 20000) (B := 20000) h1 h2 h3 h4
theorem sq_nn (x : Int) : 0 ≤ x * x := by
  rcases Int.le_total 0 x with h | h
  · exact Int.mul_nonneg h h
  · rw [← Int.neg_mul_neg]; exact Int.mul_nonneg (by omega) (by omega)
theorem sq_zero {x : Int} (h : x * x = 0) : x = 0 := by
  rcases Int.mul_eq_zero.1 h with h | h <;> exact h

/-- The quotient rounded down. -/
def flo (n d : Int) : Int := n / d
theorem flo_neg (n d : Int) (hd : 0 < d) (h : n.tmod d < 0) : n.tdiv d - 1 = flo n d := by
  unfold flo
  have e := Int.mul_tdiv_add_tmod n d
  have b := Int.lt_tmod_of_pos n hd
  have : n / d = n.tdiv d - 1 := by
    rw [Int.ediv_eq_iff_of_pos hd]
    constructor
    · rw [Int.sub_mul, Int.one_mul, Int.mul_comm]; omega
    · rw [Int.sub_mul, Int.one_mul, Int.mul_comm]; omega
  omega
theorem flo_pos (n d : Int) (hd : 0 < d) (h : 0 ≤ n.tmod d) : n.tdiv d = flo n d := by
  unfold flo
  have e := Int.mul_tdiv_add_tmod n d
  have b := Int.tmod_lt_of_pos n hd
  have : n / d = n.tdiv d := by
    rw [Int.ediv_eq_iff_of_pos hd]
    constructor
    · rw [Int.mul_comm]; omega
    · rw [Int.mul_comm]; omega
  omega

theorem flo_bd (n d : Int) (hd : 0 < d) (h1 : -1000000000 ≤ n) (h2 : n ≤ 1000000000) : -1000000000 ≤ flo n d ∧ flo n d ≤ 1000000000 := by
  unfold flo
  constructor
  · rw [Int.le_ediv_iff_mul_le hd]
    have := Int.mul_le_mul_of_nonneg_left (show 1 ≤ d by omega) (show (0 : Int) ≤ 1000000000 by omega)
    omega
  · apply Int.ediv_le_of_le_mul hd
    have := Int.mul_le_mul_of_nonneg_left (show 1 ≤ d by omega) (show (0 : Int) ≤ 1000000000 by omega)
    omega
theorem tdiv_bd (n d : Int) (hd : 0 < d) (h1 : -1000000000 ≤ n) (h2 : n ≤ 1000000000) : -1000000000 ≤ n.tdiv d ∧ n.tdiv d ≤ 1000000001 := by
  have b := flo_bd n d hd h1 h2
  rcases Int.lt_or_le (n.tmod d) 0 with h | h
  · have e := flo_neg n d hd h; omega
  · have e := flo_pos n d hd h; omega

/-- The sign. -/
def sgn (n : Int) : Int := if 0 < n then 1 else if n < 0 then -1 else 0
theorem sgn_bd (n : Int) : -1 ≤ sgn n ∧ sgn n ≤ 1 := by unfold sgn; split <;> (try split) <;> omega
theorem sgn_pos (n : Int) (h : 0 < n) : sgn n = 1 := by unfold sgn; rw [if_pos h]
theorem sgn_neg (n : Int) (h : n < 0) : sgn n = -1 := by unfold sgn; rw [if_neg (by omega), if_pos h]
theorem sgn_zero (n : Int) (h : n = 0) : sgn n = 0 := by unfold sgn; rw [if_neg (by omega), if_neg (by omega)]
theorem sgn_min (n : Int) : sgn (-n) = - sgn n := by unfold sgn; split <;> split <;> (try split) <;> (try split) <;> omega

/-- The cross product of b - a and c - a. -/
def crossV (ax ay bx b_y cx cy : Int) : Int := (bx - ax) * (cy - ay) - (b_y - ay) * (cx - ax)
theorem cross_cyc (ax ay bx b_y cx cy : Int) : crossV bx b_y cx cy ax ay = crossV ax ay bx b_y cx cy := by
  unfold crossV; grind
theorem cross_swap (ax ay bx b_y cx cy : Int) : crossV bx b_y ax ay cx cy = - crossV ax ay bx b_y cx cy := by
  unfold crossV; grind
theorem cross_same (ax ay cx cy : Int) : crossV ax ay ax ay cx cy = 0 := by
  unfold crossV; grind
/-- What Orientation returns. -/
def oriV (ax ay bx b_y cx cy : Int) : Int := if okP ax ay ∧ okP bx b_y ∧ okP cx cy then sgn (crossV ax ay bx b_y cx cy) else 0
theorem oriV_in {ax ay bx b_y cx cy : Int} (h : okP ax ay ∧ okP bx b_y ∧ okP cx cy) : oriV ax ay bx b_y cx cy = sgn (crossV ax ay bx b_y cx cy) := by unfold oriV; rw [if_pos h]
theorem oriV_out {ax ay bx b_y cx cy : Int} (h : ¬ (okP ax ay ∧ okP bx b_y ∧ okP cx cy)) : oriV ax ay bx b_y cx cy = 0 := by unfold oriV; rw [if_neg h]
theorem oriV_bd (ax ay bx b_y cx cy : Int) : -1 ≤ oriV ax ay bx b_y cx cy ∧ oriV ax ay bx b_y cx cy ≤ 1 := by
  unfold oriV; split
  · exact sgn_bd _
  · omega
theorem oriV_cyc (ax ay bx b_y cx cy : Int) : oriV bx b_y cx cy ax ay = oriV ax ay bx b_y cx cy := by
  unfold oriV; rw [cross_cyc]
  by_cases h : okP ax ay ∧ okP bx b_y ∧ okP cx cy
  · rw [if_pos h, if_pos ⟨h.2.1, h.2.2, h.1⟩]
  · rw [if_neg h, if_neg fun k => h ⟨k.2.2, k.1, k.2.1⟩]
theorem oriV_swap (ax ay bx b_y cx cy : Int) : oriV bx b_y ax ay cx cy = - oriV ax ay bx b_y cx cy := by
  unfold oriV; rw [cross_swap, sgn_min]
  by_cases h : okP ax ay ∧ okP bx b_y ∧ okP cx cy
  · rw [if_pos h, if_pos ⟨h.2.1, h.1, h.2.2⟩]
  · rw [if_neg h, if_neg fun k => h ⟨k.2.1, k.1, k.2.2⟩]; rfl
theorem oriV_same (ax ay cx cy : Int) : oriV ax ay ax ay cx cy = 0 := by
  unfold oriV; rw [cross_same]
  split
  · rfl
  · rfl

/-- What SquaredDistance returns. -/
def sqV (ax ay bx b_y : Int) : Int := if okP ax ay ∧ okP bx b_y then (bx - ax) * (bx - ax) + (b_y - ay) * (b_y - ay) else -1
theorem sqV_in {ax ay bx b_y : Int} (h : okP ax ay ∧ okP bx b_y) : sqV ax ay bx b_y = (bx - ax) * (bx - ax) + (b_y - ay) * (b_y - ay) := by unfold sqV; rw [if_pos h]
theorem sqV_in' {ax ay bx b_y : Int} (h : okP ax ay ∧ okP bx b_y) : sqV ax ay bx b_y = (ax - bx) * (ax - bx) + (ay - b_y) * (ay - b_y) := by rw [sqV_in h]; grind
theorem sqV_out {ax ay bx b_y : Int} (h : ¬ (okP ax ay ∧ okP bx b_y)) : sqV ax ay bx b_y = -1 := by unfold sqV; rw [if_neg h]
theorem sqV_comm (ax ay bx b_y : Int) : sqV bx b_y ax ay = sqV ax ay bx b_y := by
  unfold sqV
  by_cases h : okP ax ay ∧ okP bx b_y
  · rw [if_pos h, if_pos ⟨h.2, h.1⟩]; grind
  · rw [if_neg h, if_neg fun k => h ⟨k.2, k.1⟩]
theorem sqV_lo (ax ay bx b_y : Int) : -1 ≤ sqV ax ay bx b_y := by
  unfold sqV; split
  · have := sq_nn (bx - ax); have := sq_nn (b_y - ay); omega
  · omega
theorem sqV_hi (ax ay bx b_y : Int) : sqV ax ay bx b_y ≤ 800000000 := by
  unfold sqV; split
  · rename_i h
    obtain ⟨⟨h1, h2, h3, h4⟩, ⟨h5, h6, h7, h8⟩⟩ := h
    have := mul_bd8 (x := bx - ax) (y := bx - ax) (by omega) (by omega) (by omega) (by omega)
    have := mul_bd8 (x := b_y - ay) (y := b_y - ay) (by omega) (by omega) (by omega) (by omega)
    omega
  · omega
theorem sqV_neg {ax ay bx b_y : Int} (h : sqV ax ay bx b_y < 0) : ¬ (okP ax ay ∧ okP bx b_y) := fun k => by
  rw [sqV_in k] at h
  have := sq_nn (bx - ax); have := sq_nn (b_y - ay); omega
theorem sqV_zero {ax ay bx b_y : Int} (h : okP ax ay ∧ okP bx b_y) : sqV ax ay bx b_y = 0 ↔ ax = bx ∧ ay = b_y := by
  rw [sqV_in h]
  have h1 := sq_nn (bx - ax)
  have h2 := sq_nn (b_y - ay)
  constructor
  · intro e
    have e1 := sq_zero (show (bx - ax) * (bx - ax) = 0 by omega)
    have e2 := sq_zero (show (b_y - ay) * (b_y - ay) = 0 by omega)
    omega
  · rintro ⟨rfl, rfl⟩
    simp
theorem sqV_twice {ax ay bx b_y : Int} (h : okP ax ay ∧ okP bx b_y) (hc : okP (2 * bx - ax) (2 * b_y - ay)) : sqV ax ay (2 * bx - ax) (2 * b_y - ay) = 4 * sqV ax ay bx b_y := by
  rw [sqV_in h, sqV_in ⟨h.1, hc⟩]; grind

/-- What Midpoint returns. -/
def midX (ax ay bx b_y : Int) : Int := if okP ax ay ∧ okP bx b_y then flo (ax + bx) 2 else 0
def midY (ax ay bx b_y : Int) : Int := if okP ax ay ∧ okP bx b_y then flo (ay + b_y) 2 else 0
theorem midX_in {ax ay bx b_y : Int} (h : okP ax ay ∧ okP bx b_y) : midX ax ay bx b_y = flo (ax + bx) 2 := by unfold midX; rw [if_pos h]
theorem midY_in {ax ay bx b_y : Int} (h : okP ax ay ∧ okP bx b_y) : midY ax ay bx b_y = flo (ay + b_y) 2 := by unfold midY; rw [if_pos h]
theorem midX_out {ax ay bx b_y : Int} (h : ¬ (okP ax ay ∧ okP bx b_y)) : midX ax ay bx b_y = 0 := by unfold midX; rw [if_neg h]
theorem midY_out {ax ay bx b_y : Int} (h : ¬ (okP ax ay ∧ okP bx b_y)) : midY ax ay bx b_y = 0 := by unfold midY; rw [if_neg h]
theorem midX_comm (ax ay bx b_y : Int) : midX bx b_y ax ay = midX ax ay bx b_y := by
  unfold midX
  by_cases h : okP ax ay ∧ okP bx b_y
  · rw [if_pos h, if_pos ⟨h.2, h.1⟩, Int.add_comm]
  · rw [if_neg h, if_neg fun k => h ⟨k.2, k.1⟩]
theorem midY_comm (ax ay bx b_y : Int) : midY bx b_y ax ay = midY ax ay bx b_y := by
  unfold midY
  by_cases h : okP ax ay ∧ okP bx b_y
  · rw [if_pos h, if_pos ⟨h.2, h.1⟩, Int.add_comm]
  · rw [if_neg h, if_neg fun k => h ⟨k.2, k.1⟩]
theorem flo2 (n : Int) : 2 * flo n 2 ≤ n ∧ n ≤ 2 * flo n 2 + 1 := by unfold flo; omega
theorem flo2_twice (n : Int) : flo (n + n) 2 = n := by unfold flo; omega
end Go.Proofs.Ytppkipcgpmijpaa
namespace Go.Proofs.Ytppkipcgpmijpaa
set_option maxRecDepth 100000
open Go.RowKit

/-- A point's value. -/
abbrev pt (x y : Int) : Value := .agg #[.int .i64 x, .int .i64 y]
theorem below_call {w w1 w2 : World} (h : Below w.heap.size w w1) (h2 : Below w1.heap.size w1 w2) : Below w.heap.size w w2 := h.trans (h2.mono h.size)
theorem below_box (w : World) (o : Obj) : Below w.heap.size w (w.alloc o) := (Below.refl w.heap.size w).alloc (Nat.le_refl _) o
theorem below_box2 (w : World) (a b : Obj) : Below w.heap.size w ((w.alloc a).alloc b) := below_call (below_box w a) (below_box _ b)
theorem below_box3 (w : World) (a b c : Obj) : Below w.heap.size w (((w.alloc a).alloc b).alloc c) := below_call (below_box2 w a b) (below_box _ c)
theorem below_box4 (w : World) (a b c d : Obj) : Below w.heap.size w ((((w.alloc a).alloc b).alloc c).alloc d) := below_call (below_box3 w a b c) (below_box _ d)
theorem floorDivide (n d : Int) (w : World) (hd : 0 < d) (h1 : -1000000000 ≤ n) (h2 : n ≤ 1000000000) (hd2 : d ≤ 1000000) :
    Calls Try.prog 56 #[.int .i64 n, .int .i64 d] w fun e w' => e = .returned (.int .i64 (flo n d)) ∧ w = w' := by
  obtain ⟨b1, b2⟩ := tdiv_bd n d hd h1 h2
  have hne : ¬ d = 0 := by omega
  by_cases h : n.tmod d < 0
  · have HE := Lib.hid (flo_neg n d hd h)
    go_enter Try.func56, Try.ntmps56
    go_wp2
    go_ret
    exact ⟨ret_int HE.out, rfl⟩
  · have HE := Lib.hid (flo_pos n d hd (by omega))
    go_enter Try.func56, Try.ntmps56
    go_wp2
    go_ret
    exact ⟨ret_int HE.out, rfl⟩
theorem l1Floor (n d : Int) (w : World) (hd : 0 < d) (h1 : -1000000000 ≤ n) (h2 : n ≤ 1000000000) (hd2 : d ≤ 1000000) :
    Calls Try.prog 41 #[.int .i64 n, .int .i64 d] w fun e w' => e = .returned (.int .i64 (flo n d)) ∧ w = w' := by
  obtain ⟨b1, b2⟩ := tdiv_bd n d hd h1 h2
  have hne : ¬ d = 0 := by omega
  by_cases h : n.tmod d < 0
  · have HE := Lib.hid (flo_neg n d hd h)
    go_enter Try.func41, Try.ntmps41
    go_wp2
    go_ret
    exact ⟨ret_int HE.out, rfl⟩
  · have HE := Lib.hid (flo_pos n d hd (by omega))
    go_enter Try.func41, Try.ntmps41
    go_wp2
    go_ret
    exact ⟨ret_int HE.out, rfl⟩
end Go.Proofs.Ytppkipcgpmijpaa
namespace Go.Proofs.Ytppkipcgpmijpaa
set_option maxRecDepth 100000
open Go.RowKit
attribute [local go_sem ↓] Go.wp_at_zero Go.wp_at_succ

/-- A point lies in block b. -/
structure AtP (w : World) (b : Nat) (x y : Int) : Prop where
  lt : b < w.heap.size
  c0 : w.cell? ⟨b, 0, none⟩ = some (.int .i64 x)
  c1 : w.cell? ⟨b, 1, none⟩ = some (.int .i64 y)
theorem AtP.next {w w' : World} {b : Nat} {x y : Int} (h : AtP w b x y) (hb : Below w.heap.size w w') : AtP w' b x y :=
  ⟨Nat.lt_of_lt_of_le h.lt hb.size, by rw [hb.cell (p := ⟨b, 0, none⟩) h.lt]; exact h.c0, by rw [hb.cell (p := ⟨b, 1, none⟩) h.lt]; exact h.c1⟩
theorem AtP.box (w : World) (x y : Int) (t : Nat) : AtP (w.alloc (.cells #[.int .i64 x, .int .i64 y] t)) w.heap.size x y :=
  ⟨by simp, by simp, by simp⟩
theorem AtP.alloc {w : World} {b : Nat} {x y : Int} (h : AtP w b x y) (o : Obj) : AtP (w.alloc o) b x y := h.next (below_box w o)
theorem at2 (w : World) (ax ay bx b_y : Int) (t : Nat) : let w0 := (w.alloc (.cells #[.int .i64 ax, .int .i64 ay] t)).alloc (.cells #[.int .i64 bx, .int .i64 b_y] t)
    AtP w0 w.heap.size ax ay ∧ AtP w0 (w.heap.size + 1) bx b_y := by
  refine ⟨(AtP.box w ax ay t).alloc _, ?_⟩
  have := AtP.box (w.alloc (.cells #[.int .i64 ax, .int .i64 ay] t)) bx b_y t
  simpa using this
theorem at3 (w : World) (ax ay bx b_y cx cy : Int) (t : Nat) : let w0 := ((w.alloc (.cells #[.int .i64 ax, .int .i64 ay] t)).alloc (.cells #[.int .i64 bx, .int .i64 b_y] t)).alloc (.cells #[.int .i64 cx, .int .i64 cy] t)
    AtP w0 w.heap.size ax ay ∧ AtP w0 (w.heap.size + 1) bx b_y ∧ AtP w0 (w.heap.size + 1 + 1) cx cy := by
  have h := at2 w ax ay bx b_y t
  refine ⟨h.1.alloc _, h.2.alloc _, ?_⟩
  have := AtP.box ((w.alloc (.cells #[.int .i64 ax, .int .i64 ay] t)).alloc (.cells #[.int .i64 bx, .int .i64 b_y] t)) cx cy t
  simpa using this
end Go.Proofs.Ytppkipcgpmijpaa
namespace Go.Proofs.Ytppkipcgpmijpaa
set_option maxRecDepth 100000
open Go.RowKit

/-- A block of the call's own that holds a point. -/
structure OwnP (w : World) (b : Nat) (x y : Int) : Prop extends AtP w b x y where
  z0 : w.frozen? ⟨b, 0, none⟩ = false
  z1 : w.frozen? ⟨b, 1, none⟩ = false
theorem OwnP.next {w w' : World} {b : Nat} {x y : Int} (h : OwnP w b x y) (hb : Below w.heap.size w w') : OwnP w' b x y :=
  ⟨h.toAtP.next hb, (hb.frozen (p := ⟨b, 0, none⟩) h.lt).trans h.z0, (hb.frozen (p := ⟨b, 1, none⟩) h.lt).trans h.z1⟩
theorem OwnP.box (w : World) (x y : Int) (t : Nat) : OwnP (w.alloc (.cells #[.int .i64 x, .int .i64 y] t)) w.heap.size x y :=
  ⟨AtP.box w x y t, World.frozen?_alloc_at _ _ _ _ rfl, World.frozen?_alloc_at _ _ _ _ rfl⟩
theorem at2r (w : World) (ax ay bx b_y : Int) (t : Nat) : let w0 := ((w.alloc (.cells #[.int .i64 ax, .int .i64 ay] t)).alloc (.cells #[.int .i64 bx, .int .i64 b_y] t)).alloc (.cells #[.int .i64 0, .int .i64 0] t)
    AtP w0 w.heap.size ax ay ∧ AtP w0 (w.heap.size + 1) bx b_y ∧ OwnP w0 (w.heap.size + 1 + 1) 0 0 := by
  have h := at2 w ax ay bx b_y t
  refine ⟨h.1.alloc _, h.2.alloc _, ?_⟩
  have := OwnP.box ((w.alloc (.cells #[.int .i64 ax, .int .i64 ay] t)).alloc (.cells #[.int .i64 bx, .int .i64 b_y] t)) 0 0 t
  simpa using this
theorem stillOf {P : Program} {f : FuncId} {args : Array Value} {w : World} {v : Value} (h : Calls P f args w fun e w' => e = .returned v ∧ w = w') : Calls P f args w fun e w' => e = .returned v ∧ w' = w :=
  h.mono fun _ _ ⟨he, hw⟩ => ⟨he, hw.symm⟩
theorem pt_mid {ax ay bx b_y x y : Int} (hx : midX ax ay bx b_y = x) (hy : midY ax ay bx b_y = y) : Ending.returned (pt x y) = .returned (pt (midX ax ay bx b_y) (midY ax ay bx b_y)) := by rw [hx, hy]
theorem wrap_in {n : Int} (h0 : -9223372036854775808 ≤ n) (h1 : n ≤ 9223372036854775807) : IntKind.i64.wrap n = n := IntWalk.i64_in _ ⟨h0, h1⟩
theorem below_drew (w : World) : Below w.heap.size w w.drew := (Below.refl _ _).drew
theorem below_set {w w' : World} (h : Below w.heap.size w w') {b : Nat} (hb : w.heap.size ≤ b) (u v : Value) : Below w.heap.size w ((w'.setCell ⟨b, 0, none⟩ u).setCell ⟨b, 1, none⟩ v) :=
  (h.setCell (p := ⟨b, 0, none⟩) hb u).setCell (p := ⟨b, 1, none⟩) hb v
end Go.Proofs.Ytppkipcgpmijpaa
