/- Plain facts on whole numbers: degrees, angles between directions, turns, and square roots. -/
import Init
namespace Go.Proofs.Ytkogoflcacameaa
set_option maxRecDepth 100000

/-- The number of 0..359 that differs from d by a multiple of 360. -/
def deg (d : Int) : Int := d % 360
theorem deg_lo (d : Int) : 0 ≤ deg d := by unfold deg; omega
theorem deg_hi (d : Int) : deg d < 360 := by unfold deg; omega
theorem deg_le (d : Int) : deg d ≤ 359 := by unfold deg; omega
theorem deg_same (d : Int) (h0 : 0 ≤ d) (h1 : d < 360) : deg d = d := by unfold deg; omega
theorem deg_less (d : Int) (h0 : 0 ≤ d) (h1 : d < 360) : deg (d - 360) = d := by unfold deg; omega
theorem tmod_360 (d : Int) (h : d.tmod 360 < 0) : d.tmod 360 + 360 = deg d := by
  unfold deg; rw [Int.tmod_eq_emod] at *; split at h <;> split <;> omega
theorem tmod_360' (d : Int) (h : 0 ≤ d.tmod 360) : d.tmod 360 = deg d := by
  unfold deg; rw [Int.tmod_eq_emod] at *; split at h <;> split <;> omega

/-- The angle between two directions. -/
def ang (a b : Int) : Int := if deg (deg a - deg b) ≤ 180 then deg (deg a - deg b) else 360 - deg (deg a - deg b)
theorem ang_lo (a b : Int) : 0 ≤ ang a b := by unfold ang deg; split <;> omega
theorem ang_hi (a b : Int) : ang a b ≤ 180 := by unfold ang deg; split <;> omega
theorem ang_comm (a b : Int) : ang a b = ang b a := by unfold ang deg; split <;> split <;> omega
theorem ang_self (a : Int) : ang a a = 0 := by unfold ang deg; split <;> omega
theorem ang_spec (a b : Int) : min (deg (deg a - deg b)) (360 - deg (deg a - deg b)) = ang a b := by unfold ang deg; split <;> omega
theorem ang_impl (a b : Int) : min (deg (deg b - deg a)) (deg (deg a - deg b)) = ang a b := by unfold ang deg; split <;> omega
theorem ang_back (a b : Int) : ang a (deg b + 180) = 180 - ang a b := by unfold ang deg; split <;> split <;> omega
theorem ang_tri (a b c : Int) : ang a b ≤ ang a c + ang c b := by
  unfold ang deg; split <;> split <;> split <;> omega
theorem ang_deg (a b : Int) : ang (deg a) b = ang a b := by unfold ang deg; split <;> split <;> omega

/-- A turn from a towards b by at most s. -/
def turn (a b s : Int) : Int := if ang a b ≤ s then deg b else if deg (deg b - deg a) ≤ 180 then deg (deg a + s) else deg (deg a - s)
theorem turn_lo (a b s : Int) : 0 ≤ turn a b s := by unfold turn; split <;> (try split) <;> apply deg_lo
theorem turn_hi (a b s : Int) : turn a b s < 360 := by unfold turn; split <;> (try split) <;> apply deg_hi
theorem turn_far (a b s : Int) (h0 : 0 ≤ s) (h1 : s ≤ 180) : ang (turn a b s) b = max 0 (ang a b - s) := by
  unfold turn ang deg; repeat' split
  all_goals omega
theorem turn_by (a b s : Int) (h0 : 0 ≤ s) (h1 : s ≤ 180) : ang a (turn a b s) = min (ang a b) s := by
  unfold turn ang deg; repeat' split
  all_goals omega
theorem turn_180 (a b : Int) : turn a b 180 = deg b := by unfold turn; rw [if_pos (ang_hi a b)]
theorem turn_deg (a b s : Int) : turn (deg a) b s = turn a b s := by
  unfold turn; rw [ang_deg]; simp only [show deg (deg a) = deg a from by unfold deg; omega]
theorem ang_zero (a b : Int) (h : ang a b = 0) : deg a = deg b := by unfold ang deg at *; split at h <;> omega

/-- The largest number whose square is at most n. -/
def rootN : Nat → Nat
  | 0 => 0
  | n + 1 => if (rootN n + 1) * (rootN n + 1) ≤ n + 1 then rootN n + 1 else rootN n
theorem rootN_is (n : Nat) : rootN n * rootN n ≤ n ∧ n < (rootN n + 1) * (rootN n + 1) := by
  induction n with
  | zero => simp [rootN]
  | succ n ih =>
    unfold rootN
    split
    · rename_i h
      refine ⟨h, ?_⟩
      have e : (rootN n + 1 + 1) * (rootN n + 1 + 1) = (rootN n + 1) * (rootN n + 1) + 2 * (rootN n + 1) + 1 := by
        rw [Nat.add_mul, Nat.mul_add, Nat.one_mul, Nat.mul_one]; omega
      rw [e]; omega
    · rename_i h
      exact ⟨by omega, by omega⟩
theorem sq_mono {a b : Nat} (h : a ≤ b) : a * a ≤ b * b := Nat.mul_le_mul h h
def root (n : Int) : Int := (rootN n.toNat : Int)
theorem root_lo (n : Int) : 0 ≤ root n := by unfold root; omega
theorem root_is (n : Int) (h : 0 ≤ n) : root n * root n ≤ n ∧ n < (root n + 1) * (root n + 1) := by
  have := rootN_is n.toNat
  unfold root
  constructor
  · have h1 : ((rootN n.toNat * rootN n.toNat : Nat) : Int) ≤ (n.toNat : Int) := by exact_mod_cast this.1
    rw [Int.natCast_mul] at h1; omega
  · have h1 : (n.toNat : Int) < (((rootN n.toNat + 1) * (rootN n.toNat + 1) : Nat) : Int) := by exact_mod_cast this.2
    rw [Int.natCast_mul, Int.natCast_add] at h1
    have e : ((1 : Nat) : Int) = 1 := rfl
    rw [e] at h1; omega
theorem sq_lt {a b : Int} (ha : 0 ≤ a) (h : a < b) : (a + 1) * (a + 1) ≤ b * b := Int.mul_le_mul (by omega) (by omega) (by omega) (by omega)
theorem root_of (n k : Int) (hn : 0 ≤ n) (hk : 0 ≤ k) (h1 : k * k ≤ n) (h2 : n < (k + 1) * (k + 1)) : root n = k := by
  have hr := root_is n hn
  have h0 := root_lo n
  rcases Int.lt_trichotomy (root n) k with h | h | h
  · have := sq_lt h0 h; omega
  · exact h
  · have := sq_lt hk h; omega
theorem root_le (n k : Int) (hn : 0 ≤ n) (hk : 0 ≤ k) (h2 : n < (k + 1) * (k + 1)) : root n ≤ k := by
  have hr := root_is n hn
  have h0 := root_lo n
  rcases Int.lt_or_le k (root n) with h | h
  · have := sq_lt hk h; omega
  · exact h
end Go.Proofs.Ytkogoflcacameaa
