/- The contracts of the functions of the chapter on angles that only compute: what each returns, at every argument. -/
import Derived.Test.YtkogoflcacameaaRows
import Derived.Test.YtkogoflcacameaaNum
import Derived.WalkKit
import Derived.ProofKit
import Derived.Outline
import Derived.IntWalk
import Derived.Lib.Hide
namespace Go.Proofs.Ytkogoflcacameaa
set_option maxRecDepth 100000
open Go.RowKit

theorem ret_int {k : IntKind} {a b : Int} (h : a = b) : Ending.returned (.int k a) = .returned (.int k b) := by rw [h]
theorem ret_bool {a b : Bool} (h : a = b) : Ending.returned (.bool a) = .returned (.bool b) := by rw [h]

theorem reduced (d : Int) (w : World) (_h1 : -9223372036854775808 ≤ d) (_h2 : d ≤ 9223372036854775807) :
    Calls Try.prog 55 #[.int .i64 d] w fun e w' => e = .returned (.int .i64 (deg d)) ∧ w = w' := by
  have hd := deg_lo d
  have hd' := deg_hi d
  go_enter Try.func55, Try.ntmps55
  go_wp2
  · go_ret
    have h : d.tmod 360 < 0 := by assumption
    have e := tmod_360 d h
    exact ⟨ret_int (by rw [e, IntWalk.wrap64_in _ (by omega)]), rfl⟩
  · go_ret
    have h : 0 ≤ d.tmod 360 := by assumption
    exact ⟨ret_int (tmod_360' d h), rfl⟩
theorem implDegrees (d : Int) (w : World) (h1 : -9223372036854775808 ≤ d) (h2 : d ≤ 9223372036854775807) :
    Calls Try.prog 34 #[.int .i64 d] w fun e w' => e = .returned (.int .i64 (deg d)) ∧ w = w' := by
  go_enter Try.func34, Try.ntmps34
  go_wp2_with fail
  refine (reduced d _ h1 h2).mono ?_
  rintro e w' ⟨rfl, rfl⟩
  go_wp2
  go_ret
  exact ⟨rfl, rfl⟩
/-- What TurnToward returns: -1 where the step is out of range. -/
def turnV (a b s : Int) : Int := if 0 ≤ s ∧ s ≤ 180 then turn a b s else -1
theorem turnV_in (a b s : Int) (h0 : 0 ≤ s) (h1 : s ≤ 180) : turnV a b s = turn a b s := by unfold turnV; rw [if_pos ⟨h0, h1⟩]
theorem turnV_out (a b s : Int) (h : s < 0 ∨ 180 < s) : turnV a b s = -1 := by unfold turnV; rw [if_neg (by omega)]
theorem l1In_yes (n lo hi : Int) (w : World) (h1 : lo ≤ n) (h2 : n ≤ hi) :
    Calls Try.prog 38 #[.int .i64 n, .int .i64 lo, .int .i64 hi] w fun e w' => e = .returned (.bool true) ∧ w = w' := by
  go_enter Try.func38, Try.ntmps38
  go_wp2
  go_ret
  exact ⟨rfl, rfl⟩
theorem l1In_no (n lo hi : Int) (w : World) (h : n < lo ∨ hi < n) :
    Calls Try.prog 38 #[.int .i64 n, .int .i64 lo, .int .i64 hi] w fun e w' => e = .returned (.bool false) ∧ w = w' := by
  by_cases h1 : n < lo
  · clear h
    go_enter Try.func38, Try.ntmps38
    go_wp2
    go_ret
    exact ⟨rfl, rfl⟩
  · have h2 : decide (n ≤ hi) = false := decide_eq_false (by omega)
    clear h
    go_enter Try.func38, Try.ntmps38
    go_wp2
    go_ret
    exact ⟨rfl, rfl⟩
/-- What SquareRoot returns: 0 where the number is out of range. -/
def rootV (n : Int) : Int := if 0 ≤ n ∧ n ≤ 1000000000000 then root n else 0
theorem rootV_in (n : Int) (h0 : 0 ≤ n) (h1 : n ≤ 1000000000000) : rootV n = root n := by unfold rootV; rw [if_pos ⟨h0, h1⟩]
theorem rootV_out (n : Int) (h : n < 0 ∨ 1000000000000 < n) : rootV n = 0 := by unfold rootV; rw [if_neg (by omega)]
theorem rootV_zero : rootV 0 = 0 := by rw [rootV_in 0 (by omega) (by omega)]; exact root_of 0 0 (by omega) (by omega) (by omega) (by omega)
theorem rootV_of (n k : Int) (hn : 0 ≤ n) (hn' : n ≤ 1000000000000) (hk : 0 ≤ k) (h1 : k * k ≤ n) (h2 : n < (k + 1) * (k + 1)) : rootV n = k := by
  rw [rootV_in n hn hn']; exact root_of n k hn hk h1 h2
theorem alive (w : World) : Calls Try.prog 12 #[] w fun e w' => e = .returned (.bool true) ∧ w = w' := by
  have h : (deg (-1) == 359) = true := by decide
  go_enter Try.func12, Try.ntmps12
  go_wp2_with fail
  refine (implDegrees (-1) _ (by omega) (by omega)).mono ?_
  rintro e w' ⟨rfl, rfl⟩
  go_wp2
  go_ret
  exact ⟨rfl, rfl⟩
end Go.Proofs.Ytkogoflcacameaa
