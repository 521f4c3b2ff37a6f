/- The angle of a joint on its way: the program's and the document's. -/
import Derived.Test.YtcoaahfnbgkofaaNum6j
namespace Go.Proofs.Ytcoaahfnbgkofaa
set_option maxRecDepth 100000
open Go.RowKit
attribute [local go_sem ↓] Go.wp_at_zero Go.wp_at_succ
/-- The part of a difference after the part p of d. -/
def shV (x p d : Int) : Int := if x < 0 then -((-x) * p / d) else x * p / d
theorem shV_ang (f t p d : Int) : f + shV (t - f) p d = angA f t p d := by
  unfold shV angA
  by_cases h : t < f
  · rw [if_pos h, if_pos (by omega), show -(t - f) = f - t by omega]; omega
  · rw [if_neg h, if_neg (by omega)]
theorem mul_360 {x p : Int} (h0 : 0 ≤ x) (h1 : x ≤ 360) (hp : 0 ≤ p) (hp1 : p ≤ 360) : 0 ≤ x * p ∧ x * p ≤ 129600 :=
  ⟨Int.mul_nonneg h0 hp, Int.le_trans (Int.mul_le_mul h1 hp1 hp (by omega)) (by decide)⟩
/-- A quotient of small numbers. -/
theorem quo_360 {m d : Int} (h0 : 0 ≤ m) (h1 : m ≤ 129600) (hd : 0 < d) : m.tdiv d = m / d ∧ 0 ≤ m / d ∧ m / d ≤ 129600 := by
  refine ⟨Int.tdiv_eq_ediv_of_nonneg h0, Int.ediv_nonneg h0 (by omega), ?_⟩
  exact Int.le_trans (Int.ediv_le_self d h0) h1
theorem angleAfter (f t p d : Int) (w : World) (hf : -180 ≤ f ∧ f ≤ 180) (ht : -180 ≤ t ∧ t ≤ 180) (hp : 0 ≤ p ∧ p ≤ d) (hd : 0 < d ∧ d ≤ 360) :
    Calls Try.prog 70 #[.int .i64 f, .int .i64 t, .int .i64 p, .int .i64 d] w fun e w' => e = .returned (.int .i64 (angA f t p d)) ∧ w = w' := by
  have z0 : ¬ d = 0 := by omega
  have z1 : (d == 0) = false := by simp; omega
  by_cases h : t < f
  · obtain ⟨m0, m1⟩ := mul_360 (x := f - t) (p := p) (by omega) (by omega) hp.1 (by omega)
    obtain ⟨m, hm⟩ : ∃ m, (f - t) * p = m := ⟨_, rfl⟩
    rw [hm] at m0 m1
    obtain ⟨k0, k1, k2⟩ := quo_360 m0 m1 hd.1
    obtain ⟨q, hq⟩ : ∃ q, m / d = q := ⟨_, rfl⟩
    rw [hq] at k0 k1 k2
    have HR := Lib.hid (show angA f t p d = f - q by unfold angA; rw [if_pos h, hm, hq])
    have o2 : IntKind.i64.wrap ((f - t) * p) = m := by rw [hm]; exact IntWalk.i64_in _ (by omega)
    clear hm hq
    go_enter Try.func70, Try.ntmps70
    go_wp2
    go_ret
    exact ⟨by rw [HR.out]; rfl, rfl⟩
  · obtain ⟨m0, m1⟩ := mul_360 (x := t - f) (p := p) (by omega) (by omega) hp.1 (by omega)
    obtain ⟨m, hm⟩ : ∃ m, (t - f) * p = m := ⟨_, rfl⟩
    rw [hm] at m0 m1
    obtain ⟨k0, k1, k2⟩ := quo_360 m0 m1 hd.1
    obtain ⟨q, hq⟩ : ∃ q, m / d = q := ⟨_, rfl⟩
    rw [hq] at k0 k1 k2
    have HR := Lib.hid (show angA f t p d = f + q by unfold angA; rw [if_neg h, hm, hq])
    have o2 : IntKind.i64.wrap ((t - f) * p) = m := by rw [hm]; exact IntWalk.i64_in _ (by omega)
    clear hm hq
    go_enter Try.func70, Try.ntmps70
    go_wp2
    go_ret
    exact ⟨by rw [HR.out]; rfl, rfl⟩
theorem l6Share (x p d : Int) (w : World) (hx : -360 ≤ x ∧ x ≤ 360) (hp : 0 ≤ p ∧ p ≤ d) (hd : 0 < d ∧ d ≤ 360) :
    Calls Try.prog 52 #[.int .i64 x, .int .i64 p, .int .i64 d] w fun e w' => e = .returned (.int .i64 (shV x p d)) ∧ w = w' := by
  have z0 : ¬ d = 0 := by omega
  have z1 : (d == 0) = false := by simp; omega
  have o1 : IntKind.i64.wrap (-x) = -x := IntWalk.i64_in _ (by omega)
  by_cases h : x < 0
  · obtain ⟨m0, m1⟩ := mul_360 (x := -x) (p := p) (by omega) (by omega) hp.1 (by omega)
    obtain ⟨m, hm⟩ : ∃ m, -x * p = m := ⟨_, rfl⟩
    rw [hm] at m0 m1
    obtain ⟨k0, k1, k2⟩ := quo_360 m0 m1 hd.1
    obtain ⟨q, hq⟩ : ∃ q, m / d = q := ⟨_, rfl⟩
    rw [hq] at k0 k1 k2
    have HR := Lib.hid (show shV x p d = -q by unfold shV; rw [if_pos h, hm, hq])
    obtain ⟨y, hy⟩ : ∃ y, -x = y := ⟨_, rfl⟩
    have e1 : (if x < y then y else x) = y := if_pos (by omega)
    rw [hy] at hm o1
    have o2 : IntKind.i64.wrap (y * p) = m := by rw [hm]; exact IntWalk.i64_in _ (by omega)
    have o3 : IntKind.i64.wrap (-q) = -q := IntWalk.i64_in _ (by omega)
    clear hm hq
    go_enter Try.func52, Try.ntmps52
    go_wp2
    go_ret
    exact ⟨by rw [HR.out]; rfl, rfl⟩
  · obtain ⟨m0, m1⟩ := mul_360 (x := x) (p := p) (by omega) (by omega) hp.1 (by omega)
    obtain ⟨m, hm⟩ : ∃ m, x * p = m := ⟨_, rfl⟩
    rw [hm] at m0 m1
    obtain ⟨k0, k1, k2⟩ := quo_360 m0 m1 hd.1
    obtain ⟨q, hq⟩ : ∃ q, m / d = q := ⟨_, rfl⟩
    rw [hq] at k0 k1 k2
    have HR := Lib.hid (show shV x p d = q by unfold shV; rw [if_neg h, hm, hq])
    obtain ⟨y, hy⟩ : ∃ y, -x = y := ⟨_, rfl⟩
    have e1 : (if x < y then y else x) = x := if_neg (by omega)
    rw [hy] at o1
    have o2 : IntKind.i64.wrap (x * p) = m := by rw [hm]; exact IntWalk.i64_in _ (by omega)
    clear hm hq
    go_enter Try.func52, Try.ntmps52
    go_wp2
    go_ret
    exact ⟨by rw [HR.out]; rfl, rfl⟩
end Go.Proofs.Ytcoaahfnbgkofaa
