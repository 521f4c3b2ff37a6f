/- The walks of the laws of the chapter on angles that read no table: each returns true at every code. -/
import Derived.Test.YtpiabkihbbfmoaaBase
import Derived.Test.YtpiabkihbbfmoaaRoot
import Derived.Test.YtpiabkihbbfmoaaDraw1
import Derived.Test.YtpiabkihbbfmoaaDraw1b
namespace Go.Proofs.Ytpiabkihbbfmoaa
open Go.RowKit
theorem walkFnDegrees (w : World) (a : Option Addr) (len cap : Nat) (zs : List Int) (h : Bytes w a len cap zs) :
    Calls Try.prog 3 #[.slice a len cap] w fun e w' => e = .returned (.bool true) ∧ Below w.heap.size w w' := by
  have hle := h.len_le
  obtain ⟨hl, hm⟩ := hle
  unfold maxLen at hm
  by_cases hbig : 1048576 < len
  · go_enter Try.func3, Try.ntmps3
    go_wp2
    go_ret
    exact ⟨rfl, Below.refl _ _⟩
  · go_enter Try.func3, Try.ntmps3
    go_wp2_with fail
    refine (drawDegrees w a len cap zs h).mono ?_
    rintro e w1 ⟨d, hd1, hd2, rfl, hb⟩
    have d1 := deg_lo d
    have d2 := deg_hi d
    have e1 : (deg (deg d) == deg d) = true := by rw [deg_same _ d1 d2]; simp
    have e2 : (deg (deg d - 360) == deg d) = true := by rw [deg_less _ d1 d2]; simp
    have e3 : (deg d == deg d) = true := by simp
    go_wp2_with fail
    refine (implDegrees d _ hd1 hd2).mono ?_
    rintro e w' ⟨rfl, rfl⟩
    go_wp2_with fail
    refine (specDegrees d _ hd1 hd2).mono ?_
    rintro e w' ⟨rfl, rfl⟩
    go_wp2_with fail
    refine (implDegrees _ _ (by omega) (by omega)).mono ?_
    rintro e w' ⟨rfl, rfl⟩
    go_wp2_with fail
    refine (implDegrees _ _ (by omega) (by omega)).mono ?_
    rintro e w' ⟨rfl, rfl⟩
    go_wp2
    go_ret
    exact ⟨rfl, hb⟩
theorem walkFnSquareRoot (w : World) (a : Option Addr) (len cap : Nat) (zs : List Int) (h : Bytes w a len cap zs) :
    Calls Try.prog 4 #[.slice a len cap] w fun e w' => e = .returned (.bool true) ∧ Below w.heap.size w w' := by
  have hle := h.len_le
  obtain ⟨hl, hm⟩ := hle
  unfold maxLen at hm
  by_cases hbig : 1048576 < len
  · go_enter Try.func4, Try.ntmps4
    go_wp2
    go_ret
    exact ⟨rfl, Below.refl _ _⟩
  · go_enter Try.func4, Try.ntmps4
    go_wp2_with fail
    refine (drawSquareRoot w a len cap zs h).mono ?_
    rintro e w1 ⟨n, hn1, hn2, rfl, hb⟩
    have e0 : (rootV n != rootV n) = false := by simp
    by_cases hn : 0 ≤ n ∧ n ≤ 1000000000000
    · obtain ⟨h0, h1⟩ := hn
      have k0 := root_lo n
      have k1 := root_is n h0
      rw [← rootV_in n h0 h1] at k0 k1
      obtain ⟨k1, k2⟩ := k1
      have k3 : rootV n ≤ 1000000 := by rw [rootV_in n h0 h1]; exact root_le n 1000000 h0 (by omega) (by omega)
      have k4 := sq_bd (rootV n + 1) (by omega) (by omega)
      obtain ⟨k5, k6⟩ := k4
      have k7 := Int.mul_nonneg k0 k0
      go_wp2_with fail
      refine (implSquareRoot n _).mono ?_
      rintro e w' ⟨rfl, rfl⟩
      go_wp2_with fail
      refine (specSquareRoot n _).mono ?_
      rintro e w' ⟨rfl, rfl⟩
      go_wp2
      go_ret
      exact ⟨ret_bool (by first | rfl | (simp; omega)), hb⟩
    · have e1 : (rootV n == 0) = true := by rw [rootV_out n (by omega)]; simp
      by_cases h0 : 0 ≤ n
      · have h1 : 1000000000000 < n := by omega
        clear hn
        go_wp2_with fail
        refine (implSquareRoot n _).mono ?_
        rintro e w' ⟨rfl, rfl⟩
        go_wp2_with fail
        refine (specSquareRoot n _).mono ?_
        rintro e w' ⟨rfl, rfl⟩
        go_wp2_with fail
        refine (alive _).mono ?_
        rintro e w' ⟨rfl, rfl⟩
        go_wp2
        go_ret
        exact ⟨rfl, hb⟩
      · clear hn
        go_wp2_with fail
        refine (implSquareRoot n _).mono ?_
        rintro e w' ⟨rfl, rfl⟩
        go_wp2_with fail
        refine (specSquareRoot n _).mono ?_
        rintro e w' ⟨rfl, rfl⟩
        go_wp2_with fail
        refine (alive _).mono ?_
        rintro e w' ⟨rfl, rfl⟩
        go_wp2
        go_ret
        exact ⟨rfl, hb⟩
theorem walkFnAngleBetween (w : World) (a : Option Addr) (len cap : Nat) (zs : List Int) (h : Bytes w a len cap zs) :
    Calls Try.prog 5 #[.slice a len cap] w fun e w' => e = .returned (.bool true) ∧ Below w.heap.size w w' := by
  have hle := h.len_le
  obtain ⟨hl, hm⟩ := hle
  unfold maxLen at hm
  by_cases hbig : 1048576 < len
  · go_enter Try.func5, Try.ntmps5
    go_wp2
    go_ret
    exact ⟨rfl, Below.refl _ _⟩
  · go_enter Try.func5, Try.ntmps5
    go_wp2_with fail
    refine (drawAngleBetween w a len cap zs h).mono ?_
    rintro e w1 ⟨x, y, hx1, hx2, hy1, hy2, rfl, hb⟩
    have a0 := ang_lo x y
    have a1 := ang_hi x y
    have y0 := deg_lo y
    have y1 := deg_hi y
    have e0 : (ang x y == ang x y) = true := by simp
    have e1 : (ang x y == ang y x) = true := by rw [ang_comm x y]; simp
    have e2 : (ang x x == 0) = true := by rw [ang_self]; simp
    have e3 : (ang x (deg y + 180) == 180 - ang x y) = true := by rw [ang_back]; simp
    go_wp2_with fail
    refine (implAngleBetween x y _ hx1 hx2 hy1 hy2).mono ?_
    rintro e w' ⟨rfl, rfl⟩
    go_wp2_with fail
    refine (specAngleBetween x y _ hx1 hx2 hy1 hy2).mono ?_
    rintro e w' ⟨rfl, rfl⟩
    go_wp2_with fail
    refine (implAngleBetween y x _ hy1 hy2 hx1 hx2).mono ?_
    rintro e w' ⟨rfl, rfl⟩
    go_wp2_with fail
    refine (implAngleBetween x x _ hx1 hx2 hx1 hx2).mono ?_
    rintro e w' ⟨rfl, rfl⟩
    go_wp2_with fail
    refine (implDegrees y _ hy1 hy2).mono ?_
    rintro e w' ⟨rfl, rfl⟩
    go_wp2_with fail
    refine (implAngleBetween x (deg y + 180) _ hx1 hx2 (by omega) (by omega)).mono ?_
    rintro e w' ⟨rfl, rfl⟩
    go_wp2_with fail
    refine (alive _).mono ?_
    rintro e w' ⟨rfl, rfl⟩
    go_wp2
    go_ret
    exact ⟨rfl, hb⟩
end Go.Proofs.Ytpiabkihbbfmoaa
