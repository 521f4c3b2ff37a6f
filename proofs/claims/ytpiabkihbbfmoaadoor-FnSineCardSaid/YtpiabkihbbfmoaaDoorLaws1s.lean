/- The walks of the laws on sines and cosines: each returns true at every argument, wherever the program's table lies as its text lays it. -/
import Derived.Test.YtpiabkihbbfmoaaDoorTab
import Derived.Test.YtpiabkihbbfmoaaDoorDraw1
namespace Go.Proofs.YtpiabkihbbfmoaaDoor
open Go.RowKit
theorem bd64 {n : Int} (h : (Lit.int .i64 n).wf = true) : -9223372036854775808 ≤ n ∧ n ≤ 9223372036854775807 := bounds_i64 h
theorem sinV_deg (d : Int) : sinV (deg d) = sinV d := by
  unfold sinV; rw [show deg (deg d) = deg d by unfold deg; omega]
theorem all360 : ∀ n : Fin 360, sinV ((n.val : Int) + 180) = - sinV (n.val : Int) ∧ sinV (180 - (n.val : Int)) = sinV (n.val : Int) ∧
    sinV (deg (-(n.val : Int)) + 90) = sinV ((n.val : Int) + 90) ∧
    -8192 ≤ sinV (n.val : Int) * sinV (n.val : Int) + sinV ((n.val : Int) + 90) * sinV ((n.val : Int) + 90) - 16777216 ∧
    sinV (n.val : Int) * sinV (n.val : Int) + sinV ((n.val : Int) + 90) * sinV ((n.val : Int) + 90) - 16777216 ≤ 8192 := by decide +kernel
theorem at360 (n : Int) (h0 : 0 ≤ n) (h1 : n < 360) : sinV (n + 180) = - sinV n ∧ sinV (180 - n) = sinV n ∧ sinV (deg (-n) + 90) = sinV (n + 90) ∧
    -8192 ≤ sinV n * sinV n + sinV (n + 90) * sinV (n + 90) - 16777216 ∧ sinV n * sinV n + sinV (n + 90) * sinV (n + 90) - 16777216 ≤ 8192 := by
  have := all360 ⟨n.toNat, by omega⟩
  simp only [show ((n.toNat : Nat) : Int) = n by omega] at this
  exact this
theorem sin90 : sinV 90 = 4096 := by decide +kernel
theorem sq4096 (s : Int) (h0 : -4096 ≤ s) (h1 : s ≤ 4096) : 0 ≤ s * s ∧ s * s ≤ 16777216 := by
  rcases Int.le_total 0 s with h | h
  · exact ⟨Int.mul_nonneg h h, by have := Int.mul_le_mul h1 h1 h (by omega); omega⟩
  · have e : s * s = (-s) * (-s) := by rw [Int.neg_mul_neg]
    rw [e]
    exact ⟨Int.mul_nonneg (by omega) (by omega), by have := Int.mul_le_mul (show -s ≤ 4096 by omega) (show -s ≤ 4096 by omega) (by omega) (by omega); omega⟩
/-- The absolute value. -/
def absV (n : Int) : Int := max n (-n)
theorem absV_le (n k : Int) (h0 : -k ≤ n) (h1 : n ≤ k) : absV n ≤ k := by unfold absV; omega
theorem abs_ (n : Int) (w : World) (h0 : -1000000000 ≤ n) (h1 : n ≤ 1000000000) :
    Calls Tryd.prog 11 #[.int .i64 n] w fun e w' => e = .returned (.int .i64 (absV n)) ∧ w = w' := by
  have HE := Lib.hid (show absV n = max n (-n) from rfl)
  go_enter Tryd.func11, Tryd.ntmps11
  go_wp2
  all_goals
    go_ret
    exact ⟨ret_int (by rw [HE.out]; omega), rfl⟩
theorem walkFnExactSine (d : Int) (w : World) (ht : TabAt w) (h1 : -9223372036854775808 ≤ d) (h2 : d ≤ 9223372036854775807) :
    Calls Tryd.prog 5 #[.int .i64 d] w fun e w' => e = .returned (.bool true) ∧ Below w.heap.size w w' := by
  have hlt := ht.lt
  have hb0 : (sinV d != sinV d) = false := by simp
  go_enter Tryd.func5, Tryd.ntmps5
  go_wp2_with fail
  refine (specSine d _ h1 h2).mono ?_
  rintro e w1 ⟨rfl, hb⟩
  go_wp2_with fail
  refine (implSine d _ (ht.below hb hlt) h1 h2).mono ?_
  rintro e w' ⟨rfl, rfl⟩
  go_wp2
  go_ret
  exact ⟨rfl, hb⟩
theorem walkFnExactCosine (d : Int) (w : World) (ht : TabAt w) (h1 : -9223372036854775808 ≤ d) (h2 : d ≤ 9223372036854775807) :
    Calls Tryd.prog 6 #[.int .i64 d] w fun e w' => e = .returned (.bool true) ∧ Below w.heap.size w w' := by
  have hlt := ht.lt
  have hb0 : (sinV (deg d + 90) != sinV (deg d + 90)) = false := by simp
  go_enter Tryd.func6, Tryd.ntmps6
  go_wp2_with fail
  refine (specCosine d _ h1 h2).mono ?_
  rintro e w1 ⟨rfl, hb⟩
  go_wp2_with fail
  refine (implCosine d _ (ht.below hb hlt) h1 h2).mono ?_
  rintro e w' ⟨rfl, rfl⟩
  go_wp2
  go_ret
  exact ⟨rfl, hb⟩
theorem walkFnSine (w : World) (ht : TabAt w) (a : Option Addr) (len cap : Nat) (zs : List Int) (h : Bytes w a len cap zs) :
    Calls Tryd.prog 3 #[.slice a len cap] w fun e w' => e = .returned (.bool true) ∧ Below w.heap.size w w' := by
  have hle := h.len_le
  obtain ⟨hl, hm⟩ := hle
  unfold maxLen at hm
  have hlt := ht.lt
  by_cases hbig : 1048576 < len
  · go_enter Tryd.func3, Tryd.ntmps3
    go_wp2
    go_ret
    exact ⟨rfl, Below.refl _ _⟩
  · go_enter Tryd.func3, Tryd.ntmps3
    go_wp2_with fail
    refine (drawSine w a len cap zs h).mono ?_
    rintro e w1 ⟨d, hd1, hd2, rfl, hb⟩
    have ht1 := ht.below hb hlt
    have hlt1 := ht1.lt
    have d0 := deg_lo d
    have d1 := deg_hi d
    have H3 := Lib.hid (at360 (deg d) d0 d1)
    have b0 := sinV_bd d
    obtain ⟨b0, b1⟩ := b0
    have b2 := absV_le (sinV d) 4096 b0 b1
    have e0 : (sinV d != sinV d) = false := by simp
    have e1 : (sinV (deg d + 180) == -sinV d) = true := by rw [H3.out.1, sinV_deg]; simp
    have e2 : (sinV (180 - deg d) == sinV d) = true := by rw [H3.out.2.1, sinV_deg]; simp
    have e3 : (sinV (deg d) == sinV d) = true := by rw [sinV_deg]; simp
    have e4 : (sinV 90 == 4096) = true := by rw [sin90]; decide
    clear ht h
    go_wp2_with fail
    refine (implSine d _ ht1 hd1 hd2).mono ?_
    rintro e w' ⟨rfl, rfl⟩
    go_wp2_with fail
    refine (specSine d _ hd1 hd2).mono ?_
    rintro e w2 ⟨rfl, hb2⟩
    have ht2 := ht1.below hb2 hlt1
    have HB := Lib.hid (hb.trans (hb2.mono hb.size))
    clear hb hb2 ht1
    go_wp2_with fail
    refine (implDegrees d _ hd1 hd2).mono ?_
    rintro e w' ⟨rfl, rfl⟩
    go_wp2_with fail
    refine (abs_ _ _ (by omega) (by omega)).mono ?_
    rintro e w' ⟨rfl, rfl⟩
    go_wp2_with fail
    refine (implSine _ _ ht2 (by omega) (by omega)).mono ?_
    rintro e w' ⟨rfl, rfl⟩
    go_wp2_with fail
    refine (implSine _ _ ht2 (by omega) (by omega)).mono ?_
    rintro e w' ⟨rfl, rfl⟩
    go_wp2_with fail
    refine (implSine _ _ ht2 (by omega) (by omega)).mono ?_
    rintro e w' ⟨rfl, rfl⟩
    go_wp2_with fail
    refine (implSine _ _ ht2 (by omega) (by omega)).mono ?_
    rintro e w' ⟨rfl, rfl⟩
    go_wp2
    go_ret
    exact ⟨rfl, HB.out⟩
theorem walkFnCosine (w : World) (ht : TabAt w) (a : Option Addr) (len cap : Nat) (zs : List Int) (h : Bytes w a len cap zs) :
    Calls Tryd.prog 4 #[.slice a len cap] w fun e w' => e = .returned (.bool true) ∧ Below w.heap.size w w' := by
  have hle := h.len_le
  obtain ⟨hl, hm⟩ := hle
  unfold maxLen at hm
  have hlt := ht.lt
  by_cases hbig : 1048576 < len
  · go_enter Tryd.func4, Tryd.ntmps4
    go_wp2
    go_ret
    exact ⟨rfl, Below.refl _ _⟩
  · go_enter Tryd.func4, Tryd.ntmps4
    go_wp2_with fail
    refine (drawCosine w a len cap zs h).mono ?_
    rintro e w1 ⟨d, hd1, hd2, rfl, hb⟩
    have ht1 := ht.below hb hlt
    have hlt1 := ht1.lt
    have d0 := deg_lo d
    have d1 := deg_hi d
    have H3 := Lib.hid (at360 (deg d) d0 d1)
    obtain ⟨b0, b1⟩ := sinV_bd (deg d)
    obtain ⟨b2, b3⟩ := sinV_bd (deg d + 90)
    obtain ⟨b4, b5⟩ := sq4096 _ b0 b1
    obtain ⟨b6, b7⟩ := sq4096 _ b2 b3
    have b8 := absV_le (sinV (deg d) * sinV (deg d) + sinV (deg d + 90) * sinV (deg d + 90) - 16777216) 8192 (by have := H3.out.2.2.2.1; omega) (by have := H3.out.2.2.2.2; omega)
    have e0 : (sinV (deg d + 90) != sinV (deg d + 90)) = false := by simp
    have e1 : (sinV (deg d + 90) == sinV (deg d + 90)) = true := by simp
    have e2 : (sinV (deg (-deg d) + 90) == sinV (deg d + 90)) = true := by rw [H3.out.2.2.1]; simp
    clear ht h
    go_wp2_with fail
    refine (implCosine d _ ht1 hd1 hd2).mono ?_
    rintro e w' ⟨rfl, rfl⟩
    go_wp2_with fail
    refine (specCosine d _ hd1 hd2).mono ?_
    rintro e w2 ⟨rfl, hb2⟩
    have ht2 := ht1.below hb2 hlt1
    have HB := Lib.hid (hb.trans (hb2.mono hb.size))
    clear hb hb2 ht1
    go_wp2_with fail
    refine (implDegrees d _ hd1 hd2).mono ?_
    rintro e w' ⟨rfl, rfl⟩
    go_wp2_with fail
    refine (implSine _ _ ht2 (by omega) (by omega)).mono ?_
    rintro e w' ⟨rfl, rfl⟩
    go_wp2_with fail
    refine (implSine _ _ ht2 (by omega) (by omega)).mono ?_
    rintro e w' ⟨rfl, rfl⟩
    go_wp2_with fail
    refine (implCosine _ _ ht2 (by omega) (by omega)).mono ?_
    rintro e w' ⟨rfl, rfl⟩
    go_wp2_with fail
    refine (abs_ _ _ (by omega) (by omega)).mono ?_
    rintro e w' ⟨rfl, rfl⟩
    go_wp2
    go_ret
    exact ⟨rfl, HB.out⟩
end Go.Proofs.YtpiabkihbbfmoaaDoor
