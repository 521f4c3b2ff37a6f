/- The contracts of SquareRoot, the program's and the document's: the largest number whose square is at most n, and 0 out of range. -/
import Derived.Test.YtgpoknehbadddaaBase
namespace Go.Proofs.Ytgpoknehbadddaa
set_option maxRecDepth 100000
open Go.RowKit

theorem sq_bd (m : Int) (h0 : 0 ≤ m) (h1 : m ≤ 1000001) : 0 ≤ m * m ∧ m * m ≤ 1000002000001 := by
  constructor
  · exact Int.mul_nonneg h0 h0
  · have := Int.mul_le_mul h1 h1 h0 (by omega); omega
theorem implSquareRoot (n : Int) (w : World) :
    Calls Try.prog 23 #[.int .i64 n] w fun e w' => e = .returned (.int .i64 (rootV n)) ∧ w = w' := by
  by_cases h0 : 0 ≤ n
  · by_cases h1 : n ≤ 1000000000000
    · have HN := Lib.hid (show n < (1000000 + 1) * (1000000 + 1) by omega)
      go_enter Try.func23, Try.ntmps23
      go_wp2
      go_loop [3, 4] (fun t u => ∃ a b : Int, t = .int .i64 a ∧ u = .int .i64 b ∧ 0 ≤ a ∧ a ≤ b ∧ b ≤ 1000000 ∧ a * a ≤ n ∧ Hid (n < (b + 1) * (b + 1))) (fun t u => (intOf u - intOf t).toNat)
      case atStart => exact ⟨0, 1000000, rfl, rfl, by omega, by omega, by omega, by omega, HN⟩
      case round =>
        clear HN
        obtain ⟨a, b, rfl, rfl, ha, hab, hb, ha2, HB⟩ := hrel
        by_cases hlt : a < b
        · have hsq := sq_bd ((a + b + 1) / 2) (by omega) (by omega)
          obtain ⟨hs0, hs1⟩ := hsq
          go_wp2
          · go_round
            case rel => exact ⟨(a + b + 1) / 2, b, rfl, rfl, by omega, by omega, by omega, by assumption, HB⟩
            case measure => simp [intOf]; omega
          · have hgt : n < (a + b + 1) / 2 * ((a + b + 1) / 2) := by assumption
            go_round
            case rel => exact ⟨a, (a + b + 1) / 2 - 1, rfl, rfl, by omega, by omega, by omega, ha2, Lib.hid (by rw [show (a + b + 1) / 2 - 1 + 1 = (a + b + 1) / 2 by omega]; exact hgt)⟩
            case measure => simp [intOf]; omega
        · have hE : a = b := by omega
          have HR := Lib.hid (rootV_of n a h0 h1 ha ha2 (by rw [hE]; exact HB.out))
          clear hE
          go_wp2
          go_ret
          exact ⟨ret_int HR.out.symm, rfl⟩
    · have HR := Lib.hid (rootV_out n (by omega))
      go_enter Try.func23, Try.ntmps23
      go_wp2
      go_ret
      exact ⟨ret_int HR.out.symm, rfl⟩
  · have HR := Lib.hid (rootV_out n (by omega))
    go_enter Try.func23, Try.ntmps23
    go_wp2
    go_ret
    exact ⟨ret_int HR.out.symm, rfl⟩
end Go.Proofs.Ytgpoknehbadddaa
