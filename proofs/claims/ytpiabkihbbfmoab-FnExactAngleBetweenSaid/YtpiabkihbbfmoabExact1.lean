/- The exact laws of the chapter on angles that read no table: the program's function answers as the document's at every argument. -/
import Derived.Test.YtpiabkihbbfmoabBase
import Derived.OpenShut
namespace Go.Proofs.Ytpiabkihbbfmoab
open Go.RowKit
theorem bd64 {n : Int} (h : (Lit.int .i64 n).wf = true) : -9223372036854775808 ≤ n ∧ n ≤ 9223372036854775807 := bounds_i64 h
theorem walkFnExactAngleBetween (a b : Int) (w : World) (ha1 : -9223372036854775808 ≤ a) (ha2 : a ≤ 9223372036854775807) (hb1 : -9223372036854775808 ≤ b) (hb2 : b ≤ 9223372036854775807) :
    Calls Try.prog 3 #[.int .i64 a, .int .i64 b] w fun e w' => e = .returned (.bool true) ∧ w = w' := by
  have hb : (ang a b != ang a b) = false := by simp
  go_enter Try.func3, Try.ntmps3
  go_wp2_with fail
  refine (specAngleBetween a b _ ha1 ha2 hb1 hb2).mono ?_
  rintro e w' ⟨rfl, rfl⟩
  go_wp2_with fail
  refine (implAngleBetween a b _ ha1 ha2 hb1 hb2).mono ?_
  rintro e w' ⟨rfl, rfl⟩
  go_wp2
  go_ret
  exact ⟨rfl, rfl⟩
theorem walkFnExactTurnToward (a b s : Int) (w : World) (ha1 : -9223372036854775808 ≤ a) (ha2 : a ≤ 9223372036854775807) (hb1 : -9223372036854775808 ≤ b) (hb2 : b ≤ 9223372036854775807) :
    Calls Try.prog 4 #[.int .i64 a, .int .i64 b, .int .i64 s] w fun e w' => e = .returned (.bool true) ∧ w = w' := by
  have hb : (turnV a b s != turnV a b s) = false := by simp
  go_enter Try.func4, Try.ntmps4
  go_wp2_with fail
  refine (specTurnToward a b s _ ha1 ha2 hb1 hb2).mono ?_
  rintro e w' ⟨rfl, rfl⟩
  go_wp2_with fail
  refine (implTurnToward a b s _ ha1 ha2 hb1 hb2).mono ?_
  rintro e w' ⟨rfl, rfl⟩
  go_wp2
  go_ret
  exact ⟨rfl, rfl⟩
end Go.Proofs.Ytpiabkihbbfmoab
