/- The exact laws of the chapter on angles that read no table: the program's function answers as the document's at every argument. -/
import Derived.Test.YtpiabkihbbfmoaaBase
import Derived.Test.YtpiabkihbbfmoaaRoot
import Derived.OpenShut
namespace Go.Proofs.Ytpiabkihbbfmoaa
open Go.RowKit
theorem bd64 {n : Int} (h : (Lit.int .i64 n).wf = true) : -9223372036854775808 ≤ n ∧ n ≤ 9223372036854775807 := bounds_i64 h
theorem walkFnExactDegrees (a : Int) (w : World) (h1 : -9223372036854775808 ≤ a) (h2 : a ≤ 9223372036854775807) :
    Calls Try.prog 9 #[.int .i64 a] w fun e w' => e = .returned (.bool true) ∧ w = w' := by
  have hb : (deg a != deg a) = false := by simp
  go_enter Try.func9, Try.ntmps9
  go_wp2_with fail
  refine (specDegrees a _ h1 h2).mono ?_
  rintro e w' ⟨rfl, rfl⟩
  go_wp2_with fail
  refine (implDegrees a _ h1 h2).mono ?_
  rintro e w' ⟨rfl, rfl⟩
  go_wp2
  go_ret
  exact ⟨rfl, rfl⟩
theorem walkFnExactSquareRoot (a : Int) (w : World) :
    Calls Try.prog 10 #[.int .i64 a] w fun e w' => e = .returned (.bool true) ∧ w = w' := by
  have hb : (rootV a != rootV a) = false := by simp
  go_enter Try.func10, Try.ntmps10
  go_wp2_with fail
  refine (specSquareRoot a _).mono ?_
  rintro e w' ⟨rfl, rfl⟩
  go_wp2_with fail
  refine (implSquareRoot a _).mono ?_
  rintro e w' ⟨rfl, rfl⟩
  go_wp2
  go_ret
  exact ⟨rfl, rfl⟩
end Go.Proofs.Ytpiabkihbbfmoaa
