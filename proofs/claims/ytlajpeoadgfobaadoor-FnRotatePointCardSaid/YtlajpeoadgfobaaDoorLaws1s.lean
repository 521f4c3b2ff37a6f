/- The walks of the laws on sines and cosines: each returns true at every argument, wherever the program's table lies as its text lays it. -/
import Derived.Test.YtlajpeoadgfobaaDoorTab
import Derived.Test.YtlajpeoadgfobaaDoorDraw1
namespace Go.Proofs.YtlajpeoadgfobaaDoor
set_option maxRecDepth 100000
open Go.RowKit
theorem bd64 {n : Int} (h : (Lit.int .i64 n).wf = true) : -9223372036854775808 ≤ n ∧ n ≤ 9223372036854775807 := bounds_i64 h
theorem abs_ (n : Int) (w : World) (h0 : -1000000000 ≤ n) (h1 : n ≤ 1000000000) :
    Calls Tryd.prog 13 #[.int .i64 n] w fun e w' => e = .returned (.int .i64 (absV n)) ∧ w = w' := by
  have HE := Lib.hid (show absV n = max n (-n) from rfl)
  go_enter Tryd.func13, Tryd.ntmps13
  go_wp2
  all_goals
    go_ret
    exact ⟨ret_int (by rw [HE.out]; omega), rfl⟩
end Go.Proofs.YtlajpeoadgfobaaDoor
