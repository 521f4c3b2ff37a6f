/- The walks of the exact laws on the gripper. -/
import Derived.Test.YtdklplohboeifaaGc12
namespace Go.Proofs.Ytdklplohboeifaa
set_option maxRecDepth 100000
open Go.RowKit
attribute [local go_sem ↓] Go.wp_at_zero Go.wp_at_succ
theorem walkFnExactGripStep (x t s o : Int) (w : World) :
    Calls Try.prog 7 #[.int .i64 x, .int .i64 t, .int .i64 s, .int .i64 o] w fun e w' => e = .returned (.bool true) ∧ Below w.heap.size w w' := by
  have HS := Lib.hid (fun w => specGripStep x t s o w)
  have HI := Lib.hid (fun w => implGripStep x t s o w)
  generalize gripV x t s o = n at *
  generalize gripH x t s o = b at *
  have e1 : (n != n) = false := by simp
  have e2 : (b != b) = false := by simp
  go_enter Try.func7, Try.ntmps7
  go_wp2_with fail
  refine (HS.out _).mono ?_
  rintro e w' ⟨rfl, rfl⟩
  go_wp2_with fail
  refine (HI.out _).mono ?_
  rintro e w' ⟨rfl, B⟩
  replace B := Lib.hid B
  go_wp2
  go_ret
  exact ⟨rfl, B.out⟩
theorem walkFnExactGripTime (x t s o : Int) (w : World) :
    Calls Try.prog 8 #[.int .i64 x, .int .i64 t, .int .i64 s, .int .i64 o] w fun e w' => e = .returned (.bool true) ∧ Below w.heap.size w w' := by
  have HS := Lib.hid (fun w => specGripTime x t s o w)
  have HI := Lib.hid (fun w => implGripTime x t s o w)
  generalize gripTV x t s o = n at *
  have e1 : (n != n) = false := by simp
  go_enter Try.func8, Try.ntmps8
  go_wp2_with fail
  refine (HS.out _).mono ?_
  rintro e w' ⟨rfl, rfl⟩
  go_wp2_with fail
  refine (HI.out _).mono ?_
  rintro e w' ⟨rfl, B⟩
  replace B := Lib.hid B
  go_wp2
  go_ret
  exact ⟨rfl, B.out⟩
theorem walkFnExactHoldsWeight (f u x : Int) (w : World) :
    Calls Try.prog 9 #[.int .i64 f, .int .i64 u, .int .i64 x] w fun e w' => e = .returned (.bool true) ∧ Below w.heap.size w w' := by
  have HS := Lib.hid (fun w => specHoldsWeight f u x w)
  have HI := Lib.hid (fun w => implHoldsWeight f u x w)
  generalize holdV f u x = b at *
  have e1 : (b != b) = false := by simp
  go_enter Try.func9, Try.ntmps9
  go_wp2_with fail
  refine (HS.out _).mono ?_
  rintro e w' ⟨rfl, rfl⟩
  go_wp2_with fail
  refine (HI.out _).mono ?_
  rintro e w' ⟨rfl, rfl⟩
  go_wp2
  go_ret
  exact ⟨rfl, Below.refl _ _⟩
end Go.Proofs.Ytdklplohboeifaa
