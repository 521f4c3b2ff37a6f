/- The walks of the exact laws of RotatePoint and DirectionOf: each returns true at every argument, wherever the program's table lies as its text lays it. -/
import Derived.Test.YtlajpeoadgfobaaDoorDir
import Derived.OpenShut
namespace Go.Proofs.YtlajpeoadgfobaaDoor
set_option maxRecDepth 100000
open Go.RowKit
theorem bd64 {n : Int} (h : (Lit.int .i64 n).wf = true) : -9223372036854775808 ≤ n ∧ n ≤ 9223372036854775807 := bounds_i64 h
theorem walkFnExactRotatePoint (x y d : Int) (w : World) (ht : TabAt w) (h1 : -9223372036854775808 ≤ d) (h2 : d ≤ 9223372036854775807) :
    Calls Tryd.prog 4 #[pt x y, .int .i64 d] w fun e w' => e = .returned (.bool true) ∧ Below w.heap.size w w' := by
  have HB := Lib.hid (below_box w (.cells #[.int .i64 x, .int .i64 y] 32))
  have P := AtP.box w x y 32
  have HT := Lib.hid ht
  clear ht
  go_enter Tryd.func4, Tryd.ntmps4
  go_wp2_with fail
  refine (toPoint x y _).mono ?_
  rintro e w1 ⟨rfl, B1⟩
  replace P := P.next B1
  replace HB := Lib.hid (below_call HB.out B1)
  go_wp2_with fail
  refine (specRotatePoint x y d _ h1 h2).mono ?_
  rintro e w2 ⟨rfl, B2⟩
  replace P := (P.next B2).alloc (.cells #[.int .i64 (rotX x y d), .int .i64 (rotY x y d)] 24)
  have Q := AtP.box w2 (rotX x y d) (rotY x y d) 24
  replace HB := Lib.hid (below_call (below_call HB.out B2) (below_box w2 (.cells #[.int .i64 (rotX x y d), .int .i64 (rotY x y d)] 24)))
  obtain ⟨p1, p2, p3⟩ := id P
  clear B1 B2
  go_wp2_with fail
  refine (toPoint x y _).mono ?_
  rintro e w3 ⟨rfl, B3⟩
  replace Q := Q.next B3
  replace HB := Lib.hid (below_call HB.out B3)
  clear p1 p2 p3 P
  go_wp2_with fail
  refine (implRotatePoint x y d _ (HT.out.below HB.out HT.out.lt) h1 h2).mono ?_
  rintro e w4 ⟨rfl, B4⟩
  replace Q := (Q.next B4).alloc (.cells #[.int .i64 (rotX x y d), .int .i64 (rotY x y d)] 24)
  replace HB := Lib.hid (below_call (below_call HB.out B4) (below_box w4 (.cells #[.int .i64 (rotX x y d), .int .i64 (rotY x y d)] 24)))
  obtain ⟨q1, q2, q3⟩ := Q
  clear B3 B4
  go_wp2_with fail
  refine (eqPoint _ _ _).mono ?_
  rintro e w5 ⟨rfl, B5⟩
  replace HB := Lib.hid (below_call HB.out B5)
  go_wp2
  go_ret
  exact ⟨rfl, HB.out⟩
end Go.Proofs.YtlajpeoadgfobaaDoor
