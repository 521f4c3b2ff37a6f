/- The walk of the law FnExactArmValid: it returns true at every arm, once the program's ArmValid answers by the document's rule. -/
import Derived.Test.YtooipdmckbehnaaDoorArm3
import Derived.Test.YtooipdmckbehnaaDoorOpen3
import Derived.Deep.RegionHeld3
namespace Go.Proofs.YtooipdmckbehnaaDoor
set_option maxRecDepth 100000
open Go.RowKit
attribute [local go_sem ↓] Go.wp_at_zero Go.wp_at_succ
theorem specArmValid (x y z : Sl) (ls lo hi : List Int) (w : World) (hx : IntsAt w x.a x.len ls) (hy : IntsAt w y.a y.len lo) (hz : IntsAt w z.a z.len hi) (bx : x.len ≤ 9223372036854775807) (b_y : y.len ≤ 9223372036854775807) (bz : z.len ≤ 9223372036854775807) :
    Calls Tryd.prog 45 #[av x y z] w fun e w' => e = .returned (.bool (decide (okArm ls lo hi))) ∧ Below w.heap.size w w' := by
  by_cases h : okArm ls lo hi
  · rw [decide_eq_true h]; exact specArmValidY x y z ls lo hi w hx hy hz h
  · rw [decide_eq_false h]; exact specArmValidN x y z ls lo hi w hx hy hz h bx b_y bz
theorem NewArm.ints {w : World} {B : Nat} {x y z : Sl} {ls lo hi : List Int} (h : NewArm w B x y z ls lo hi) : IntsAt w x.a x.len ls ∧ IntsAt w y.a y.len lo ∧ IntsAt w z.a z.len hi := ⟨h.ox.ints, h.oy.ints, h.oz.ints⟩
end Go.Proofs.YtooipdmckbehnaaDoor
