/- The contracts of DirectionOf, of the program and of the document. -/
import Derived.Test.YtlajpeoadgfobaaDoorRot
import Derived.Test.YtlajpeoadgfobaaDoorNum2d
import Derived.Deep.RegionHeld3
namespace Go.Proofs.YtlajpeoadgfobaaDoor
set_option maxRecDepth 100000
open Go.RowKit
attribute [local go_sem ↓] Go.wp_at_zero Go.wp_at_succ
theorem specCosineR (d : Int) (w0 w : World) (hw : Below w0.heap.size w0 w) (h1 : -9223372036854775808 ≤ d) (h2 : d ≤ 9223372036854775807) :
    Calls Tryd.prog 42 #[.int .i64 d] w fun e w' => e = .returned (.int .i64 (cosV d)) ∧ Below w0.heap.size w0 w' :=
  (specCosine d w h1 h2).mono fun _ _ ⟨he, hb⟩ => ⟨he, below_call hw hb⟩
theorem specSineR (d : Int) (w0 w : World) (hw : Below w0.heap.size w0 w) (h1 : -9223372036854775808 ≤ d) (h2 : d ≤ 9223372036854775807) :
    Calls Tryd.prog 41 #[.int .i64 d] w fun e w' => e = .returned (.int .i64 (sinV d)) ∧ Below w0.heap.size w0 w' :=
  (specSine d w h1 h2).mono fun _ _ ⟨he, hb⟩ => ⟨he, below_call hw hb⟩
theorem wraps {x y : Int} (hp : okP x y) (d : Int) : IntKind.i64.wrap (x * cosV d) = x * cosV d ∧ IntKind.i64.wrap (y * sinV d) = y * sinV d ∧ IntKind.i64.wrap (x * cosV d + y * sinV d) = x * cosV d + y * sinV d := by
  obtain ⟨h1, h2, h3, h4⟩ := hp
  obtain ⟨c0, c1⟩ := cosV_bd d
  obtain ⟨s0, s1⟩ := sinV_bd d
  obtain ⟨p1, p2⟩ := prod_bd h1 h2 c0 c1
  obtain ⟨p3, p4⟩ := prod_bd h3 h4 s0 s1
  exact ⟨wrap_in (by omega) (by omega), wrap_in (by omega) (by omega), wrap_in (by omega) (by omega)⟩
end Go.Proofs.YtlajpeoadgfobaaDoor
