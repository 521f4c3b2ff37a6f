/- The walk of the law FnExactArmValid: it returns true at every arm, once the program's ArmValid answers by the document's rule. -/
import Derived.Test.YtolkihibjabmhaaDoorArm3
import Derived.Test.YtolkihibjabmhaaDoorOpen3
import Derived.Deep.RegionHeld3
namespace Go.Proofs.YtolkihibjabmhaaDoor
set_option maxRecDepth 100000
open Go.RowKit
attribute [local go_sem ↓] Go.wp_at_zero Go.wp_at_succ
theorem specArmValid (x y z : Sl) (ls lo hi : List Int) (w : World) (hx : IntsAt w x.a x.len ls) (hy : IntsAt w y.a y.len lo) (hz : IntsAt w z.a z.len hi) (bx : x.len ≤ 9223372036854775807) (b_y : y.len ≤ 9223372036854775807) (bz : z.len ≤ 9223372036854775807) :
    Calls Tryd.prog 60 #[av x y z] w fun e w' => e = .returned (.bool (decide (okArm ls lo hi))) ∧ Below w.heap.size w w' := by
  by_cases h : okArm ls lo hi
  · rw [decide_eq_true h]; exact specArmValidY x y z ls lo hi w hx hy hz h
  · rw [decide_eq_false h]; exact specArmValidN x y z ls lo hi w hx hy hz h bx b_y bz
theorem NewArm.ints {w : World} {B : Nat} {x y z : Sl} {ls lo hi : List Int} (h : NewArm w B x y z ls lo hi) : IntsAt w x.a x.len ls ∧ IntsAt w y.a y.len lo ∧ IntsAt w z.a z.len hi := ⟨h.ox.ints, h.oy.ints, h.oz.ints⟩
theorem keepA {w u : World} {b c : Nat} {x y z x2 y2 z2 : Value} (h : Below w.heap.size w u) (A : AtA w b x y z) (B : AtA w c x2 y2 z2) :
    u.cell? ⟨b, 0, none⟩ = some x ∧ u.cell? ⟨b, 1, none⟩ = some y ∧ u.cell? ⟨b, 2, none⟩ = some z ∧ u.cell? ⟨c, 0, none⟩ = some x2 ∧ u.cell? ⟨c, 1, none⟩ = some y2 ∧ u.cell? ⟨c, 2, none⟩ = some z2 :=
  ⟨(A.next h).c0, (A.next h).c1, (A.next h).c2, (B.next h).c0, (B.next h).c1, (B.next h).c2⟩
theorem toArmR (x y z : Sl) (ls lo hi : List Int) (w0 w : World) (hw : Below w0.heap.size w0 w) (hx : IntsAt w0 x.a x.len ls) (hy : IntsAt w0 y.a y.len lo) (hz : IntsAt w0 z.a z.len hi) (lx : x.len ≤ 1048576) (ly : y.len ≤ 1048576) (lz : z.len ≤ 1048576) :
    Calls Tryd.prog 23 #[av x y z] w fun e w' => ∃ x2 y2 z2 : Sl, e = .returned (av x2 y2 z2) ∧ IntsAt w' x2.a x2.len ls ∧ IntsAt w' y2.a y2.len lo ∧ IntsAt w' z2.a z2.len hi ∧ Below w0.heap.size w0 w' :=
  (toArm x y z ls lo hi w (hx.next hw) (hy.next hw) (hz.next hw) lx ly lz).mono fun _ _ ⟨x2, y2, z2, he, _, _, _, hN, hb⟩ => ⟨x2, y2, z2, he, hN.ints.1, hN.ints.2.1, hN.ints.2.2, below_call hw hb⟩
theorem eqArmR (x y z x2 y2 z2 : Sl) (ls lo hi : List Int) (w0 w : World) (hw : Below w0.heap.size w0 w) (hx : IntsAt w x.a x.len ls) (hy : IntsAt w y.a y.len lo) (hz : IntsAt w z.a z.len hi) (hx2 : IntsAt w x2.a x2.len ls) (hy2 : IntsAt w y2.a y2.len lo) (hz2 : IntsAt w z2.a z2.len hi)
    (bx : x.len ≤ 9223372036854775807) (b_y : y.len ≤ 9223372036854775807) (bz : z.len ≤ 9223372036854775807) :
    Calls Tryd.prog 26 #[av x y z, av x2 y2 z2] w fun e w' => e = .returned (.bool true) ∧ Below w0.heap.size w0 w' :=
  (eqArm x y z x2 y2 z2 ls lo hi w hx hy hz hx2 hy2 hz2 bx b_y bz).mono fun _ _ ⟨he, hb⟩ => ⟨he, below_call hw hb⟩
end Go.Proofs.YtolkihibjabmhaaDoor
