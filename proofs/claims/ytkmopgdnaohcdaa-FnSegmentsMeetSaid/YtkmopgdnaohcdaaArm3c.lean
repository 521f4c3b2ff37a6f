/- Clamped angles: the contract of the document's ClampJoints. -/
import Derived.Test.YtkmopgdnaohcdaaArm3b
import Derived.Deep.AppendLies
import Derived.Deep.RegionHeld3
namespace Go.Proofs.Ytkmopgdnaohcdaa
set_option maxRecDepth 100000
open Go.RowKit
attribute [local go_sem ↓] Go.wp_at_zero Go.wp_at_succ

/-- The nearest number in o..h. -/
def clip (d o h : Int) : Int := max o (min h d)
/-- The clamped angles. -/
def clampL (lo hi js : List Int) : List Int := (List.range js.length).map fun (k : Nat) => clip (js.getD k 0) (lo.getD k 0) (hi.getD k 0)
theorem clampL_len (lo hi js : List Int) : (clampL lo hi js).length = js.length := by simp [clampL]
theorem clampL_at (lo hi js : List Int) (k : Nat) (h : k < js.length) : (clampL lo hi js)[k]? = some (clip (js.getD k 0) (lo.getD k 0) (hi.getD k 0)) := by
  unfold clampL; rw [List.getElem?_map, List.getElem?_range h]; rfl
theorem take_next (zs : List Int) (k : Nat) (z : Int) (h : zs[k]? = some z) : vals (zs.take (k + 1)) = vals (zs.take k) ++ [Value.int .i64 z] := by
  have hl : k < zs.length := (List.getElem?_eq_some_iff.1 h).1
  have e : zs[k] = z := (List.getElem?_eq_some_iff.1 h).2
  rw [List.take_succ_eq_append_getElem hl, e]; simp
theorem World.ownsRow_down {w : World} {base base' : Nat} {e : TypeId} {size : Nat} {v : Value} {n : Nat} {xs : List Value} (h : w.ownsRow base e size v n xs) (hb : base' ≤ base) : w.ownsRow base' e size v n xs :=
  ⟨h.1, h.2.imp id fun ⟨g, cap, cur, hv, hg, rest⟩ => ⟨g, cap, cur, hv, Nat.le_trans hb hg, rest⟩⟩
theorem below_drew' (w : World) : Below w.heap.size w w.drew := (Below.refl _ _).drew
end Go.Proofs.Ytkmopgdnaohcdaa
