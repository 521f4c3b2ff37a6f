/- A law's argument that is a slice of points: opened; measured and copied by the laws' own helpers. -/
import Derived.Test.YtkogoflcacameaaGreatDoorZbRow
import Derived.Test.YtkogoflcacameaaGreatDoorZbNum
import Derived.OpenShut
import Derived.Lib.SmallJoins
import Derived.Deep.SlicePairs
namespace Go.Proofs.YtkogoflcacameaaGreatDoor
set_option maxRecDepth 100000
open Go.ChangeShapes Go.WideShapes Go.ChangeAt Go.RowKit Go.Joins
attribute [local go_sem ↓] Go.wp_at_zero Go.wp_at_succ
/-- A slice reads as the points ps, wherever in its block it begins. -/
def PtsIn (w : World) (a : Option Addr) (len : Nat) (ps : List (Int × Int)) : Prop :=
  len = ps.length ∧ (ps = [] ∨ ∃ b off, a = some ⟨b, off, none⟩ ∧ b < w.heap.size ∧ ∀ i, i < ps.length → w.cell? ⟨b, off + i * 2, none⟩ = some (.int .i64 (pX ps i)) ∧ w.cell? ⟨b, off + i * 2 + 1, none⟩ = some (.int .i64 (pY ps i)))
theorem PtsIn.next {w w' : World} {a : Option Addr} {len : Nat} {ps : List (Int × Int)} (h : PtsIn w a len ps) (hb : Below w.heap.size w w') : PtsIn w' a len ps :=
  ⟨h.1, h.2.imp id fun ⟨b, off, h1, h2, h3⟩ => ⟨b, off, h1, Nat.lt_of_lt_of_le h2 hb.size, fun i hi => ⟨(hb.cell (p := ⟨b, off + i * 2, none⟩) h2).trans (h3 i hi).1, (hb.cell (p := ⟨b, off + i * 2 + 1, none⟩) h2).trans (h3 i hi).2⟩⟩⟩
/-- The coordinates fit. -/
def FitP (ps : List (Int × Int)) : Prop := ∀ i, (-9223372036854775808 ≤ pX ps i ∧ pX ps i ≤ 9223372036854775807) ∧ -9223372036854775808 ≤ pY ps i ∧ pY ps i ≤ 9223372036854775807
theorem ptsMk7 (f g : Nat → Int) (n i : Nat) (h : i < n) : pX ((List.range n).map fun (k : Nat) => (f k, g k)) i = f i ∧ pY ((List.range n).map fun (k : Nat) => (f k, g k)) i = g i := by
  unfold pX pY
  rw [List.getD_eq_getElem?_getD, List.getElem?_map, List.getElem?_range h]
  exact ⟨rfl, rfl⟩
end Go.Proofs.YtkogoflcacameaaGreatDoor
