/- A block whose cells are known. -/
import Derived.Test.YtkogoflcacameaaPts
import Derived.WalkKit
namespace Go.Proofs.Ytkogoflcacameaa
set_option maxRecDepth 100000
open Go.RowKit
/-- Block b holds these cells. -/
def Cells8 (W : World) (b : Nat) (cs : Array Value) (t : TypeId) : Prop := W.heap[b]? = some (.cells cs t (0, 0))
theorem Cells8.lt {W : World} {b : Nat} {cs : Array Value} {t : TypeId} (h : Cells8 W b cs t) : b < W.heap.size := (Array.getElem?_eq_some_iff.1 h).1
theorem Cells8.cell {W : World} {b i : Nat} {cs : Array Value} {t : TypeId} {v : Value} (h : Cells8 W b cs t) (hv : cs[i]? = some v) : W.cell? ⟨b, i, none⟩ = some v := by
  simp [World.cell?, show W.heap[b]? = _ from h, hv]
theorem Cells8.frozen {W : World} {b i : Nat} {cs : Array Value} {t : TypeId} (h : Cells8 W b cs t) : W.frozen? ⟨b, i, none⟩ = false := by
  simp [World.frozen?, show W.heap[b]? = _ from h]
theorem Cells8.new (W : World) (cs : Array Value) (t : TypeId) : Cells8 (W.alloc (.cells cs t)) W.heap.size cs t := by
  show (W.heap.push _)[W.heap.size]? = _
  simp
theorem Cells8.next {W W' : World} {b : Nat} {cs : Array Value} {t : TypeId} (h : Cells8 W b cs t) (hb : Below W.heap.size W W') : Cells8 W' b cs t := (hb.block b h.lt).trans h
theorem Cells8.alloc {W : World} {b : Nat} {cs : Array Value} {t : TypeId} (h : Cells8 W b cs t) (o : Obj) : Cells8 (W.alloc o) b cs t := h.next (below_box W o)
theorem Cells8.set {W : World} {b : Nat} {cs : Array Value} {t : TypeId} (h : Cells8 W b cs t) (i : Nat) (v : Value) : Cells8 (W.setCell ⟨b, i, none⟩ v) b (cs.setIfInBounds i v) t := by
  obtain ⟨hlt, hk⟩ := Array.getElem?_eq_some_iff.1 h
  show (W.heap.modify b _)[b]? = _
  rw [Array.getElem?_eq_getElem (by rw [Array.size_modify]; exact hlt), Array.getElem_modify_self, hk]
  rfl
theorem Cells8.other {W : World} {b c i : Nat} {cs : Array Value} {t : TypeId} (h : Cells8 W b cs t) (hne : b ≠ c) (v : Value) : Cells8 (W.setCell ⟨c, i, none⟩ v) b cs t :=
  (Below.heap_setCell W ⟨c, i, none⟩ v b hne).trans h
end Go.Proofs.Ytkogoflcacameaa
