/- A region's own boxes (out of Cs8 and Fxb, for seats without lists of points). -/
import Derived.Test.YtgnchgmbflkakaaZcPts
import Derived.Test.YtgnchgmbflkakaaZbInv
import Derived.WalkKit
namespace Go.Proofs.Ytgnchgmbflkakaa
set_option maxRecDepth 100000
open Go.RowKit
/-- Block b holds these cells. -/
def Cells8 (W : World) (b : Nat) (cs : Array Value) (t : TypeId) : Prop := W.heap[b]? = some (.cells cs t (0, 0))
theorem Cells8.lt {W : World} {b : Nat} {cs : Array Value} {t : TypeId} (h : Cells8 W b cs t) : b < W.heap.size := (Array.getElem?_eq_some_iff.1 h).1
theorem Cells8.cell {W : World} {b i : Nat} {cs : Array Value} {t : TypeId} {v : Value} (h : Cells8 W b cs t) (hv : cs[i]? = some v) : W.cell? ⟨b, i, none⟩ = some v := by
  simp [World.cell?, show W.heap[b]? = _ from h, hv]
theorem Cells8.frozen {W : World} {b i : Nat} {cs : Array Value} {t : TypeId} (h : Cells8 W b cs t) : W.frozen? ⟨b, i, none⟩ = false := by
  simp [World.frozen?, show W.heap[b]? = _ from h]
theorem Cells8.new (W : World) (cs : Array Value) (t : TypeId) : Cells8 (W.alloc (.cells cs t)) W.heap.size cs t := by
  show (W.heap.push _)[W.heap.size]? = _
  simp
theorem Cells8.next {W W' : World} {b : Nat} {cs : Array Value} {t : TypeId} (h : Cells8 W b cs t) (hb : Below W.heap.size W W') : Cells8 W' b cs t := (hb.block b h.lt).trans h
theorem Cells8.alloc {W : World} {b : Nat} {cs : Array Value} {t : TypeId} (h : Cells8 W b cs t) (o : Obj) : Cells8 (W.alloc o) b cs t := h.next (below_box W o)
theorem Cells8.set {W : World} {b : Nat} {cs : Array Value} {t : TypeId} (h : Cells8 W b cs t) (i : Nat) (v : Value) : Cells8 (W.setCell ⟨b, i, none⟩ v) b (cs.setIfInBounds i v) t := by
  obtain ⟨hlt, hk⟩ := Array.getElem?_eq_some_iff.1 h
  show (W.heap.modify b _)[b]? = _
  rw [Array.getElem?_eq_getElem (by rw [Array.size_modify]; exact hlt), Array.getElem_modify_self, hk]
  rfl
theorem Cells8.other {W : World} {b c i : Nat} {cs : Array Value} {t : TypeId} (h : Cells8 W b cs t) (hne : b ≠ c) (v : Value) : Cells8 (W.setCell ⟨c, i, none⟩ v) b cs t :=
  (Below.heap_setCell W ⟨c, i, none⟩ v b hne).trans h
/-- A box made behind n: its cells before and behind the store. -/
def NewB (n : Nat) (u : World) (lp : Bool) (z f : Array Value) (t : TypeId) (v : Value) : Prop := ∃ b, v = .pointer (some ⟨b, 0, none⟩) ∧ n ≤ b ∧ Cells8 u b (if lp then f else z) t
theorem NewB.new {n : Nat} {z f : Array Value} {t : TypeId} (u : World) (h : n ≤ u.heap.size) : NewB n (u.alloc (.cells z t)) false z f t (.pointer (some ⟨u.heap.size, 0, none⟩)) :=
  ⟨_, rfl, h, Cells8.new u z t⟩
theorem NewB.next {n : Nat} {u u' : World} {lp : Bool} {z f : Array Value} {t : TypeId} {v : Value} (h : NewB n u lp z f t v) (hb : Below u.heap.size u u') : NewB n u' lp z f t v := by
  obtain ⟨b, h1, h2, h3⟩ := h; exact ⟨b, h1, h2, h3.next hb⟩
theorem NewB.alloc {n : Nat} {u : World} {lp : Bool} {z f : Array Value} {t : TypeId} {v : Value} (h : NewB n u lp z f t v) (o : Obj) : NewB n (u.alloc o) lp z f t v := h.next (below_box u o)
theorem NewB.ne_new {n : Nat} {u : World} {lp : Bool} {z f : Array Value} {t : TypeId} {v : Value} (h : NewB n u lp z f t v) : v ≠ .pointer (some ⟨u.heap.size, 0, none⟩) := by
  obtain ⟨b, rfl, h2, h3⟩ := h
  intro e
  simp only [Value.pointer.injEq, Option.some.injEq, Addr.mk.injEq, and_true] at e
  have := h3.lt
  omega
theorem NewB.other {n : Nat} {u : World} {lp : Bool} {z f : Array Value} {t : TypeId} {v : Value} {c : Nat} (h : NewB n u lp z f t v) (hne : v ≠ .pointer (some ⟨c, 0, none⟩)) (i : Nat) (x : Value) : NewB n (u.setCell ⟨c, i, none⟩ x) lp z f t v := by
  obtain ⟨b, rfl, h2, h3⟩ := h
  exact ⟨b, rfl, h2, h3.other (fun e => hne (by rw [e])) x⟩
theorem NewB.put1' {n : Nat} {u : World} {z0 : Value} {f : Array Value} {t : TypeId} {b : Nat} (hb : n ≤ b) (h : Cells8 u b (if false = true then f else #[z0]) t) (x : Value) (hf : f = #[x]) : NewB n (u.setCell ⟨b, 0, none⟩ x) true #[z0] f t (.pointer (some ⟨b, 0, none⟩)) := by
  subst hf
  exact ⟨b, rfl, hb, Cells8.set (cs := #[z0]) h 0 x⟩
theorem NewB.put2' {n : Nat} {u : World} {z0 z1 : Value} {f : Array Value} {t : TypeId} {b : Nat} (hb : n ≤ b) (h : Cells8 u b (if false = true then f else #[z0, z1]) t) (x y : Value) (hf : f = #[x, y]) : NewB n ((u.setCell ⟨b, 0, none⟩ x).setCell ⟨b, 1, none⟩ y) true #[z0, z1] f t (.pointer (some ⟨b, 0, none⟩)) := by
  subst hf
  exact ⟨b, rfl, hb, Cells8.set (cs := #[x, z1]) (Cells8.set (cs := #[z0, z1]) h 0 x) 1 y⟩
theorem NewB.done {n : Nat} {u : World} {lp : Bool} {z f : Array Value} {t : TypeId} {v : Value} (hl : lp = true) (h : NewB n u lp z f t v) : ∃ b, v = .pointer (some ⟨b, 0, none⟩) ∧ n ≤ b ∧ Cells8 u b f t := by
  subst hl; exact h
end Go.Proofs.Ytgnchgmbflkakaa
