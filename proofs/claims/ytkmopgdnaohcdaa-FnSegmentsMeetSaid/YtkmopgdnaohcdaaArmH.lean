/- Arms as values: three slices of whole numbers; the contracts of the laws' own helpers over them. -/
import Derived.Test.YtkmopgdnaohcdaaInts
namespace Go.Proofs.Ytkmopgdnaohcdaa
set_option maxRecDepth 100000
open Go.RowKit

/-- A slice. -/
structure Sl where
  a : Option Addr
  len : Nat
  cap : Nat
/-- An arm's value. -/
abbrev av (x y z : Sl) : Value := .agg #[.slice x.a x.len x.cap, .slice y.a y.len y.cap, .slice z.a z.len z.cap]
/-- An arm lies in block b, of the call's own. -/
structure AtA (w : World) (b : Nat) (x y z : Value) : Prop where
  lt : b < w.heap.size
  c0 : w.cell? ⟨b, 0, none⟩ = some x
  c1 : w.cell? ⟨b, 1, none⟩ = some y
  c2 : w.cell? ⟨b, 2, none⟩ = some z
  z0 : w.frozen? ⟨b, 0, none⟩ = false
  z1 : w.frozen? ⟨b, 1, none⟩ = false
  z2 : w.frozen? ⟨b, 2, none⟩ = false
theorem AtA.next {w w' : World} {b : Nat} {x y z : Value} (h : AtA w b x y z) (hb : Below w.heap.size w w') : AtA w' b x y z :=
  ⟨Nat.lt_of_lt_of_le h.lt hb.size, by rw [hb.cell (p := ⟨b, 0, none⟩) h.lt]; exact h.c0, by rw [hb.cell (p := ⟨b, 1, none⟩) h.lt]; exact h.c1, by rw [hb.cell (p := ⟨b, 2, none⟩) h.lt]; exact h.c2,
    (hb.frozen (p := ⟨b, 0, none⟩) h.lt).trans h.z0, (hb.frozen (p := ⟨b, 1, none⟩) h.lt).trans h.z1, (hb.frozen (p := ⟨b, 2, none⟩) h.lt).trans h.z2⟩
theorem AtA.kept {w w' : World} {b : Nat} {x y z : Value} {row : Option Nat} (h : AtA w b x y z) (hg : w.grownBy w' row) (hne : some b ≠ row) : AtA w' b x y z :=
  have e := hg.block b h.lt hne
  ⟨Nat.lt_of_lt_of_le h.lt hg.size, (World.cell?_of_block (a := ⟨b, 0, none⟩) e).trans h.c0, (World.cell?_of_block (a := ⟨b, 1, none⟩) e).trans h.c1, (World.cell?_of_block (a := ⟨b, 2, none⟩) e).trans h.c2,
    (World.frozen?_of_block (a := ⟨b, 0, none⟩) e).trans h.z0, (World.frozen?_of_block (a := ⟨b, 1, none⟩) e).trans h.z1, (World.frozen?_of_block (a := ⟨b, 2, none⟩) e).trans h.z2⟩
theorem AtA.box (w : World) (x y z : Value) (t : Nat) : AtA (w.alloc (.cells #[x, y, z] t)) w.heap.size x y z :=
  ⟨by simp, by simp, by simp, by simp, World.frozen?_alloc_at _ _ _ _ rfl, World.frozen?_alloc_at _ _ _ _ rfl, World.frozen?_alloc_at _ _ _ _ rfl⟩
theorem AtA.alloc {w : World} {b : Nat} {x y z : Value} (h : AtA w b x y z) (o : Obj) : AtA (w.alloc o) b x y z := h.next (below_box w o)
theorem AtA.far {w : World} {b c o : Nat} {x y z : Value} (h : AtA w b x y z) (hc : c ≠ b) (v : Value) : AtA (w.setCell ⟨c, o, none⟩ v) b x y z :=
  ⟨by simpa [World.setCell] using h.lt, (World.cell?_setCell_far _ _ _ _ hc).trans h.c0, (World.cell?_setCell_far _ _ _ _ hc).trans h.c1, (World.cell?_setCell_far _ _ _ _ hc).trans h.c2,
    (World.frozen?_setCell _ _ _ _).trans h.z0, (World.frozen?_setCell _ _ _ _).trans h.z1, (World.frozen?_setCell _ _ _ _).trans h.z2⟩
theorem AtA.put0 {w : World} {b : Nat} {x y z : Value} (h : AtA w b x y z) (u : Value) : AtA (w.setCell ⟨b, 0, none⟩ u) b u y z :=
  ⟨by simpa [World.setCell] using h.lt, World.cell?_setCell_same _ _ _ h.c0, (World.cell?_setCell_other _ _ _ _ (by simp)).trans h.c1, (World.cell?_setCell_other _ _ _ _ (by simp)).trans h.c2,
    (World.frozen?_setCell _ _ _ _).trans h.z0, (World.frozen?_setCell _ _ _ _).trans h.z1, (World.frozen?_setCell _ _ _ _).trans h.z2⟩
theorem AtA.put1 {w : World} {b : Nat} {x y z : Value} (h : AtA w b x y z) (u : Value) : AtA (w.setCell ⟨b, 1, none⟩ u) b x u z :=
  ⟨by simpa [World.setCell] using h.lt, (World.cell?_setCell_other _ _ _ _ (by simp)).trans h.c0, World.cell?_setCell_same _ _ _ h.c1, (World.cell?_setCell_other _ _ _ _ (by simp)).trans h.c2,
    (World.frozen?_setCell _ _ _ _).trans h.z0, (World.frozen?_setCell _ _ _ _).trans h.z1, (World.frozen?_setCell _ _ _ _).trans h.z2⟩
theorem AtA.put2 {w : World} {b : Nat} {x y z : Value} (h : AtA w b x y z) (u : Value) : AtA (w.setCell ⟨b, 2, none⟩ u) b x y u :=
  ⟨by simpa [World.setCell] using h.lt, (World.cell?_setCell_other _ _ _ _ (by simp)).trans h.c0, (World.cell?_setCell_other _ _ _ _ (by simp)).trans h.c1, World.cell?_setCell_same _ _ _ h.c2,
    (World.frozen?_setCell _ _ _ _).trans h.z0, (World.frozen?_setCell _ _ _ _).trans h.z1, (World.frozen?_setCell _ _ _ _).trans h.z2⟩
/-- A fresh arm that reads as the three lists: its rows are of the call's own, no block of them lies below B, and no two are the same. -/
structure NewArm (w : World) (B : Nat) (x y z : Sl) (ls lo hi : List Int) : Prop where
  ox : OwnI w B (.slice x.a x.len x.cap) ls
  oy : OwnI w B (.slice y.a y.len y.cap) lo
  oz : OwnI w B (.slice z.a z.len z.cap) hi
  bx : ∃ g, x.a = some ⟨g, 0, none⟩ ∧ B ≤ g ∧ ∃ h, y.a = some ⟨h, 0, none⟩ ∧ g < h ∧ ∃ k, z.a = some ⟨k, 0, none⟩ ∧ h < k ∧ k < w.heap.size
theorem NewArm.next {w w' : World} {B : Nat} {x y z : Sl} {ls lo hi : List Int} (h : NewArm w B x y z ls lo hi) (hb : Below w.heap.size w w') : NewArm w' B x y z ls lo hi := by
  obtain ⟨g, h1, h2, h3, h4, h5, k, h6, h7, h8⟩ := h.bx
  exact ⟨h.ox.next hb, h.oy.next hb, h.oz.next hb, g, h1, h2, h3, h4, h5, k, h6, h7, Nat.lt_of_lt_of_le h8 hb.size⟩
theorem OwnI.mono {w : World} {B B' : Nat} {v : Value} {zs : List Int} (h : OwnI w B v zs) (hB : B' ≤ B) : OwnI w B' v zs := by
  refine ⟨h.1, ?_⟩
  rcases h.2 with h2 | ⟨g, cap, cur, hv, hb, rest⟩
  · exact .inl h2
  · exact .inr ⟨g, cap, cur, hv, Nat.le_trans hB hb, rest⟩
theorem OwnI.far {w : World} {B g c o n cap : Nat} {zs : List Int} (h : OwnI w B (.slice (some ⟨g, 0, none⟩) n cap) zs) (hc : c ≠ g) (u : Value) : OwnI (w.setCell ⟨c, o, none⟩ u) B (.slice (some ⟨g, 0, none⟩) n cap) zs :=
  World.ownsRow.kept (row := some c) h ⟨rfl, rfl, rfl, by simp [World.setCell], fun k _ hk => Below.heap_setCell w _ _ k (by rintro rfl; exact hk rfl)⟩ (by simp [Value.ownBlock]; omega)
end Go.Proofs.Ytkmopgdnaohcdaa
