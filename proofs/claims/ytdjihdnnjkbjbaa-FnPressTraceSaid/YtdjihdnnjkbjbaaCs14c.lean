/- Motors: the document's RunMotor. -/
import Derived.Test.YtdjihdnnjkbjbaaCs14b
import Derived.Test.YtdjihdnnjkbjbaaZbDr
namespace Go.Proofs.Ytdjihdnnjkbjbaa
set_option maxRecDepth 100000
open Go.RowKit
attribute [local go_sem ↓] Go.wp_at_zero Go.wp_at_succ
theorem OwnI.sl14 {w : World} {B : Nat} {v : Value} {zs : List Int} (h : OwnI w B v zs) : ∃ s : Sl, v = .slice s.a s.len s.cap ∧ s.len = zs.length := by
  rcases h.2 with ⟨hv, hn⟩ | ⟨g, c, cur, hv, _⟩
  · exact ⟨⟨none, 0, 0⟩, hv, hn.symm⟩
  · exact ⟨⟨some ⟨g, 0, none⟩, zs.length, c⟩, hv, rfl⟩
theorem nums14_new (w : World) (T : TypeId) (hT : T = 3) : OwnI (w.alloc (.cells #[] T)) w.heap.size (.slice (some ⟨w.heap.size, 0, none⟩) 0 0) [] := by
  subst hT
  exact World.ownsRow_lit (base := w.heap.size) (e := 3) (size := 1) w #[] 0 (Nat.le_refl _) (Nat.zero_le _) rfl
theorem OwnP.row14 {w w' : World} {b : Nat} {x y : Int} {row : Option Nat} (h : OwnP w b x y) (hg : w.grownBy w' row) (hne : some b ≠ row) : OwnP w' b x y :=
  have e := hg.block b h.lt hne
  ⟨⟨Nat.lt_of_lt_of_le h.lt hg.size, (World.cell?_of_block (a := ⟨b, 0, none⟩) e).trans h.c0, (World.cell?_of_block (a := ⟨b, 1, none⟩) e).trans h.c1⟩, (World.frozen?_of_block (a := ⟨b, 0, none⟩) e).trans h.z0, (World.frozen?_of_block (a := ⟨b, 1, none⟩) e).trans h.z1⟩
theorem runL_take (g k d f : Int) (n i : Nat) (a v : Int) (h : i < n) : (runL g k d f n a v).take (i + 1) = (runL g k d f n a v).take i ++ [(runA g k d f (i + 1) a v).1] := by
  have e := runL_at g k d f n i a v h
  have hl := (List.getElem?_eq_some_iff.1 e).1
  rw [List.take_succ_eq_append_getElem hl, (List.getElem?_eq_some_iff.1 e).2]
end Go.Proofs.Ytdjihdnnjkbjbaa
