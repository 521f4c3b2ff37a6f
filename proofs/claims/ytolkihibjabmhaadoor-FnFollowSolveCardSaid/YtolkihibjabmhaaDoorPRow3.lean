/- The points of an arm: the program's and the document's. -/
import Derived.Test.YtolkihibjabmhaaDoorPRow2
import Derived.Test.YtolkihibjabmhaaDoorNum3
import Derived.Test.YtolkihibjabmhaaDoorRot
import Derived.Test.YtolkihibjabmhaaDoorChain4
import Derived.Outline
namespace Go.Proofs.YtolkihibjabmhaaDoor
set_option maxRecDepth 100000
open Go.RowKit
attribute [local go_sem ↓] Go.wp_at_zero Go.wp_at_succ
/-- The points of an arm with valid angles. -/
def ptsL (ls js : List Int) : List (Int × Int) := (List.range (ls.length + 1)).map fun (k : Nat) => (ptX ls js k, ptY ls js k)
theorem ptsL_len (ls js : List Int) : (ptsL ls js).length = ls.length + 1 := by simp [ptsL]
theorem ptsL_at (ls js : List Int) (k : Nat) (h : k ≤ ls.length) : (ptsL ls js).getD k (0, 0) = (ptX ls js k, ptY ls js k) := by
  unfold ptsL; rw [List.getD_eq_getElem?_getD, List.getElem?_map, List.getElem?_range (by omega)]; rfl
/-- The points of an arm: none where there can't be any. -/
def pointsV (ls lo hi js : List Int) : List (Int × Int) := if okJoints ls lo hi js then ptsL ls js else []
theorem pointsV_in {ls lo hi js : List Int} (h : okJoints ls lo hi js) : pointsV ls lo hi js = ptsL ls js := by unfold pointsV; rw [if_pos h]
theorem pointsV_out {ls lo hi js : List Int} (h : ¬ okJoints ls lo hi js) : pointsV ls lo hi js = [] := by unfold pointsV; rw [if_neg h]
theorem pointsV_len (ls lo hi js : List Int) : (pointsV ls lo hi js).length ≤ 5 := by
  by_cases h : okJoints ls lo hi js
  · rw [pointsV_in h, ptsL_len]; have := h.1.2.1; omega
  · rw [pointsV_out h]; simp
theorem dir_bd {ls lo hi js : List Int} (h : okJoints ls lo hi js) (k : Nat) (hk : k ≤ js.length) : -(180 * (k : Int)) ≤ sumN js k ∧ sumN js k ≤ 180 * (k : Int) := by
  induction k with
  | zero => simp [sumN]
  | succ k ih =>
    have h0 := ih (by omega)
    have h1 := h.2.2 k (by omega)
    have h2 := h.1.2.2.2.2 k (by have := h.2.1; omega)
    unfold okLink at h2
    simp only [sumN]
    omega
theorem len_bd {ls lo hi : List Int} (h : okArm ls lo hi) : ∀ k, k < ls.length → 1 ≤ ls.getD k 0 ∧ ls.getD k 0 ≤ 500 := fun k hk => ⟨(h.2.2.2.2 k hk).1, (h.2.2.2.2 k hk).2.1⟩
theorem vector (l o h d : Int) (w : World) (ht : TabAt w) (hd1 : -9223372036854775808 ≤ d) (hd2 : d ≤ 9223372036854775807) :
    Calls Tryd.prog 91 #[lk l o h, .int .i64 d] w fun e w' => e = .returned (pt (rotX l 0 d) (rotY l 0 d)) ∧ Below w.heap.size w w' := by
  have HB := Lib.hid (below_box2 w (.cells #[.int .i64 l, .int .i64 o, .int .i64 h] 82) (.cells #[.int .i64 0, .int .i64 0] 35))
  have HR := OwnP.box (w.alloc (.cells #[.int .i64 l, .int .i64 o, .int .i64 h] 82)) 0 0 35
  rw [show (w.alloc (.cells #[.int .i64 l, .int .i64 o, .int .i64 h] 82)).heap.size = w.heap.size + 1 by simp] at HR
  have T := ht.below HB.out ht.lt
  have H0 := Lib.hid (show w.heap.size ≤ w.heap.size + 1 by omega)
  clear ht
  go_enter Tryd.func91, Tryd.ntmps91
  go_wp2_with fail
  refine (implRotatePoint l 0 d _ T hd1 hd2).mono ?_
  rintro e w2 ⟨rfl, B2⟩
  obtain ⟨⟨v7, v8, v9⟩, z1, z2⟩ := HR.next B2
  have HB2 := Lib.hid (below_call HB.out B2)
  clear B2 HR T
  go_wp2
  exact bodyPost_ret (v := pt (rotX l 0 d) (rotY l 0 d)) (by simp [results, Tryd.results91, go_sem, v8, v9]) rfl ⟨rfl, below_set HB2.out H0.out _ _⟩
theorem vectorR (l o h d : Int) (w0 w : World) (hw : Below w0.heap.size w0 w) (ht : TabAt w0) (hd1 : -9223372036854775808 ≤ d) (hd2 : d ≤ 9223372036854775807) :
    Calls Tryd.prog 91 #[lk l o h, .int .i64 d] w fun e w' => e = .returned (pt (rotX l 0 d) (rotY l 0 d)) ∧ Below w0.heap.size w0 w' :=
  (vector l o h d w (ht.below hw ht.lt) hd1 hd2).mono fun _ _ ⟨he, hb⟩ => ⟨he, below_call hw hb⟩
theorem plusR (px py qx qy : Int) (w0 w : World) (hw : Below w0.heap.size w0 w) (h1 : -10000 ≤ px) (h2 : px ≤ 10000) (h3 : -10000 ≤ py) (h4 : py ≤ 10000) (h5 : -10000 ≤ qx) (h6 : qx ≤ 10000) (h7 : -10000 ≤ qy) (h8 : qy ≤ 10000) :
    Calls Tryd.prog 90 #[pt px py, pt qx qy] w fun e w' => e = .returned (pt (px + qx) (py + qy)) ∧ Below w0.heap.size w0 w' :=
  (plusP px py qx qy w h1 h2 h3 h4 h5 h6 h7 h8).mono fun _ _ ⟨he, hb⟩ => ⟨he, below_call hw hb⟩
theorem keepV {w u : World} {b g i : Nat} {x y z p q : Value} (h : Below w.heap.size w u) (hb : b < w.heap.size) (hg : g < w.heap.size) (h0 : w.cell? ⟨b, 0, none⟩ = some x) (h1 : w.cell? ⟨b, 1, none⟩ = some y) (h2 : w.cell? ⟨b, 2, none⟩ = some z) (h3 : w.cell? ⟨g, i, none⟩ = some p) (h4 : w.cell? ⟨g, i + 1, none⟩ = some q) :
    u.cell? ⟨b, 0, none⟩ = some x ∧ u.cell? ⟨b, 1, none⟩ = some y ∧ u.cell? ⟨b, 2, none⟩ = some z ∧ u.cell? ⟨g, i, none⟩ = some p ∧ u.cell? ⟨g, i + 1, none⟩ = some q :=
  ⟨(h.cell (p := ⟨b, 0, none⟩) hb).trans h0, (h.cell (p := ⟨b, 1, none⟩) hb).trans h1, (h.cell (p := ⟨b, 2, none⟩) hb).trans h2, (h.cell (p := ⟨g, i, none⟩) hg).trans h3, (h.cell (p := ⟨g, i + 1, none⟩) hg).trans h4⟩
theorem keepVS {w u : World} {b g i j : Nat} {x y z p q r s : Value} (h : Below w.heap.size w u) (hn : g ≠ b) (hj : i + 1 < j) (hb : b < w.heap.size) (hg : g < w.heap.size) (h0 : w.cell? ⟨b, 0, none⟩ = some x) (h1 : w.cell? ⟨b, 1, none⟩ = some y) (h2 : w.cell? ⟨b, 2, none⟩ = some z) (h3 : w.cell? ⟨g, i, none⟩ = some p) (h4 : w.cell? ⟨g, i + 1, none⟩ = some q) :
    ((u.setCell ⟨g, j, none⟩ r).setCell ⟨g, j + 1, none⟩ s).cell? ⟨b, 0, none⟩ = some x ∧ ((u.setCell ⟨g, j, none⟩ r).setCell ⟨g, j + 1, none⟩ s).cell? ⟨b, 1, none⟩ = some y ∧ ((u.setCell ⟨g, j, none⟩ r).setCell ⟨g, j + 1, none⟩ s).cell? ⟨b, 2, none⟩ = some z ∧ ((u.setCell ⟨g, j, none⟩ r).setCell ⟨g, j + 1, none⟩ s).cell? ⟨g, i, none⟩ = some p ∧ ((u.setCell ⟨g, j, none⟩ r).setCell ⟨g, j + 1, none⟩ s).cell? ⟨g, i + 1, none⟩ = some q := by
  have k := keepV h hb hg h0 h1 h2 h3 h4
  have f : ∀ o, ((u.setCell ⟨g, j, none⟩ r).setCell ⟨g, j + 1, none⟩ s).cell? ⟨b, o, none⟩ = u.cell? ⟨b, o, none⟩ := fun o => (World.cell?_setCell_far _ _ _ _ hn).trans (World.cell?_setCell_far _ _ _ _ hn)
  have f' : ∀ o, o < j → ((u.setCell ⟨g, j, none⟩ r).setCell ⟨g, j + 1, none⟩ s).cell? ⟨g, o, none⟩ = u.cell? ⟨g, o, none⟩ := fun o ho => (World.cell?_setCell_other _ _ _ _ (by simp <;> omega)).trans (World.cell?_setCell_other _ _ _ _ (by simp <;> omega))
  exact ⟨(f 0).trans k.1, (f 1).trans k.2.1, (f 2).trans k.2.2.1, (f' i (by omega)).trans k.2.2.2.1, (f' (i + 1) hj).trans k.2.2.2.2⟩
theorem infoPoint : (Tryd.prog.info? 35).map (fun i => (i.zero, i.size, i.bytes)) = some (some (pt 0 0), 2, 16) := by kernel_rfl
theorem made_pts (f : Nat → Int) (n : Nat) (h0 : f 0 = 0) (h1 : f 1 = 0) : (madeCells (pt 0 0).cells (n * 2)).toList = cpart f (fun _ => 0) (n * 2) 2 := by
  unfold cpart madeCells
  show (Array.map _ (Array.range (n * 2))).toList = _
  rw [Array.toList_map, Array.toList_range]
  apply List.map_congr_left
  intro j _
  have hm : j % 2 = 0 ∨ j % 2 = 1 := by omega
  have e : (if j < 2 then f j else 0) = 0 := by
    split
    · have hj : j = 0 ∨ j = 1 := by omega
      rcases hj with rfl | rfl
      · exact h0
      · exact h1
    · rfl
  rw [e]
  show (#[Value.int .i64 0, Value.int .i64 0] : Array Value)[j % 2]! = _
  rcases hm with h | h <;> rw [h] <;> simp
end Go.Proofs.YtolkihibjabmhaaDoor
