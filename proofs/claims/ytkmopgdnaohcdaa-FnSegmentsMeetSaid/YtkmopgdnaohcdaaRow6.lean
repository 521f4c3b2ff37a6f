/- Rows of points that a call makes: what it hands back; and the small facts that such rows need. -/
import Derived.Test.YtkmopgdnaohcdaaPRow2
import Derived.Test.YtkmopgdnaohcdaaKTw
import Derived.Deep.AppendLies
namespace Go.Proofs.Ytkmopgdnaohcdaa
set_option maxRecDepth 100000
open Go.RowKit
attribute [local go_sem ↓] Go.wp_at_zero Go.wp_at_succ
/-- A slice of points of the call's own that reads as ps. -/
def PtRow (ps : List (Int × Int)) (w : World) (e : Ending) (w' : World) : Prop :=
  ∃ s : Sl, e = .returned (.slice s.a s.len s.cap) ∧ s.len = ps.length ∧ OwnPt w' w.heap.size (.slice s.a s.len s.cap) ps ∧ Below w.heap.size w w'
theorem pvals_snoc6 (ps : List (Int × Int)) (p : Int × Int) : pvals (ps ++ [p]) = pvals ps ++ [.int .i64 p.1, .int .i64 p.2] := by
  apply List.ext_getElem?
  intro j
  by_cases h : j < ps.length * 2
  · rw [List.getElem?_append_left (by rw [pvals_len]; exact h), pvals_at ps j h, pvals_at (ps ++ [p]) j (by simp only [List.length_append, List.length_singleton]; omega)]
    unfold cz
    rw [List.getD_eq_getElem?_getD, List.getD_eq_getElem?_getD, List.getElem?_append_left (by omega)]
  · by_cases h0 : j = ps.length * 2
    · subst h0
      rw [List.getElem?_append_right (by rw [pvals_len]; omega), pvals_len, pvals_at (ps ++ [p]) _ (by simp only [List.length_append, List.length_singleton]; omega), cz0, List.getD_eq_getElem?_getD, List.getElem?_append_right (by omega)]
      simp
    · by_cases h1 : j = ps.length * 2 + 1
      · subst h1
        rw [List.getElem?_append_right (by rw [pvals_len]; omega), pvals_len, pvals_at (ps ++ [p]) _ (by simp only [List.length_append, List.length_singleton]; omega), cz1, List.getD_eq_getElem?_getD, List.getElem?_append_right (by omega)]
        simp
      · rw [List.getElem?_eq_none (by rw [pvals_len]; simp; omega), List.getElem?_eq_none (by simp [pvals_len]; omega)]
theorem pvals_take6 (ps : List (Int × Int)) (k : Nat) (h : k < ps.length) : pvals (ps.take (k + 1)) = pvals (ps.take k) ++ [.int .i64 (ps.getD k (0, 0)).1, .int .i64 (ps.getD k (0, 0)).2] := by
  rw [List.take_succ_eq_append_getElem h, pvals_snoc6, List.getD_eq_getElem?_getD, List.getElem?_eq_getElem h]
  rfl
theorem two_new6 (w : World) (a b : Value) (t : Nat) : ∀ (j : Nat) u, [a, b][j]? = some u → (w.alloc (.cells #[a, b] t)).cell? ((⟨w.heap.size, 0, none⟩ : Addr).add j) = some u := by
  intro j u hu
  have hj : j = 0 ∨ j = 1 := by
    have := (List.getElem?_eq_some_iff.1 hu).1
    simp at this; omega
  rcases hj with rfl | rfl
  · simp at hu; subst hu; simp [Addr.add]
  · simp at hu; subst hu; simp [Addr.add]
theorem OwnP.puts6 {w : World} {b : Nat} {x y : Int} (h : OwnP w b x y) (u v : Int) : OwnP ((w.setCell ⟨b, 0, none⟩ (.int .i64 u)).setCell ⟨b, 1, none⟩ (.int .i64 v)) b u v :=
  have h1 : (w.setCell ⟨b, 0, none⟩ (.int .i64 u)).cell? ⟨b, 1, none⟩ = some (.int .i64 y) := (World.cell?_setCell_other _ _ _ _ (by simp)).trans h.c1
  ⟨⟨by simpa [World.setCell] using h.lt, (World.cell?_setCell_other _ _ _ _ (by simp)).trans (World.cell?_setCell_same _ _ _ h.c0), World.cell?_setCell_same _ _ _ h1⟩, ((World.frozen?_setCell _ _ _ _).trans (World.frozen?_setCell _ _ _ _)).trans h.z0, ((World.frozen?_setCell _ _ _ _).trans (World.frozen?_setCell _ _ _ _)).trans h.z1⟩
theorem AtP.far6 {w : World} {b c : Nat} {x y : Int} (h : AtP w b x y) (hc : c ≠ b) (u v : Value) : AtP ((w.setCell ⟨c, 0, none⟩ u).setCell ⟨c, 1, none⟩ v) b x y :=
  ⟨by simpa [World.setCell] using h.lt, (World.cell?_setCell_far _ _ _ _ hc).trans ((World.cell?_setCell_far _ _ _ _ hc).trans h.c0), (World.cell?_setCell_far _ _ _ _ hc).trans ((World.cell?_setCell_far _ _ _ _ hc).trans h.c1)⟩
theorem AtP.row6 {w w' : World} {b : Nat} {x y : Int} {row : Option Nat} (h : AtP w b x y) (hg : w.grownBy w' row) (hne : some b ≠ row) : AtP w' b x y :=
  have e := hg.block b h.lt hne
  ⟨Nat.lt_of_lt_of_le h.lt hg.size, (World.cell?_of_block (a := ⟨b, 0, none⟩) e).trans h.c0, (World.cell?_of_block (a := ⟨b, 1, none⟩) e).trans h.c1⟩
theorem OwnPt.down6 {w : World} {B B' : Nat} {v : Value} {ps : List (Int × Int)} (h : OwnPt w B v ps) (hB : B' ≤ B) : OwnPt w B' v ps := World.ownsRow_down h hB
theorem OwnPt.slv {w : World} {B : Nat} {v : Value} {ps : List (Int × Int)} (h : OwnPt w B v ps) (w0 : World) (hB : w0.heap.size ≤ B) (hb : Below w0.heap.size w0 w) : PtRow ps w0 (.returned v) w := by
  obtain ⟨s, rfl, hs⟩ := h.sl
  exact ⟨s, rfl, hs, h.down6 hB, hb⟩
theorem infoPt6 : (Try.prog.info? 28).map (fun i => (i.zero, i.size, i.bytes)) = some (some (pt 0 0), 2, 16) := by kernel_rfl
theorem made6 (f : Nat → Int) (n : Nat) : (madeCells (pt 0 0).cells (n * 2)).toList = cpart f (fun _ => 0) (n * 2) (0 * 2) := by
  unfold cpart madeCells
  show (Array.map _ (Array.range (n * 2))).toList = _
  rw [Array.toList_map, Array.toList_range]
  apply List.map_congr_left
  intro j _
  have hm : j % 2 = 0 ∨ j % 2 = 1 := by omega
  have e : (if j < 0 * 2 then f j else 0) = 0 := by simp
  rw [e]
  show (#[Value.int .i64 0, Value.int .i64 0] : Array Value)[j % 2]! = _
  rcases hm with h | h <;> rw [h] <;> simp
theorem nilPt (w w' : World) (hb : Below w.heap.size w w') : PtRow [] w (.returned (.slice none 0 0)) w' := ⟨⟨none, 0, 0⟩, rfl, rfl, World.ownsRow_nil _ _ _ _, hb⟩
theorem ownPt_empty (w : World) (T : TypeId) (hT : T = 28) : OwnPt (w.alloc (.cells #[] T)) w.heap.size (.slice (some ⟨w.heap.size, 0, none⟩) 0 0) [] := by
  subst hT
  have := World.ownsRow_lit (base := w.heap.size) (e := 28) (size := 2) w #[] 0 (Nat.le_refl _) (Nat.zero_le _) rfl
  unfold OwnPt
  simpa [pvals] using this
theorem plusW (px py qx qy : Int) (w : World) (h1 : -1000000 ≤ px) (h2 : px ≤ 1000000) (h3 : -1000000 ≤ py) (h4 : py ≤ 1000000) (h5 : -1000000 ≤ qx) (h6 : qx ≤ 1000000) (h7 : -1000000 ≤ qy) (h8 : qy ≤ 1000000) :
    Calls Try.prog 70 #[pt px py, pt qx qy] w fun e w' => e = .returned (pt (px + qx) (py + qy)) ∧ Below w.heap.size w w' := by
  go_enter Try.func70, Try.ntmps70
  go_wp2
  exact bodyPost_ret (v := pt (px + qx) (py + qy)) (by simp [results, Try.results70, go_sem]) rfl ⟨rfl, below_box3 _ _ _ _⟩
end Go.Proofs.Ytkmopgdnaohcdaa
