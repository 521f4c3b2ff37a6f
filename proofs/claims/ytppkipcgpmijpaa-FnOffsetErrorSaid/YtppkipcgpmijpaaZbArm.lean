/- Several of my texts in one: Ints, ArmH, Arm3, Arm3b, Arm3c. -/
import Derived.Test.YtppkipcgpmijpaaZcPts
import Derived.OwnWalk
import Derived.Laws.OwnMore
import Derived.Maps.AppendAt
import Derived.Deep.RegionHeld3
import Derived.Deep.QuietTactic
import Derived.BigQuiet
import Derived.Deep.AppendLies
namespace Go.Proofs.Ytppkipcgpmijpaa
set_option maxRecDepth 100000
open Go.RowKit
attribute [local go_sem ↓] Go.wp_at_zero Go.wp_at_succ

/-- A slice reads as the numbers zs. -/
def IntsAt (w : World) (a : Option Addr) (len : Nat) (zs : List Int) : Prop :=
  len = zs.length ∧ (zs = [] ∨ ∃ b off, a = some ⟨b, off, none⟩ ∧ b < w.heap.size ∧ ∀ i, i < zs.length → w.cell? ⟨b, off + i, none⟩ = some (.int .i64 (zs.getD i 0)))
theorem IntsAt.next {w w' : World} {a : Option Addr} {len : Nat} {zs : List Int} (h : IntsAt w a len zs) (hb : Below w.heap.size w w') : IntsAt w' a len zs := by
  refine ⟨h.1, ?_⟩
  rcases h.2 with h2 | ⟨b, off, rfl, hlt, hc⟩
  · exact .inl h2
  · exact .inr ⟨b, off, rfl, Nat.lt_of_lt_of_le hlt hb.size, fun i hi => by rw [hb.cell (p := ⟨b, off + i, none⟩) hlt]; exact hc i hi⟩
/-- The numbers as values. -/
abbrev vals (zs : List Int) : List Value := zs.map (Value.int .i64)
/-- k, k + 1, .. : n numbers. -/
def marks (k : Int) (n : Nat) : List Int := (List.range n).map fun (i : Nat) => k + (i : Int)
theorem marks_len (k : Int) (n : Nat) : (marks k n).length = n := by simp [marks]
theorem marks_at (k : Int) (n i : Nat) (h : i < n) : (marks k n).getD i 0 = k + (i : Int) := by
  unfold marks
  rw [List.getD_eq_getElem?_getD, List.getElem?_map, List.getElem?_range h]; rfl
/-- A row of the call's own that reads as zs. -/
def OwnI (w : World) (B : Nat) (v : Value) (zs : List Int) : Prop := w.ownsRow B 3 1 v zs.length (vals zs)
theorem OwnI.ints {w : World} {B : Nat} {a : Option Addr} {len cap : Nat} {zs : List Int} (h : OwnI w B (.slice a len cap) zs) : IntsAt w a len zs := by
  rcases h.2 with ⟨hv, hn⟩ | ⟨g, c, cur, hv, hb, hg, hnc, hcm, hcs, htake⟩
  · simp only [Value.slice.injEq] at hv
    exact ⟨by omega, .inl (List.eq_nil_of_length_eq_zero hn)⟩
  · simp only [Value.slice.injEq] at hv
    obtain ⟨rfl, rfl, rfl⟩ := hv
    refine ⟨rfl, .inr ⟨g, 0, rfl, (Array.getElem?_eq_some_iff.1 hg).1, fun i hi => ?_⟩⟩
    rw [Nat.zero_add, World.ownsRow.cellAt h i (by omega), List.getElem?_map, List.getD_eq_getElem?_getD, List.getElem?_eq_getElem hi]
    rfl
theorem OwnI.next {w w' : World} {B : Nat} {v : Value} {zs : List Int} (h : OwnI w B v zs) (hb : Below w.heap.size w w') : OwnI w' B v zs := by
  refine World.ownsRow.kept (row := none) h ⟨hb.os, hb.tape, hb.output, hb.size, fun k hk _ => hb.block k hk⟩ ?_
  cases v.ownBlock <;> simp
/-- What a copy holds when j of its numbers are there. -/
def part (f : Nat → Int) (zs : List Int) (j : Nat) : List Value := (List.range zs.length).map fun (i : Nat) => Value.int .i64 (if i < j then f i else zs.getD i 0)
theorem part_set (f : Nat → Int) (zs : List Int) (j : Nat) : (part f zs j).set j (.int .i64 (f j)) = part f zs (j + 1) := by
  unfold part
  apply List.ext_getElem?
  intro i
  rw [List.getElem?_set, List.getElem?_map, List.getElem?_map, List.length_map, List.length_range]
  by_cases hi : i < zs.length
  · rw [List.getElem?_range hi]
    by_cases hj : j = i
    · subst hj; simp [hi]
    · rw [if_neg hj]
      simp only [Option.map_some]
      by_cases h1 : i < j
      · rw [if_pos h1, if_pos (by omega)]
      · rw [if_neg h1, if_neg (by omega)]
  · rw [List.getElem?_eq_none (by simp; omega)]
    by_cases hj : j = i
    · subst hj; simp [hi]
    · rw [if_neg hj]; rfl
theorem part_zero (f : Nat → Int) (zs : List Int) : part f zs 0 = vals zs := by
  unfold part vals
  apply List.ext_getElem?
  intro i
  rw [List.getElem?_map, List.getElem?_map]
  by_cases hi : i < zs.length
  · rw [List.getElem?_range hi, List.getElem?_eq_getElem hi]
    simp [List.getD_eq_getElem?_getD, List.getElem?_eq_getElem hi]
  · rw [List.getElem?_eq_none (by simp; omega), List.getElem?_eq_none (by omega)]; rfl
theorem part_all (f : Nat → Int) (zs ys : List Int) (hl : ys.length = zs.length) (h : ∀ i, i < zs.length → f i = ys.getD i 0) : part f zs zs.length = vals ys := by
  unfold part vals
  apply List.ext_getElem?
  intro i
  rw [List.getElem?_map, List.getElem?_map]
  by_cases hi : i < zs.length
  · rw [List.getElem?_range hi, List.getElem?_eq_getElem (by omega)]
    simp [hi, h i hi, List.getD_eq_getElem?_getD, List.getElem?_eq_getElem (show i < ys.length by omega)]
  · rw [List.getElem?_eq_none (by simp; omega), List.getElem?_eq_none (by omega)]; rfl
theorem part_len (f : Nat → Int) (zs : List Int) (j : Nat) : (part f zs j).length = zs.length := by simp [part]
theorem infoInt : (Try.prog.info? 3).map (fun i => (i.zero, i.size, i.bytes)) = some (some (.int .i64 0), 1, 8) := by kernel_rfl
theorem made_zero (n : Nat) (f : Nat → Int) : (madeCells (Value.int .i64 0).cells (n * 1)).toList = part f (List.replicate n 0) 0 := by
  rw [part_zero]
  show (madeCells #[Value.int .i64 0] (n * 1)).toList = _
  rw [Nat.mul_one, toList_madeCells_one, vals, List.map_replicate]
end Go.Proofs.Ytppkipcgpmijpaa
namespace Go.Proofs.Ytppkipcgpmijpaa
set_option maxRecDepth 100000
open Go.RowKit

/-- A slice. -/
structure Sl where
  a : Option Addr
  len : Nat
  cap : Nat
/-- An arm's value. -/
abbrev av (x y z : Sl) : Value := .agg #[.slice x.a x.len x.cap, .slice y.a y.len y.cap, .slice z.a z.len z.cap]
/-- An arm lies in block b, of the call's own. -/
structure AtA (w : World) (b : Nat) (x y z : Value) : Prop where
  lt : b < w.heap.size
  c0 : w.cell? ⟨b, 0, none⟩ = some x
  c1 : w.cell? ⟨b, 1, none⟩ = some y
  c2 : w.cell? ⟨b, 2, none⟩ = some z
  z0 : w.frozen? ⟨b, 0, none⟩ = false
  z1 : w.frozen? ⟨b, 1, none⟩ = false
  z2 : w.frozen? ⟨b, 2, none⟩ = false
theorem AtA.next {w w' : World} {b : Nat} {x y z : Value} (h : AtA w b x y z) (hb : Below w.heap.size w w') : AtA w' b x y z :=
  ⟨Nat.lt_of_lt_of_le h.lt hb.size, by rw [hb.cell (p := ⟨b, 0, none⟩) h.lt]; exact h.c0, by rw [hb.cell (p := ⟨b, 1, none⟩) h.lt]; exact h.c1, by rw [hb.cell (p := ⟨b, 2, none⟩) h.lt]; exact h.c2,
    (hb.frozen (p := ⟨b, 0, none⟩) h.lt).trans h.z0, (hb.frozen (p := ⟨b, 1, none⟩) h.lt).trans h.z1, (hb.frozen (p := ⟨b, 2, none⟩) h.lt).trans h.z2⟩
theorem AtA.kept {w w' : World} {b : Nat} {x y z : Value} {row : Option Nat} (h : AtA w b x y z) (hg : w.grownBy w' row) (hne : some b ≠ row) : AtA w' b x y z :=
  have e := hg.block b h.lt hne
  ⟨Nat.lt_of_lt_of_le h.lt hg.size, (World.cell?_of_block (a := ⟨b, 0, none⟩) e).trans h.c0, (World.cell?_of_block (a := ⟨b, 1, none⟩) e).trans h.c1, (World.cell?_of_block (a := ⟨b, 2, none⟩) e).trans h.c2,
    (World.frozen?_of_block (a := ⟨b, 0, none⟩) e).trans h.z0, (World.frozen?_of_block (a := ⟨b, 1, none⟩) e).trans h.z1, (World.frozen?_of_block (a := ⟨b, 2, none⟩) e).trans h.z2⟩
theorem AtA.box (w : World) (x y z : Value) (t : Nat) : AtA (w.alloc (.cells #[x, y, z] t)) w.heap.size x y z :=
  ⟨by simp, by simp, by simp, by simp, World.frozen?_alloc_at _ _ _ _ rfl, World.frozen?_alloc_at _ _ _ _ rfl, World.frozen?_alloc_at _ _ _ _ rfl⟩
theorem AtA.alloc {w : World} {b : Nat} {x y z : Value} (h : AtA w b x y z) (o : Obj) : AtA (w.alloc o) b x y z := h.next (below_box w o)
theorem AtA.far {w : World} {b c o : Nat} {x y z : Value} (h : AtA w b x y z) (hc : c ≠ b) (v : Value) : AtA (w.setCell ⟨c, o, none⟩ v) b x y z :=
  ⟨by simpa [World.setCell] using h.lt, (World.cell?_setCell_far _ _ _ _ hc).trans h.c0, (World.cell?_setCell_far _ _ _ _ hc).trans h.c1, (World.cell?_setCell_far _ _ _ _ hc).trans h.c2,
    (World.frozen?_setCell _ _ _ _).trans h.z0, (World.frozen?_setCell _ _ _ _).trans h.z1, (World.frozen?_setCell _ _ _ _).trans h.z2⟩
theorem AtA.put0 {w : World} {b : Nat} {x y z : Value} (h : AtA w b x y z) (u : Value) : AtA (w.setCell ⟨b, 0, none⟩ u) b u y z :=
  ⟨by simpa [World.setCell] using h.lt, World.cell?_setCell_same _ _ _ h.c0, (World.cell?_setCell_other _ _ _ _ (by simp)).trans h.c1, (World.cell?_setCell_other _ _ _ _ (by simp)).trans h.c2,
    (World.frozen?_setCell _ _ _ _).trans h.z0, (World.frozen?_setCell _ _ _ _).trans h.z1, (World.frozen?_setCell _ _ _ _).trans h.z2⟩
theorem AtA.put1 {w : World} {b : Nat} {x y z : Value} (h : AtA w b x y z) (u : Value) : AtA (w.setCell ⟨b, 1, none⟩ u) b x u z :=
  ⟨by simpa [World.setCell] using h.lt, (World.cell?_setCell_other _ _ _ _ (by simp)).trans h.c0, World.cell?_setCell_same _ _ _ h.c1, (World.cell?_setCell_other _ _ _ _ (by simp)).trans h.c2,
    (World.frozen?_setCell _ _ _ _).trans h.z0, (World.frozen?_setCell _ _ _ _).trans h.z1, (World.frozen?_setCell _ _ _ _).trans h.z2⟩
theorem AtA.put2 {w : World} {b : Nat} {x y z : Value} (h : AtA w b x y z) (u : Value) : AtA (w.setCell ⟨b, 2, none⟩ u) b x y u :=
  ⟨by simpa [World.setCell] using h.lt, (World.cell?_setCell_other _ _ _ _ (by simp)).trans h.c0, (World.cell?_setCell_other _ _ _ _ (by simp)).trans h.c1, World.cell?_setCell_same _ _ _ h.c2,
    (World.frozen?_setCell _ _ _ _).trans h.z0, (World.frozen?_setCell _ _ _ _).trans h.z1, (World.frozen?_setCell _ _ _ _).trans h.z2⟩
/-- A fresh arm that reads as the three lists: its rows are of the call's own, no block of them lies below B, and no two are the same. -/
structure NewArm (w : World) (B : Nat) (x y z : Sl) (ls lo hi : List Int) : Prop where
  ox : OwnI w B (.slice x.a x.len x.cap) ls
  oy : OwnI w B (.slice y.a y.len y.cap) lo
  oz : OwnI w B (.slice z.a z.len z.cap) hi
  bx : ∃ g, x.a = some ⟨g, 0, none⟩ ∧ B ≤ g ∧ ∃ h, y.a = some ⟨h, 0, none⟩ ∧ g < h ∧ ∃ k, z.a = some ⟨k, 0, none⟩ ∧ h < k ∧ k < w.heap.size
theorem NewArm.next {w w' : World} {B : Nat} {x y z : Sl} {ls lo hi : List Int} (h : NewArm w B x y z ls lo hi) (hb : Below w.heap.size w w') : NewArm w' B x y z ls lo hi := by
  obtain ⟨g, h1, h2, h3, h4, h5, k, h6, h7, h8⟩ := h.bx
  exact ⟨h.ox.next hb, h.oy.next hb, h.oz.next hb, g, h1, h2, h3, h4, h5, k, h6, h7, Nat.lt_of_lt_of_le h8 hb.size⟩
theorem OwnI.mono {w : World} {B B' : Nat} {v : Value} {zs : List Int} (h : OwnI w B v zs) (hB : B' ≤ B) : OwnI w B' v zs := by
  refine ⟨h.1, ?_⟩
  rcases h.2 with h2 | ⟨g, cap, cur, hv, hb, rest⟩
  · exact .inl h2
  · exact .inr ⟨g, cap, cur, hv, Nat.le_trans hB hb, rest⟩
theorem OwnI.far {w : World} {B g c o n cap : Nat} {zs : List Int} (h : OwnI w B (.slice (some ⟨g, 0, none⟩) n cap) zs) (hc : c ≠ g) (u : Value) : OwnI (w.setCell ⟨c, o, none⟩ u) B (.slice (some ⟨g, 0, none⟩) n cap) zs :=
  World.ownsRow.kept (row := some c) h ⟨rfl, rfl, rfl, by simp [World.setCell], fun k _ hk => Below.heap_setCell w _ _ k (by rintro rfl; exact hk rfl)⟩ (by simp [Value.ownBlock]; omega)
end Go.Proofs.Ytppkipcgpmijpaa
namespace Go.Proofs.Ytppkipcgpmijpaa
set_option maxRecDepth 100000
open Go.RowKit
attribute [local go_sem ↓] Go.wp_at_zero Go.wp_at_succ

theorem sameOf {P : Program} {f : FuncId} {args : Array Value} {w : World} {v : Value} (h : Calls P f args w fun e w' => e = .returned v ∧ w = w') : Calls P f args w fun e w' => e = .returned v ∧ w' = w :=
  h.mono fun _ _ ⟨he, hw⟩ => ⟨he, hw.symm⟩
theorem below_drewN {B : Nat} {a w : World} (h : Below B a w) (n : Nat) : Below B a (w.drewN n) := ⟨h.os, h.tape, h.output, h.size, h.block⟩
/-- Link k has a valid length and a valid range. -/
def okLink (l o h : Int) : Prop := 1 ≤ l ∧ l ≤ 500 ∧ -180 ≤ o ∧ o ≤ 180 ∧ o ≤ h ∧ h ≤ 180
instance (l o h : Int) : Decidable (okLink l o h) := by unfold okLink; infer_instance
/-- A valid arm. -/
def okArm (ls lo hi : List Int) : Prop := 1 ≤ ls.length ∧ ls.length ≤ 4 ∧ lo.length = ls.length ∧ hi.length = ls.length ∧ ∀ k, k < ls.length → okLink (ls.getD k 0) (lo.getD k 0) (hi.getD k 0)
instance (ls lo hi : List Int) : Decidable (okArm ls lo hi) := by unfold okArm; infer_instance
theorem IntsAt.some {w : World} {a : Option Addr} {len : Nat} {zs : List Int} (h : IntsAt w a len zs) (hl : 1 ≤ len) : ∃ b off, a = Option.some ⟨b, off, none⟩ ∧ b < w.heap.size ∧ ∀ i, i < len → w.cell? ⟨b, off + i, none⟩ = Option.some (.int .i64 (zs.getD i 0)) := by
  rcases h.2 with h2 | ⟨b, off, h3, h4, h5⟩
  · have := h.1; rw [h2] at this; simp at this; omega
  · exact ⟨b, off, h3, h4, fun i hi => h5 i (by rw [← h.1]; exact hi)⟩
end Go.Proofs.Ytppkipcgpmijpaa
namespace Go.Proofs.Ytppkipcgpmijpaa
set_option maxRecDepth 100000
open Go.RowKit
attribute [local go_sem ↓] Go.wp_at_zero Go.wp_at_succ
/-- Valid angles of an arm. -/
def okJoints (ls lo hi js : List Int) : Prop := okArm ls lo hi ∧ js.length = ls.length ∧ ∀ k, k < js.length → lo.getD k 0 ≤ js.getD k 0 ∧ js.getD k 0 ≤ hi.getD k 0
instance (ls lo hi js : List Int) : Decidable (okJoints ls lo hi js) := by unfold okJoints; infer_instance
end Go.Proofs.Ytppkipcgpmijpaa
namespace Go.Proofs.Ytppkipcgpmijpaa
set_option maxRecDepth 100000
open Go.RowKit
attribute [local go_sem ↓] Go.wp_at_zero Go.wp_at_succ

/-- The nearest number in o..h. -/
def clip (d o h : Int) : Int := max o (min h d)
/-- The clamped angles. -/
def clampL (lo hi js : List Int) : List Int := (List.range js.length).map fun (k : Nat) => clip (js.getD k 0) (lo.getD k 0) (hi.getD k 0)
theorem clampL_len (lo hi js : List Int) : (clampL lo hi js).length = js.length := by simp [clampL]
theorem clampL_at (lo hi js : List Int) (k : Nat) (h : k < js.length) : (clampL lo hi js)[k]? = some (clip (js.getD k 0) (lo.getD k 0) (hi.getD k 0)) := by
  unfold clampL; rw [List.getElem?_map, List.getElem?_range h]; rfl
theorem take_next (zs : List Int) (k : Nat) (z : Int) (h : zs[k]? = some z) : vals (zs.take (k + 1)) = vals (zs.take k) ++ [Value.int .i64 z] := by
  have hl : k < zs.length := (List.getElem?_eq_some_iff.1 h).1
  have e : zs[k] = z := (List.getElem?_eq_some_iff.1 h).2
  rw [List.take_succ_eq_append_getElem hl, e]; simp
theorem World.ownsRow_down {w : World} {base base' : Nat} {e : TypeId} {size : Nat} {v : Value} {n : Nat} {xs : List Value} (h : w.ownsRow base e size v n xs) (hb : base' ≤ base) : w.ownsRow base' e size v n xs :=
  ⟨h.1, h.2.imp id fun ⟨g, cap, cur, hv, hg, rest⟩ => ⟨g, cap, cur, hv, Nat.le_trans hb hg, rest⟩⟩
theorem below_drew' (w : World) : Below w.heap.size w w.drew := (Below.refl _ _).drew
end Go.Proofs.Ytppkipcgpmijpaa
