/- Several of my texts in one: Dg11, Dz11. -/
import Derived.Test.YtkogoflcacameaaDoorZbRd
import Derived.Test.YtkogoflcacameaaDoorZbDbc
import Derived.Test.YtkogoflcacameaaDoorZbInv
import Derived.Deep.RegionHeld3
import Derived.Outline
namespace Go.Proofs.YtkogoflcacameaaDoor
set_option maxRecDepth 100000
open Go.RowKit
attribute [local go_sem ↓] Go.wp_at_zero Go.wp_at_succ
/-- What a draw of a small number says. -/
def DrawnR (lo hi : Int) (B M r : Nat) (w : World) (e : Ending) (w' : World) : Prop :=
  ∃ x : Int, lo ≤ x ∧ x ≤ hi ∧ e = .returned (.int .i64 x) ∧ Rd B M w' r ∧ w.grownBy w' (some r)
end Go.Proofs.YtkogoflcacameaaDoor
namespace Go.Proofs.YtkogoflcacameaaDoor
set_option maxRecDepth 100000
open Go.RowKit
attribute [local go_sem ↓] Go.wp_at_zero Go.wp_at_succ
/-- A drawn arm's lists are short. -/
abbrev LenA (x y z : Sl) : Prop := x.len ≤ 5 ∧ y.len ≤ 4 ∧ z.len ≤ 4
/-- An arm's box, the result's box, the reader. -/
structure StZ (w : World) (M V : Nat) (u : World) (x y z : Sl) (ls lo hi : List Int) : Prop where
  rd : Rd w.heap.size M u (w.heap.size + 1)
  old : Below w.heap.size w u
  arm : AtA u V (.slice x.a x.len x.cap) (.slice y.a y.len y.cap) (.slice z.a z.len z.cap)
  res : AtA u w.heap.size (.slice none 0 0) (.slice none 0 0) (.slice none 0 0)
  i1 : IntsFrom u (w.heap.size + 1 + 1) x.a x.len ls
  i2 : IntsFrom u (w.heap.size + 1 + 1) y.a y.len lo
  i3 : IntsFrom u (w.heap.size + 1 + 1) z.a z.len hi
  lens : LenA x y z
  sml : Sm 2000 ls ∧ Sm 2000 lo ∧ Sm 2000 hi
  lt : w.heap.size + 1 < u.heap.size ∧ M ≤ 200 ∧ V ≠ w.heap.size + 1 ∧ w.heap.size ≤ V
  ne : w.heap.size ≠ V
section
variable {w u u' : World} {M M' V : Nat} {x y z : Sl} {ls lo hi : List Int}
theorem StZ.drew (h : StZ w M V u x y z ls lo hi) : StZ w M V u.drew x y z ls lo hi :=
  ⟨h.rd.drew, h.old.drew, h.arm.next (below_drew' u), h.res.next (below_drew' u), h.i1.next (below_drew' u), h.i2.next (below_drew' u), h.i3.next (below_drew' u), h.lens, h.sml, h.lt, h.ne⟩
theorem StZ.grown (h : StZ w M V u x y z ls lo hi) (hr : Rd w.heap.size (M + 1) u' (w.heap.size + 1)) (hg : u.grownBy u' (some (w.heap.size + 1))) : StZ w M V u x y z ls lo hi ∧ Rd w.heap.size (M + 1) u' (w.heap.size + 1) ∧ u.grownBy u' (some (w.heap.size + 1)) := ⟨h, hr, hg⟩
theorem StZ.fin (h : StZ w M V u x y z ls lo hi ∧ Rd w.heap.size (M + 1) u' (w.heap.size + 1) ∧ u.grownBy u' (some (w.heap.size + 1))) {p q r : Value} :
    ((IntsAt (((u'.setCell ⟨w.heap.size, 0, none⟩ p).setCell ⟨w.heap.size, 1, none⟩ q).setCell ⟨w.heap.size, 2, none⟩ r) x.a x.len ls ∧ IntsAt (((u'.setCell ⟨w.heap.size, 0, none⟩ p).setCell ⟨w.heap.size, 1, none⟩ q).setCell ⟨w.heap.size, 2, none⟩ r) y.a y.len lo ∧ IntsAt (((u'.setCell ⟨w.heap.size, 0, none⟩ p).setCell ⟨w.heap.size, 1, none⟩ q).setCell ⟨w.heap.size, 2, none⟩ r) z.a z.len hi) ∧ Sm 2000 ls ∧ Sm 2000 lo ∧ Sm 2000 hi) ∧
    Below w.heap.size w (((u'.setCell ⟨w.heap.size, 0, none⟩ p).setCell ⟨w.heap.size, 1, none⟩ q).setCell ⟨w.heap.size, 2, none⟩ r) := by
  obtain ⟨h, _, hg⟩ := h
  have f := fun {a : Option Addr} {n : Nat} {zs : List Int} (i : IntsFrom u (w.heap.size + 1 + 1) a n zs) => ((((i.kept hg (fun k hk => by injection hk with hk; omega)).off (c := w.heap.size) (o := 0) (by omega) p).off (c := w.heap.size) (o := 1) (by omega) q).off (c := w.heap.size) (o := 2) (by omega) r).ints
  exact ⟨⟨⟨f h.i1, f h.i2, f h.i3⟩, h.sml⟩, (((h.old.grown hg h.old.size (fun k hk => by injection hk with hk; omega)).setCell (p := ⟨w.heap.size, 0, none⟩) (Nat.le_refl _) p).setCell (p := ⟨w.heap.size, 1, none⟩) (Nat.le_refl _) q).setCell (p := ⟨w.heap.size, 2, none⟩) (Nat.le_refl _) r⟩
end
/-- What the draw of an arm and a step says. -/
def GotZ (w : World) (e : Ending) (w' : World) : Prop :=
  ∃ (x y z : Sl) (ls lo hi : List Int) (s : Int), e = .returned (.tuple #[av x y z, .int .i64 s]) ∧ ((IntsAt w' x.a x.len ls ∧ IntsAt w' y.a y.len lo ∧ IntsAt w' z.a z.len hi) ∧ Sm 2000 ls ∧ Sm 2000 lo ∧ Sm 2000 hi) ∧ LenA x y z ∧ (0 ≤ s ∧ s ≤ 361) ∧ Below w.heap.size w w'
end Go.Proofs.YtkogoflcacameaaDoor
