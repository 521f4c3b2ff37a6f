/- Drawing a point near a polygon from a code. -/
import Derived.Test.YtcifokihellcdaaDoorDp8
import Derived.Test.YtcifokihellcdaaDoorDs8
import Derived.Deep.RegionHeld3
namespace Go.Proofs.YtcifokihellcdaaDoor
set_option maxRecDepth 100000
open Go.RowKit
attribute [local go_sem ↓] Go.wp_at_zero Go.wp_at_succ
theorem OwnPt.pick8 {u u' : World} {B r : Nat} {v : Value} {ps : List P2} (h : OwnPt u B v ps) (hg : u.grownBy u' (some r)) (hr : r < B) : OwnPt u' B v ps :=
  World.ownsRow.kept h hg (.inr (fun e => by have := (World.ownsRow.lt h r e).1; omega))
/-- While a point near a polygon is drawn: the reader, the result's box, the point's box. -/
structure Cl8 (w0 : World) (B M r vp : Nat) (p : P2) (u : World) : Prop where
  rd : Rd B M u r
  gr : w0.grownBy u (some r)
  n0 : Cells8 u w0.heap.size (ptQ (0, 0)) 34
  p : Cells8 u vp (ptQ p) 34
  o : w0.heap.size < vp
section
variable {w0 u u' : World} {B M M' r vp : Nat} {p : P2}
theorem Cl8.pick (h : Cl8 w0 B M r vp p u) (hr : Rd B M' u' r) (hg : u.grownBy u' (some r)) (hlt : r < w0.heap.size) : Cl8 w0 B M' r vp p u' :=
  ⟨hr, h.gr.trans hg, h.n0.pick hg (by omega), h.p.pick hg (by have := h.o; omega), h.o⟩
theorem Cl8.alloc (h : Cl8 w0 B M r vp p u) (o : Obj) : Cl8 w0 B M r vp p (u.alloc o) := ⟨h.rd.alloc o, only_alloc h.gr o, h.n0.alloc o, h.p.alloc o, h.o⟩
theorem Cl8.mono (h : Cl8 w0 B M r vp p u) (hM : M ≤ M') : Cl8 w0 B M' r vp p u := ⟨h.rd.mono hM, h.gr, h.n0, h.p, h.o⟩
theorem Cl8.drew (h : Cl8 w0 B M r vp p u) : Cl8 w0 B M r vp p u.drew :=
  ⟨h.rd.drew, h.gr.trans (by have hb := below_drew u; exact ⟨hb.os, hb.tape, hb.output, hb.size, fun k hk _ => hb.block k hk⟩), h.n0.next (below_drew u), h.p.next (below_drew u), h.o⟩
theorem Cl8.put (h : Cl8 w0 B M r vp p u) (hlt : r < w0.heap.size) (hB : B ≤ w0.heap.size) (q : P2) : Cl8 w0 B M r vp q ((u.setCell ⟨vp, 0, none⟩ (.int .i64 q.1)).setCell ⟨vp, 1, none⟩ (.int .i64 q.2)) := by
  have o := h.o
  exact ⟨(h.rd.set (by omega) (by omega) _).set (by omega) (by omega) _, only_set (only_set h.gr (by omega) _) (by omega) _, (h.n0.other (by omega) _).other (by omega) _, (h.p.set 0 _).set 1 _, o⟩
theorem Cl8.fin (h : Cl8 w0 B M r vp p u) (hlt : r < w0.heap.size) (hB : B ≤ w0.heap.size) (hM : M ≤ M') (a b : Value) :
    Rd B M' ((u.setCell ⟨w0.heap.size, 0, none⟩ a).setCell ⟨w0.heap.size, 1, none⟩ b) r ∧ w0.grownBy ((u.setCell ⟨w0.heap.size, 0, none⟩ a).setCell ⟨w0.heap.size, 1, none⟩ b) (some r) :=
  ⟨((h.rd.set (by omega) hB _).set (by omega) hB _).mono hM, only_set (only_set h.gr (Nat.le_refl _) _) (Nat.le_refl _) _⟩
end
/-- What the draw says. -/
def DrawnW (B M r : Nat) (w : World) (e : Ending) (w' : World) : Prop :=
  ∃ q : P2, (-30000 ≤ q.1 ∧ q.1 ≤ 30000 ∧ -30000 ≤ q.2 ∧ q.2 ≤ 30000) ∧ e = .returned (pt q.1 q.2) ∧ Rd B M w' r ∧ w.grownBy w' (some r)
/-- The point near a polygon, before it is handed back. -/
def Got8 (w0 : World) (B M r vp : Nat) (u : World) : Prop := ∃ q : P2, (-30000 ≤ q.1 ∧ q.1 ≤ 30000 ∧ -30000 ≤ q.2 ∧ q.2 ≤ 30000) ∧ Cl8 w0 B M r vp q u
theorem Got8.any {w0 : World} {B M r vp : Nat} {u : World} (h : Got8 w0 B M r vp u) : ∃ q : P2, (-30000 ≤ q.1 ∧ q.1 ≤ 30000 ∧ -30000 ≤ q.2 ∧ q.2 ≤ 30000) ∧ Cl8 w0 B M r vp q u := h
/-- .. with the two corners' boxes. -/
structure Cl2 (w0 : World) (B M r vp : Nat) (p : P2) (va vb : Nat) (a b : P2) (u : World) : Prop where
  c : Cl8 w0 B M r vp p u
  a : Cells8 u va (ptQ a) 34
  b : Cells8 u vb (ptQ b) 34
  o : vp < va ∧ va < vb
section
variable {w0 u u' : World} {B M M' r vp va vb : Nat} {p a b : P2}
theorem Cl2.k (h : Cl2 w0 B M r vp p va vb a b u) : u.cell? ⟨va, 0, none⟩ = some (.int .i64 a.1) ∧ u.cell? ⟨va, 1, none⟩ = some (.int .i64 a.2) ∧ u.cell? ⟨vb, 0, none⟩ = some (.int .i64 b.1) ∧ u.cell? ⟨vb, 1, none⟩ = some (.int .i64 b.2) :=
  ⟨h.a.pc.1, h.a.pc.2, h.b.pc.1, h.b.pc.2⟩
theorem Cl2.pick (h : Cl2 w0 B M r vp p va vb a b u) (hr : Rd B M' u' r) (hg : u.grownBy u' (some r)) (hlt : r < w0.heap.size) : Cl2 w0 B M' r vp p va vb a b u' :=
  ⟨h.c.pick hr hg hlt, h.a.pick hg (by have := h.c.o; have := h.o; omega), h.b.pick hg (by have := h.c.o; have := h.o; omega), h.o⟩
theorem Cl2.drew (h : Cl2 w0 B M r vp p va vb a b u) : Cl2 w0 B M r vp p va vb a b u.drew := ⟨h.c.drew, h.a.next (below_drew u), h.b.next (below_drew u), h.o⟩
theorem Cl2.put (h : Cl2 w0 B M r vp p va vb a b u) (hlt : r < w0.heap.size) (hB : B ≤ w0.heap.size) (q : P2) : Cl2 w0 B M r vp q va vb a b ((u.setCell ⟨vp, 0, none⟩ (.int .i64 q.1)).setCell ⟨vp, 1, none⟩ (.int .i64 q.2)) := by
  have o := h.o
  exact ⟨h.c.put hlt hB q, (h.a.other (by omega) _).other (by omega) _, (h.b.other (by omega) _).other (by omega) _, o⟩
end
theorem Cl2.pick5 {w0 u : World} {B M r vp va vb : Nat} {p a b : P2} (h : Cl2 w0 B M r vp p va vb a b u) (hM : M ≤ 1000000) (hlt : r < w0.heap.size) :
    Calls Tryd.prog 36 #[.pointer (some ⟨r, 0, none⟩), .int .i64 5] u fun e u' => ∃ x : Int, 0 ≤ x ∧ x < 5 ∧ e = .returned (.int .i64 x) ∧ Cl2 w0 B (M + 1) r vp p va vb a b u' :=
  (Go.Proofs.YtcifokihellcdaaDoor.pick B M r 5 u h.c.rd hM).mono fun _ _ ⟨x, p0, p1, he, hr, hg, _⟩ => ⟨x, p0, p1 (by omega), he, h.pick hr hg hlt⟩
theorem flo2_bd {n : Int} (h1 : -40000 ≤ n) (h2 : n ≤ 40000) : -20000 ≤ flo n 2 ∧ flo n 2 ≤ 20000 := by unfold flo; omega
end Go.Proofs.YtcifokihellcdaaDoor
