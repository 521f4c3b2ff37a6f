/- Drawing four points from a code. -/
import Derived.Test.YtcifokihellcdaaDoorZbRd
import Derived.Test.YtcifokihellcdaaDoorEd8
namespace Go.Proofs.YtcifokihellcdaaDoor
set_option maxRecDepth 100000
open Go.RowKit
attribute [local go_sem ↓] Go.wp_at_zero Go.wp_at_succ
abbrev ptQ (x : P2) : Array Value := #[.int .i64 x.1, .int .i64 x.2]
theorem Cells8.pick {u u' : World} {b r : Nat} {cs : Array Value} {t : TypeId} (h : Cells8 u b cs t) (hg : u.grownBy u' (some r)) (hne : b ≠ r) : Cells8 u' b cs t :=
  (hg.block b h.lt (fun e => by injection e with e; exact hne e)).trans h
/-- What lies behind the draws: the reader, the four results' boxes, the four points' boxes. -/
structure Q4 (w u : World) (r M : Nat) (va vb vc vd : Nat) (a b c d : P2) : Prop where
  bel : Below w.heap.size w u
  n0 : Cells8 u w.heap.size (ptQ (0, 0)) 34
  n1 : Cells8 u (w.heap.size + 1) (ptQ (0, 0)) 34
  n2 : Cells8 u (w.heap.size + 1 + 1) (ptQ (0, 0)) 34
  n3 : Cells8 u (w.heap.size + 1 + 1 + 1) (ptQ (0, 0)) 34
  a : Cells8 u va (ptQ a) 34
  b : Cells8 u vb (ptQ b) 34
  c : Cells8 u vc (ptQ c) 34
  d : Cells8 u vd (ptQ d) 34
  o : w.heap.size + 1 + 1 + 1 + 1 < va ∧ va < vb ∧ vb < vc ∧ vc < vd
theorem Q4.put {w u : World} {r M va vb vc vd : Nat} {a b c d : P2} (h : Q4 w u r M va vb vc vd a b c d) (x : P2) : Q4 w ((u.setCell ⟨vc, 0, none⟩ (.int .i64 x.1)).setCell ⟨vc, 1, none⟩ (.int .i64 x.2)) r M va vb vc vd a b x d := by
  obtain ⟨o1, o2, o3, o4⟩ := h.o
  have f : ∀ {k : Nat} {cs : Array Value} {t : TypeId}, Cells8 u k cs t → k ≠ vc → Cells8 ((u.setCell ⟨vc, 0, none⟩ (.int .i64 x.1)).setCell ⟨vc, 1, none⟩ (.int .i64 x.2)) k cs t := fun hk hn => (hk.other hn _).other hn _
  exact ⟨below_set h.bel (by omega) _ _, f h.n0 (by omega), f h.n1 (by omega), f h.n2 (by omega), f h.n3 (by omega), f h.a (by omega), f h.b (by omega), (h.c.set 0 _).set 1 _, f h.d (by omega), h.o⟩
theorem Q4.putD {w u : World} {r M va vb vc vd : Nat} {a b c d : P2} (h : Q4 w u r M va vb vc vd a b c d) (x : P2) : Q4 w ((u.setCell ⟨vd, 0, none⟩ (.int .i64 x.1)).setCell ⟨vd, 1, none⟩ (.int .i64 x.2)) r M va vb vc vd a b c x := by
  obtain ⟨o1, o2, o3, o4⟩ := h.o
  have f : ∀ {k : Nat} {cs : Array Value} {t : TypeId}, Cells8 u k cs t → k ≠ vd → Cells8 ((u.setCell ⟨vd, 0, none⟩ (.int .i64 x.1)).setCell ⟨vd, 1, none⟩ (.int .i64 x.2)) k cs t := fun hk hn => (hk.other hn _).other hn _
  exact ⟨below_set h.bel (by omega) _ _, f h.n0 (by omega), f h.n1 (by omega), f h.n2 (by omega), f h.n3 (by omega), f h.a (by omega), f h.b (by omega), f h.c (by omega), (h.d.set 0 _).set 1 _, h.o⟩
theorem Q4.next {w u u' : World} {r M va vb vc vd : Nat} {a b c d : P2} (h : Q4 w u r M va vb vc vd a b c d) (hb : Below u.heap.size u u') : Q4 w u' r M va vb vc vd a b c d :=
  ⟨below_call h.bel hb, h.n0.next hb, h.n1.next hb, h.n2.next hb, h.n3.next hb, h.a.next hb, h.b.next hb, h.c.next hb, h.d.next hb, h.o⟩
theorem Cells8.pc {u : World} {k : Nat} {x : P2} {t : TypeId} (h : Cells8 u k (ptQ x) t) : u.cell? ⟨k, 0, none⟩ = some (.int .i64 x.1) ∧ u.cell? ⟨k, 1, none⟩ = some (.int .i64 x.2) := ⟨h.cell rfl, h.cell rfl⟩
theorem Cells8.pf {u : World} {k : Nat} {x : P2} {t : TypeId} (h : Cells8 u k (ptQ x) t) : u.frozen? ⟨k, 0, none⟩ = false ∧ u.frozen? ⟨k, 1, none⟩ = false := ⟨h.frozen, h.frozen⟩
/-- What the draw says. -/
def GotQ4 (w : World) (e : Ending) (w' : World) : Prop := ∃ a b c d : P2, (small a.1 ∧ small a.2 ∧ small b.1 ∧ small b.2) ∧ e = .returned (.tuple #[pt a.1 a.2, pt b.1 b.2, pt c.1 c.2, pt d.1 d.2]) ∧ Below w.heap.size w w'
end Go.Proofs.YtcifokihellcdaaDoor
