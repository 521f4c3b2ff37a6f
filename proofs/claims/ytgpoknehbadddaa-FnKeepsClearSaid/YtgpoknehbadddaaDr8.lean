/- What the laws on polygons draw from a code. -/
import Derived.Test.YtgpoknehbadddaaDl8
import Derived.Deep.RegionHeld3
namespace Go.Proofs.Ytgpoknehbadddaa
set_option maxRecDepth 100000
open Go.RowKit
attribute [local go_sem ↓] Go.wp_at_zero Go.wp_at_succ
/-- What a draw of a polygon says to a law. -/
def GotQ (N : Nat) (w : World) (e : Ending) (w' : World) : Prop :=
  ∃ (s : Sl) (ps : List P2), e = .returned (.slice s.a s.len s.cap) ∧ PL w' s.a s.len ps ∧ ps.length ≤ N ∧ Below w.heap.size w w' ∧ s.len ≤ s.cap
def GotQP (N : Nat) (w : World) (e : Ending) (w' : World) : Prop :=
  ∃ (s : Sl) (ps : List P2) (p : P2), e = .returned (.tuple #[.slice s.a s.len s.cap, pt p.1 p.2]) ∧ PL w' s.a s.len ps ∧ ps.length ≤ N ∧ Below w.heap.size w w' ∧ s.len ≤ s.cap
/-- .. and that the list is the draw's own. -/
def GotQPO (N : Nat) (w : World) (e : Ending) (w' : World) : Prop :=
  ∃ (s : Sl) (ps : List P2) (p : P2), e = .returned (.tuple #[.slice s.a s.len s.cap, pt p.1 p.2]) ∧ OwnPt w' w.heap.size (.slice s.a s.len s.cap) ps ∧ ps.length ≤ N ∧ Below w.heap.size w w'
def GotQPP (N : Nat) (w : World) (e : Ending) (w' : World) : Prop :=
  ∃ (s : Sl) (ps : List P2) (p q : P2), e = .returned (.tuple #[.slice s.a s.len s.cap, pt p.1 p.2, pt q.1 q.2]) ∧ PL w' s.a s.len ps ∧ ps.length ≤ N ∧ Below w.heap.size w w' ∧ s.len ≤ s.cap
def GotQQ (N : Nat) (w : World) (e : Ending) (w' : World) : Prop :=
  ∃ (s z : Sl) (ps qs : List P2), e = .returned (.tuple #[.slice s.a s.len s.cap, .slice z.a z.len z.cap]) ∧ PL w' s.a s.len ps ∧ ps.length ≤ N ∧ PL w' z.a z.len qs ∧ qs.length ≤ N ∧ Below w.heap.size w w'
theorem drawInsideConvexO (w : World) (a : Option Addr) (len cap : Nat) (zs : List Int) (h : Bytes w a len cap zs) :
    Calls Try.prog 42 #[.slice a len cap] w (GotQPO 16 w) := by
  have h' := bytes_box h (.cells #[.int .i64 0, .int .i64 0] 24)
  have H0 := Lib.hid (below_box w (.cells #[.int .i64 0, .int .i64 0] 24))
  have N0 := Lib.hid (Cells8.new w (ptQ (0, 0)) 24)
  go_enter Try.func42, Try.ntmps42
  go_wp2_with fail
  refine (open_at _ a len cap zs h' (w.heap.size + 1) (by simp)).mono ?_
  rintro e w1 ⟨rfl, hr1, hb1⟩
  have hlt1 := hr1.lt
  have HB1 := Lib.hid (below_call H0.out hb1)
  replace N0 := Lib.hid (N0.out.next hb1)
  clear h h' H0 hb1
  go_wp2_with fail
  refine (l20Polygon _ _ _ 9 _ hr1 (by omega) (.inr ⟨by omega, by omega⟩)).mono ?_
  rintro e w2 ⟨s, ps, rfl, hl, hn, hs, S⟩
  have HB2 := Lib.hid (HB1.out.grown S.gr HB1.out.size (fun q hq => by injection hq with hq; omega))
  replace N0 := Lib.hid (N0.out.pick S.gr (by omega))
  have HS := Lib.hid S
  have HQ := Lib.hid hs
  clear HB1 hr1 S hs hl
  go_wp2_with fail
  refine (l20Close _ _ _ w1.heap.size 12 s ps _ HS.out.rd (by omega) (.inr ⟨by omega, by omega⟩) HS.out.row hlt1 hn HQ.out).mono ?_
  rintro e w3 ⟨q, hq, rfl, hr3, hg3⟩
  have HP3 := Lib.hid (HS.out.row.pick8 hg3 hlt1)
  have HB3 := Lib.hid (HB2.out.grown hg3 HB2.out.size (fun q hq => by injection hq with hq; omega))
  replace N0 := Lib.hid (N0.out.pick hg3 (by omega))
  clear HB2 HS HQ hr3 hg3 hq
  obtain ⟨c0, c1⟩ := N0.out.pc
  obtain ⟨c2, c3⟩ := N0.out.pf
  have HF := Lib.hid (show OwnPt ((w3.setCell ⟨w.heap.size, 0, none⟩ (.int .i64 q.1)).setCell ⟨w.heap.size, 1, none⟩ (.int .i64 q.2)) w.heap.size (.slice s.a s.len s.cap) ps ∧ Below w.heap.size w ((w3.setCell ⟨w.heap.size, 0, none⟩ (.int .i64 q.1)).setCell ⟨w.heap.size, 1, none⟩ (.int .i64 q.2)) from
    ⟨(HP3.out.pick8 (grown_box w3 w.heap.size (.int .i64 q.1) (.int .i64 q.2)) (by omega)).down6 (by omega), below_set HB3.out (Nat.le_refl _) _ _⟩)
  clear N0 HP3 HB3
  go_wp2
  exact bodyPost_ret (v := .tuple #[.slice s.a s.len s.cap, pt q.1 q.2]) (by simp [results, Try.results42, go_sem, c0, c1]) rfl ⟨s, ps, q, rfl, HF.out.1, hn, HF.out.2⟩
theorem drawInsideConvex (w : World) (a : Option Addr) (len cap : Nat) (zs : List Int) (h : Bytes w a len cap zs) :
    Calls Try.prog 42 #[.slice a len cap] w (GotQP 16 w) :=
  (drawInsideConvexO w a len cap zs h).mono fun _ _ ⟨s, ps, q, he, ho, hn, hb⟩ => ⟨s, ps, q, he, (OwnPt.ints ho).pl, hn, hb, ho.cap8⟩
/-- Two polygons drawn. -/
def MB8 (w : World) (s : Sl) (ps : List P2) (v : Value) (u : World) : Prop := ∃ (z : Sl) (qs : List P2), v = .slice z.a z.len z.cap ∧ PL u s.a s.len ps ∧ PL u z.a z.len qs ∧ qs.length ≤ 16 ∧ Below w.heap.size w u
theorem MB8.any {w u : World} {s : Sl} {ps : List P2} {v : Value} (h : MB8 w s ps v u) : ∃ (z : Sl) (qs : List P2), v = .slice z.a z.len z.cap ∧ PL u s.a s.len ps ∧ PL u z.a z.len qs ∧ qs.length ≤ 16 ∧ Below w.heap.size w u := h
theorem MB8.got {w u : World} {s : Sl} {ps : List P2} {v : Value} (h : MB8 w s ps v u) (hn : ps.length ≤ 16) : GotQQ 16 w (.returned (.tuple #[.slice s.a s.len s.cap, v])) u := by
  obtain ⟨z, qs, rfl, hp, hq, hqn, hb⟩ := h
  exact ⟨s, z, ps, qs, rfl, hp, hn, hq, hqn, hb⟩
theorem pl3q (W : World) (a b c : P2) (T : TypeId) : PL (W.alloc (.cells #[.int .i64 a.1, .int .i64 a.2, .int .i64 b.1, .int .i64 b.2, .int .i64 c.1, .int .i64 c.2] T)) (some ⟨W.heap.size, 0, none⟩) 3 [a, b, c] := by
  have q := Cells8.new W #[.int .i64 a.1, .int .i64 a.2, .int .i64 b.1, .int .i64 b.2, .int .i64 c.1, .int .i64 c.2] T
  refine ⟨rfl, .inr ⟨_, 0, rfl, q.lt, fun i hi => ?_⟩⟩
  obtain rfl | rfl | rfl : i = 0 ∨ i = 1 ∨ i = 2 := by omega
  · exact ⟨q.cell rfl, q.cell rfl⟩
  · exact ⟨q.cell rfl, q.cell rfl⟩
  · exact ⟨q.cell rfl, q.cell rfl⟩
end Go.Proofs.Ytgpoknehbadddaa
