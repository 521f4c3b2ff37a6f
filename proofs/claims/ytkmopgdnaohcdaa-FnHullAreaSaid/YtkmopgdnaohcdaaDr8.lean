/- What the laws on polygons draw from a code. -/
import Derived.Test.YtkmopgdnaohcdaaDl8
import Derived.Deep.RegionHeld3
namespace Go.Proofs.Ytkmopgdnaohcdaa
set_option maxRecDepth 100000
open Go.RowKit
attribute [local go_sem ↓] Go.wp_at_zero Go.wp_at_succ
/-- What a draw of a polygon says to a law. -/
def GotQ (N : Nat) (w : World) (e : Ending) (w' : World) : Prop :=
  ∃ (s : Sl) (ps : List P2), e = .returned (.slice s.a s.len s.cap) ∧ PL w' s.a s.len ps ∧ ps.length ≤ N ∧ Below w.heap.size w w' ∧ s.len ≤ s.cap
def GotQP (N : Nat) (w : World) (e : Ending) (w' : World) : Prop :=
  ∃ (s : Sl) (ps : List P2) (p : P2), e = .returned (.tuple #[.slice s.a s.len s.cap, pt p.1 p.2]) ∧ PL w' s.a s.len ps ∧ ps.length ≤ N ∧ Below w.heap.size w w' ∧ s.len ≤ s.cap
def GotQPP (N : Nat) (w : World) (e : Ending) (w' : World) : Prop :=
  ∃ (s : Sl) (ps : List P2) (p q : P2), e = .returned (.tuple #[.slice s.a s.len s.cap, pt p.1 p.2, pt q.1 q.2]) ∧ PL w' s.a s.len ps ∧ ps.length ≤ N ∧ Below w.heap.size w w' ∧ s.len ≤ s.cap
def GotQQ (N : Nat) (w : World) (e : Ending) (w' : World) : Prop :=
  ∃ (s z : Sl) (ps qs : List P2), e = .returned (.tuple #[.slice s.a s.len s.cap, .slice z.a z.len z.cap]) ∧ PL w' s.a s.len ps ∧ ps.length ≤ N ∧ PL w' z.a z.len qs ∧ qs.length ≤ N ∧ Below w.heap.size w w'
theorem drawConvexValid (w : World) (a : Option Addr) (len cap : Nat) (zs : List Int) (h : Bytes w a len cap zs) :
    Calls Try.prog 19 #[.slice a len cap] w (GotQ 16 w) := by
  go_enter Try.func19, Try.ntmps19
  go_wp2_with fail
  refine (open_at w a len cap zs h _ rfl).mono ?_
  rintro e w1 ⟨rfl, hr1, hb1⟩
  go_wp2_with fail
  refine (l20Polygon _ _ _ 2 _ hr1 (by omega) (.inr ⟨by omega, by omega⟩)).mono ?_
  rintro e w2 ⟨s, ps, rfl, hl, hn, hs, S⟩
  have HG := Lib.hid (show PL w2 s.a s.len ps ∧ Below w.heap.size w w2 ∧ s.len ≤ s.cap from ⟨(OwnPt.ints S.row).pl, hb1.grown S.gr hb1.size (fun q hq => by injection hq with hq; omega), S.row.cap8⟩)
  clear S hr1 hb1 h hl hs
  go_wp2
  go_ret
  exact ⟨s, ps, rfl, HG.out.1, hn, HG.out.2⟩
theorem drawDoubleArea (w : World) (a : Option Addr) (len cap : Nat) (zs : List Int) (h : Bytes w a len cap zs) :
    Calls Try.prog 40 #[.slice a len cap] w (GotQ 16 w) := by
  go_enter Try.func40, Try.ntmps40
  go_wp2_with fail
  refine (open_at w a len cap zs h _ rfl).mono ?_
  rintro e w1 ⟨rfl, hr1, hb1⟩
  go_wp2_with fail
  refine (l20Polygon _ _ _ 6 _ hr1 (by omega) (.inr ⟨by omega, by omega⟩)).mono ?_
  rintro e w2 ⟨s, ps, rfl, hl, hn, hs, S⟩
  have HG := Lib.hid (show PL w2 s.a s.len ps ∧ Below w.heap.size w w2 ∧ s.len ≤ s.cap from ⟨(OwnPt.ints S.row).pl, hb1.grown S.gr hb1.size (fun q hq => by injection hq with hq; omega), S.row.cap8⟩)
  clear S hr1 hb1 h hl hs
  go_wp2
  go_ret
  exact ⟨s, ps, rfl, HG.out.1, hn, HG.out.2⟩
theorem drawHullOf (w : World) (a : Option Addr) (len cap : Nat) (zs : List Int) (h : Bytes w a len cap zs) :
    Calls Try.prog 42 #[.slice a len cap] w (GotQ 16 w) := by
  go_enter Try.func42, Try.ntmps42
  go_wp2_with fail
  refine (open_at w a len cap zs h _ rfl).mono ?_
  rintro e w1 ⟨rfl, hr1, hb1⟩
  go_wp2_with fail
  refine (l20Cloud _ _ _ 40 _ hr1 (by omega) (.inr ⟨by omega, by omega⟩)).mono ?_
  rintro e w2 ⟨s, ps, rfl, hp, hn, hs, hr2, hg2, hcp⟩
  have HG := Lib.hid (show PL w2 s.a s.len ps ∧ Below w.heap.size w w2 ∧ s.len ≤ s.cap from ⟨hp, hb1.grown hg2 hb1.size (fun q hq => by injection hq with hq; omega), hcp⟩)
  clear hcp
  have hn16 : ps.length ≤ 16 := by omega
  clear hp hr1 hb1 h hs hr2 hg2 hn
  go_wp2
  go_ret
  exact ⟨s, ps, rfl, HG.out.1, hn16, HG.out.2⟩
theorem drawInsideConvex (w : World) (a : Option Addr) (len cap : Nat) (zs : List Int) (h : Bytes w a len cap zs) :
    Calls Try.prog 24 #[.slice a len cap] w (GotQP 16 w) := by
  have h' := bytes_box h (.cells #[.int .i64 0, .int .i64 0] 28)
  have H0 := Lib.hid (below_box w (.cells #[.int .i64 0, .int .i64 0] 28))
  have N0 := Lib.hid (Cells8.new w (ptQ (0, 0)) 28)
  go_enter Try.func24, Try.ntmps24
  go_wp2_with fail
  refine (open_at _ a len cap zs h' (w.heap.size + 1) (by simp)).mono ?_
  rintro e w1 ⟨rfl, hr1, hb1⟩
  have hlt1 := hr1.lt
  have HB1 := Lib.hid (below_call H0.out hb1)
  replace N0 := Lib.hid (N0.out.next hb1)
  clear h h' H0 hb1
  go_wp2_with fail
  refine (l20Polygon _ _ _ 9 _ hr1 (by omega) (.inr ⟨by omega, by omega⟩)).mono ?_
  rintro e w2 ⟨s, ps, rfl, hl, hn, hs, S⟩
  have HB2 := Lib.hid (HB1.out.grown S.gr HB1.out.size (fun q hq => by injection hq with hq; omega))
  replace N0 := Lib.hid (N0.out.pick S.gr (by omega))
  have HS := Lib.hid S
  have HQ := Lib.hid hs
  clear HB1 hr1 S hs hl
  go_wp2_with fail
  refine (l20Close _ _ _ w1.heap.size 12 s ps _ HS.out.rd (by omega) (.inr ⟨by omega, by omega⟩) HS.out.row hlt1 hn HQ.out).mono ?_
  rintro e w3 ⟨q, hq, rfl, hr3, hg3⟩
  have HP3 := Lib.hid (HS.out.row.pick8 hg3 hlt1)
  have HB3 := Lib.hid (HB2.out.grown hg3 HB2.out.size (fun q hq => by injection hq with hq; omega))
  replace N0 := Lib.hid (N0.out.pick hg3 (by omega))
  clear HB2 HS HQ hr3 hg3 hq
  obtain ⟨c0, c1⟩ := N0.out.pc
  obtain ⟨c2, c3⟩ := N0.out.pf
  have HCP := Lib.hid HP3.out.cap8
  have HF := Lib.hid (show PL ((w3.setCell ⟨w.heap.size, 0, none⟩ (.int .i64 q.1)).setCell ⟨w.heap.size, 1, none⟩ (.int .i64 q.2)) s.a s.len ps ∧ Below w.heap.size w ((w3.setCell ⟨w.heap.size, 0, none⟩ (.int .i64 q.1)).setCell ⟨w.heap.size, 1, none⟩ (.int .i64 q.2)) from
    ⟨(OwnPt.ints (HP3.out.pick8 (grown_box w3 w.heap.size (.int .i64 q.1) (.int .i64 q.2)) (by omega))).pl, below_set HB3.out (Nat.le_refl _) _ _⟩)
  clear N0 HP3 HB3
  go_wp2
  exact bodyPost_ret (v := .tuple #[.slice s.a s.len s.cap, pt q.1 q.2]) (by simp [results, Try.results24, go_sem, c0, c1]) rfl ⟨s, ps, q, rfl, HF.out.1, hn, HF.out.2, HCP.out⟩
set_option maxHeartbeats 2000000 in
theorem drawSegmentHits (w : World) (a : Option Addr) (len cap : Nat) (zs : List Int) (h : Bytes w a len cap zs) :
    Calls Try.prog 34 #[.slice a len cap] w (GotQPP 16 w) := by
  have h' := bytes_box (bytes_box h (.cells #[.int .i64 0, .int .i64 0] 28)) (.cells #[.int .i64 0, .int .i64 0] 28)
  have H0 := Lib.hid (below_box2 w (.cells #[.int .i64 0, .int .i64 0] 28) (.cells #[.int .i64 0, .int .i64 0] 28))
  have N0 := Lib.hid ((Cells8.new w (ptQ (0, 0)) 28).alloc (.cells #[.int .i64 0, .int .i64 0] 28))
  have N1' := Cells8.new (w.alloc (.cells #[.int .i64 0, .int .i64 0] 28)) (ptQ (0, 0)) 28
  simp only [World.size_alloc] at N1'
  have N1 := Lib.hid N1'
  clear N1'
  go_enter Try.func34, Try.ntmps34
  go_wp2_with fail
  refine (open_at _ a len cap zs h' (w.heap.size + 1 + 1) (by simp)).mono ?_
  rintro e w1 ⟨rfl, hr1, hb1⟩
  have hlt1 := hr1.lt
  have HB1 := Lib.hid (below_call H0.out hb1)
  replace N0 := Lib.hid (N0.out.next hb1)
  replace N1 := Lib.hid (N1.out.next hb1)
  clear h h' H0 hb1
  go_wp2_with fail
  refine (l20Polygon _ _ _ 12 _ hr1 (by omega) (.inr ⟨by omega, by omega⟩)).mono ?_
  rintro e w2 ⟨s, ps, rfl, hl, hn, hs, S⟩
  have HB2 := Lib.hid (HB1.out.grown S.gr HB1.out.size (fun q hq => by injection hq with hq; omega))
  replace N0 := Lib.hid (N0.out.pick S.gr (by omega))
  replace N1 := Lib.hid (N1.out.pick S.gr (by omega))
  have HS := Lib.hid S
  have HQ := Lib.hid hs
  have hsz2 := S.gr.size
  clear HB1 hr1 S hs hl
  go_wp2_with fail
  refine (l20Close _ _ _ w1.heap.size 12 s ps _ HS.out.rd (by omega) (.inr ⟨by omega, by omega⟩) HS.out.row hlt1 hn HQ.out).mono ?_
  rintro e w3 ⟨p, hp, rfl, hr3, hg3⟩
  have HP3 := Lib.hid ((HS.out.row.pick8 hg3 hlt1).next (below_box w3 (.cells #[.int .i64 p.1, .int .i64 p.2] 28)))
  have HB3 := Lib.hid ((HB2.out.grown hg3 HB2.out.size (fun q hq => by injection hq with hq; omega)).alloc (HB2.out.grown hg3 HB2.out.size (fun q hq => by injection hq with hq; omega)).size (.cells #[.int .i64 p.1, .int .i64 p.2] 28))
  replace N0 := Lib.hid ((N0.out.pick hg3 (by omega)).alloc (.cells #[.int .i64 p.1, .int .i64 p.2] 28))
  replace N1 := Lib.hid ((N1.out.pick hg3 (by omega)).alloc (.cells #[.int .i64 p.1, .int .i64 p.2] 28))
  have NV := Lib.hid (Cells8.new w3 (ptQ p) 28)
  have HR3 := Lib.hid (hr3.alloc (.cells #[.int .i64 p.1, .int .i64 p.2] 28))
  have hsz3 := hg3.size
  have HCP := Lib.hid HP3.out.cap8
  clear HB2 HS HQ hr3 hg3 hp
  go_upto_region 4 with fail
  have hv : w.heap.size + 1 + 1 < w3.heap.size := by omega
  generalize w3.alloc (.cells #[.int .i64 p.1, .int .i64 p.2] 28) = w4 at *
  generalize w3.heap.size = vp at *
  clear hsz2 hsz3
  have k0 := (NV.out.next (below_drew w4)).pc
  have HPT := Lib.hid (l20Point _ _ _ 12 w4.drew HR3.out.drew (by omega) (by omega) (by omega))
  have n0v : w.heap.size ≠ vp := by omega
  have n1v : w.heap.size + 1 ≠ vp := by omega
  have nBel : w4.grownBy w4.drew (some (w.heap.size + 1 + 1)) := by have hb := below_drew w4; exact ⟨hb.os, hb.tape, hb.output, hb.size, fun k hk _ => hb.block k hk⟩
  replace nBel := Lib.hid nBel
  clear HR3
  go_region_held3 (fun u => u.cell? ⟨vp, 0, none⟩ = some (.int .i64 p.1) ∧ u.cell? ⟨vp, 1, none⟩ = some (.int .i64 p.2)) (first | exact k0 | exact k1 | exact k2 | exact k3) (first
    | (go_at_call 65
       (with_reducible refine HPT.out.mono ?_)
       rintro e w5 ⟨x, y, t1, t2, t3, t4, rfl, hr5, hg5⟩
       have hgg := nBel.out.trans hg5
       have NV5 := NV.out.pick hgg (by omega)
       have k1 := NV5.pc
       have N05 := Lib.hid (N0.out.pick hgg (by omega))
       have N15 := Lib.hid (N1.out.pick hgg (by omega))
       have HP5 := Lib.hid (HP3.out.pick8 hgg (by omega))
       have HB5 := Lib.hid (HB3.out.grown hgg HB3.out.size (fun q hq => by injection hq with hq; omega))
       obtain ⟨c0, c1⟩ := N05.out.pc
       obtain ⟨c2, c3⟩ := N05.out.pf
       obtain ⟨c4, c5⟩ := N15.out.pc
       obtain ⟨c6, c7⟩ := N15.out.pf
       have k2 := ((NV5.other (i := 0) n0v.symm (.int .i64 p.1)).other (i := 1) n0v.symm (.int .i64 p.2)).pc
       have k3 := ((((NV5.other (i := 0) n0v.symm (.int .i64 p.1)).other (i := 1) n0v.symm (.int .i64 p.2)).other (i := 0) n1v.symm (.int .i64 x)).other (i := 1) n1v.symm (.int .i64 y)).pc
       have HF := Lib.hid (show PL ((((w5.setCell ⟨w.heap.size, 0, none⟩ (.int .i64 p.1)).setCell ⟨w.heap.size, 1, none⟩ (.int .i64 p.2)).setCell ⟨w.heap.size + 1, 0, none⟩ (.int .i64 x)).setCell ⟨w.heap.size + 1, 1, none⟩ (.int .i64 y)) s.a s.len ps ∧ Below w.heap.size w ((((w5.setCell ⟨w.heap.size, 0, none⟩ (.int .i64 p.1)).setCell ⟨w.heap.size, 1, none⟩ (.int .i64 p.2)).setCell ⟨w.heap.size + 1, 0, none⟩ (.int .i64 x)).setCell ⟨w.heap.size + 1, 1, none⟩ (.int .i64 y)) from
         ⟨(OwnPt.ints ((HP5.out.pick8 (grown_box w5 w.heap.size (.int .i64 p.1) (.int .i64 p.2)) (by omega)).pick8 (grown_box _ (w.heap.size + 1) (.int .i64 x) (.int .i64 y)) (by omega))).pl, below_set (below_set HB5.out (Nat.le_refl _) _ _) (by omega) _ _⟩)
       clear hgg NV5 hr5 hg5 t1 t2 t3 t4)
    | fail)
  go_wp2
  exact bodyPost_ret (v := .tuple #[.slice s.a s.len s.cap, pt p.1 p.2, pt x y]) (by simp [results, Try.results34, go_sem, c0, c1, c4, c5]) rfl ⟨s, ps, p, (x, y), rfl, HF.out.1, hn, HF.out.2, HCP.out⟩
/-- Two polygons drawn. -/
def MB8 (w : World) (s : Sl) (ps : List P2) (v : Value) (u : World) : Prop := ∃ (z : Sl) (qs : List P2), v = .slice z.a z.len z.cap ∧ PL u s.a s.len ps ∧ PL u z.a z.len qs ∧ qs.length ≤ 16 ∧ Below w.heap.size w u
theorem MB8.any {w u : World} {s : Sl} {ps : List P2} {v : Value} (h : MB8 w s ps v u) : ∃ (z : Sl) (qs : List P2), v = .slice z.a z.len z.cap ∧ PL u s.a s.len ps ∧ PL u z.a z.len qs ∧ qs.length ≤ 16 ∧ Below w.heap.size w u := h
theorem MB8.got {w u : World} {s : Sl} {ps : List P2} {v : Value} (h : MB8 w s ps v u) (hn : ps.length ≤ 16) : GotQQ 16 w (.returned (.tuple #[.slice s.a s.len s.cap, v])) u := by
  obtain ⟨z, qs, rfl, hp, hq, hqn, hb⟩ := h
  exact ⟨s, z, ps, qs, rfl, hp, hn, hq, hqn, hb⟩
theorem pl3q (W : World) (a b c : P2) (T : TypeId) : PL (W.alloc (.cells #[.int .i64 a.1, .int .i64 a.2, .int .i64 b.1, .int .i64 b.2, .int .i64 c.1, .int .i64 c.2] T)) (some ⟨W.heap.size, 0, none⟩) 3 [a, b, c] := by
  have q := Cells8.new W #[.int .i64 a.1, .int .i64 a.2, .int .i64 b.1, .int .i64 b.2, .int .i64 c.1, .int .i64 c.2] T
  refine ⟨rfl, .inr ⟨_, 0, rfl, q.lt, fun i hi => ?_⟩⟩
  obtain rfl | rfl | rfl : i = 0 ∨ i = 1 ∨ i = 2 := by omega
  · exact ⟨q.cell rfl, q.cell rfl⟩
  · exact ⟨q.cell rfl, q.cell rfl⟩
  · exact ⟨q.cell rfl, q.cell rfl⟩
set_option maxHeartbeats 2000000 in
theorem drawConvexMeet (w : World) (a : Option Addr) (len cap : Nat) (zs : List Int) (h : Bytes w a len cap zs) :
    Calls Try.prog 37 #[.slice a len cap] w (GotQQ 16 w) := by
  go_enter Try.func37, Try.ntmps37
  go_wp2_with fail
  refine (open_at w a len cap zs h _ rfl).mono ?_
  rintro e w1 ⟨rfl, hr1, hb1⟩
  have hlt1 := hr1.lt
  have HB1 := Lib.hid hb1
  clear h hb1
  go_wp2_with fail
  refine (l20Polygon _ _ _ 12 _ hr1 (by omega) (.inr ⟨by omega, by omega⟩)).mono ?_
  rintro e w2 ⟨s, ps, rfl, hl, hn, hs, S⟩
  have HB2 := Lib.hid (HB1.out.grown S.gr HB1.out.size (fun q hq => by injection hq with hq; omega))
  have HP2 := Lib.hid S.row
  have HR2 := Lib.hid S.rd
  have hlt2 := S.rd.lt
  clear HB1 hr1 S hs hl
  go_wp2_with fail
  refine (l20Polygon _ _ _ 12 _ HR2.out (by omega) (.inr ⟨by omega, by omega⟩)).mono ?_
  rintro e w3 ⟨z, qs, rfl, hl, hn2, hs, S⟩
  have HB3 := Lib.hid (HB2.out.grown S.gr HB2.out.size (fun q hq => by injection hq with hq; omega))
  have HP3 := Lib.hid (HP2.out.pick8 S.gr hlt1)
  have HQ3 := Lib.hid S.row
  have HR3 := Lib.hid S.rd
  clear HB2 HP2 HR2 S hs hl
  go_wp2_with fail
  refine (pick _ _ _ 5 _ HR3.out (by omega)).mono ?_
  rintro e w4 ⟨x, x0, x1, rfl, hr4, hg4, hs4⟩
  have HB4 := Lib.hid (HB3.out.grown hg4 HB3.out.size (fun q hq => by injection hq with hq; omega))
  have HP4 := Lib.hid (HP3.out.pick8 hg4 hlt1)
  have HQ4 := Lib.hid (HQ3.out.pick8 hg4 hlt2)
  clear HB3 HP3 HQ3 HR3 hr4 hg4 hs4 x1
  have HF := Lib.hid (show MB8 w s ps (.slice z.a z.len z.cap) w4 from ⟨z, qs, rfl, (OwnPt.ints HP4.out).pl, (OwnPt.ints HQ4.out).pl, hn2, HB4.out⟩)
  have HG := Lib.hid (show MB8 w s ps (.slice (some ⟨w4.heap.size, 0, none⟩) 3 3) (w4.alloc (.cells #[.int .i64 (-900), .int .i64 (-900), .int .i64 900, .int .i64 (-900), .int .i64 0, .int .i64 900] 28)) from
    ⟨⟨_, 3, 3⟩, [(-900, -900), (900, -900), (0, 900)], rfl, (OwnPt.ints HP4.out).pl.next (below_box _ _), pl3q w4 (-900, -900) (900, -900) (0, 900) 28, by simp, HB4.out.alloc HB4.out.size _⟩)
  have HN := Lib.hid hn
  clear HP4 HQ4 HB4 hn hn2
  by_cases hx : x = 0
  · subst hx
    by_cases hp : 0 < s.len
    · have b1 : ¬ ((s.len : Int) ≤ 0) := by omega
      have b1' : decide ((s.len : Int) > 0) = true := decide_eq_true (by omega)
      clear HF
      go_wp2
      go_ret2
      exact HG.out.got HN.out
    · have b1 : (s.len : Int) ≤ 0 := by omega
      have b1' : decide ((s.len : Int) > 0) = false := decide_eq_false (by omega)
      clear HG
      go_wp2
      go_ret2
      exact HF.out.got HN.out
  · have hx' : (x == 0) = false := by simpa using hx
    clear HG
    go_wp2
    go_ret2
    exact HF.out.got HN.out
end Go.Proofs.Ytkmopgdnaohcdaa
