/- The walks of the exact laws on SegmentsMeet, InsideConvex and SegmentHits. -/
import Derived.Test.YtkmopgdnaohcdaaLk8
import Derived.Deep.RegionHeld3
namespace Go.Proofs.Ytkmopgdnaohcdaa
set_option maxRecDepth 100000
open Go.RowKit
attribute [local go_sem ↓] Go.wp_at_zero Go.wp_at_succ
theorem box4L (w : World) (a b c d : P2) : let w0 := (((w.alloc (.cells #[.int .i64 a.1, .int .i64 a.2] 54)).alloc (.cells #[.int .i64 b.1, .int .i64 b.2] 54)).alloc (.cells #[.int .i64 c.1, .int .i64 c.2] 54)).alloc (.cells #[.int .i64 d.1, .int .i64 d.2] 54)
    AtP w0 w.heap.size a.1 a.2 ∧ AtP w0 (w.heap.size + 1) b.1 b.2 ∧ AtP w0 (w.heap.size + 1 + 1) c.1 c.2 ∧ AtP w0 (w.heap.size + 1 + 1 + 1) d.1 d.2 := by
  have k1 := AtP.box w a.1 a.2 54
  have k2 := AtP.box (w.alloc (.cells #[.int .i64 a.1, .int .i64 a.2] 54)) b.1 b.2 54
  have k3 := AtP.box ((w.alloc (.cells #[.int .i64 a.1, .int .i64 a.2] 54)).alloc (.cells #[.int .i64 b.1, .int .i64 b.2] 54)) c.1 c.2 54
  have k4 := AtP.box (((w.alloc (.cells #[.int .i64 a.1, .int .i64 a.2] 54)).alloc (.cells #[.int .i64 b.1, .int .i64 b.2] 54)).alloc (.cells #[.int .i64 c.1, .int .i64 c.2] 54)) d.1 d.2 54
  simp only [World.size_alloc] at k2 k3 k4
  exact ⟨((k1.next (below_box _ _)).next (below_box _ _)).next (below_box _ _), (k2.next (below_box _ _)).next (below_box _ _), k3.next (below_box _ _), k4⟩
set_option maxHeartbeats 2000000 in
theorem walkFnExactSegmentsMeet (a b c d : P2) (w : World) :
    Calls Try.prog 14 #[pt a.1 a.2, pt b.1 b.2, pt c.1 c.2, pt d.1 d.2] w fun e w' => e = .returned (.bool true) ∧ Below w.heap.size w w' := by
  have HB := Lib.hid (below_box4 w (.cells #[.int .i64 a.1, .int .i64 a.2] 54) (.cells #[.int .i64 b.1, .int .i64 b.2] 54) (.cells #[.int .i64 c.1, .int .i64 c.2] 54) (.cells #[.int .i64 d.1, .int .i64 d.2] 54))
  have HX := Lib.hid (box4L w a b c d)
  have HS := Lib.hid (fun u => sSegs a b c d u)
  have HI := Lib.hid (fun u => iSegs a b c d u)
  generalize decide (segV a b c d) = r at *
  have e0 : (r != r) = false := by simp
  go_enter Try.func14, Try.ntmps14
  go_upto_region 1 with fail
  generalize (((w.alloc (.cells #[.int .i64 a.1, .int .i64 a.2] 54)).alloc (.cells #[.int .i64 b.1, .int .i64 b.2] 54)).alloc (.cells #[.int .i64 c.1, .int .i64 c.2] 54)).alloc (.cells #[.int .i64 d.1, .int .i64 d.2] 54) = w0 at *
  obtain ⟨P1, P2', P3, P4⟩ := HX.out
  obtain ⟨a1, a2⟩ := P1.kepts
  obtain ⟨b1, b2⟩ := P2'.kepts
  obtain ⟨c1, c2⟩ := P3.kepts
  obtain ⟨d1, d2⟩ := P4.kepts
  clear P1 P2' P3 P4
  have T1 := Lib.hid (fun (n : Kept w0) => keptCall (toPoint a.1 a.2 n.u))
  have T2 := Lib.hid (fun (n : Kept w0) => keptCall (toPoint b.1 b.2 n.u))
  have T3 := Lib.hid (fun (n : Kept w0) => keptCall (toPoint c.1 c.2 n.u))
  have T4 := Lib.hid (fun (n : Kept w0) => keptCall (toPoint d.1 d.2 n.u))
  have TS := Lib.hid (fun (n : Kept w0) => keptCall (HS.out n.u))
  refine wp_region_kept (by kernel_rfl) (by kernel_rfl) ?_
  repeat (go_big_quiet_step ((first | (go_at_call 52; with_reducible exact T1.out _) | (go_at_call 52; with_reducible exact T2.out _) | (go_at_call 52; with_reducible exact T3.out _) | (go_at_call 52; with_reducible exact T4.out _) | (go_at_call 32; with_reducible exact TS.out _))))
  refine wpQuiet_nil ?_
  rintro w1 ⟨⟨_, K1⟩, rfl⟩
  have HB1 := Lib.hid (below_call HB.out K1)
  have HX1 := Lib.hid (at4_next HX.out K1)
  clear a1 a2 b1 b2 c1 c2 d1 d2 T1 T2 T3 T4 TS
  go_upto_region 2 with fail
  obtain ⟨P1, P2', P3, P4⟩ := HX1.out
  obtain ⟨a1, a2⟩ := P1.kepts
  obtain ⟨b1, b2⟩ := P2'.kepts
  obtain ⟨c1, c2⟩ := P3.kepts
  obtain ⟨d1, d2⟩ := P4.kepts
  clear P1 P2' P3 P4
  have T1 := Lib.hid (fun (n : Kept w1) => keptCall (toPoint a.1 a.2 n.u))
  have T2 := Lib.hid (fun (n : Kept w1) => keptCall (toPoint b.1 b.2 n.u))
  have T3 := Lib.hid (fun (n : Kept w1) => keptCall (toPoint c.1 c.2 n.u))
  have T4 := Lib.hid (fun (n : Kept w1) => keptCall (toPoint d.1 d.2 n.u))
  have TS := Lib.hid (fun (n : Kept w1) => keptCall (HI.out n.u))
  refine wp_region_kept (by kernel_rfl) (by kernel_rfl) ?_
  repeat (go_big_quiet_step ((first | (go_at_call 52; with_reducible exact T1.out _) | (go_at_call 52; with_reducible exact T2.out _) | (go_at_call 52; with_reducible exact T3.out _) | (go_at_call 52; with_reducible exact T4.out _) | (go_at_call 31; with_reducible exact TS.out _))))
  refine wpQuiet_nil ?_
  rintro w2 ⟨⟨_, K2⟩, rfl⟩
  have HB2 := Lib.hid (below_call HB1.out K2)
  clear a1 a2 b1 b2 c1 c2 d1 d2 T1 T2 T3 T4 TS
  go_wp2
  go_ret
  exact ⟨rfl, HB2.out⟩
theorem keepL1 {w u : World} {b0 : Nat} {x0 y0 : Int} (h : Below w.heap.size w u) (A0 : AtP w b0 x0 y0) : u.cell? ⟨b0, 0, none⟩ = some (.int .i64 x0) ∧ u.cell? ⟨b0, 1, none⟩ = some (.int .i64 y0) := ⟨(A0.next h).c0, (A0.next h).c1⟩
theorem keepL2 {w u : World} {b0 : Nat} {x0 y0 : Int} {b1 : Nat} {x1 y1 : Int} (h : Below w.heap.size w u) (A0 : AtP w b0 x0 y0) (A1 : AtP w b1 x1 y1) :
    u.cell? ⟨b0, 0, none⟩ = some (.int .i64 x0) ∧ u.cell? ⟨b0, 1, none⟩ = some (.int .i64 y0) ∧ u.cell? ⟨b1, 0, none⟩ = some (.int .i64 x1) ∧ u.cell? ⟨b1, 1, none⟩ = some (.int .i64 y1) := ⟨(A0.next h).c0, (A0.next h).c1, (A1.next h).c0, (A1.next h).c1⟩
set_option maxHeartbeats 2000000 in
theorem walkFnExactInsideConvex (s : Sl) (ps : List (Int × Int)) (p : P2) (w : World) (h : PtsIn w s.a s.len ps) (hl : s.len ≤ 9223372036854775807) :
    Calls Try.prog 13 #[.slice s.a s.len s.cap, pt p.1 p.2] w fun e w' => e = .returned (.bool true) ∧ Below w.heap.size w w' := by
  have HB := Lib.hid (below_box w (.cells #[.int .i64 p.1, .int .i64 p.2] 54))
  have HSZ := Lib.hid (fun u => szPointS s.a s.len s.cap 1048576 u (by omega) (by omega) hl)
  have K0 := AtP.box w p.1 p.2 54
  have X0 := Lib.hid K0
  clear K0
  by_cases hs : s.len ≤ 1048576
  · rw [if_neg (by omega)] at HSZ
    have n0 : ¬ ((1048576 : Int) - (s.len : Int) < 0) := by omega
    have h0 := h.next HB.out
    have HS := Lib.hid (fun (b : Option Addr) (c : Nat) (u : World) (hu : PL u b s.len ps) => sInside b s.len c ps p u hu hl)
    have HI := Lib.hid (fun (b : Option Addr) (c : Nat) (u : World) (hu : PL u b s.len ps) => iInside b s.len c ps p u hu hl)
    generalize decide (insV ps p) = r at *
    have e0 : (r != r) = false := by simp
    clear h
    go_enter Try.func13, Try.ntmps13
    go_wp2_with fail
    refine (HSZ.out _).mono ?_
    rintro e w' ⟨rfl, rfl⟩
    clear HSZ
    go_upto_region 5 with fail
    generalize (w.alloc (.cells #[.int .i64 p.1, .int .i64 p.2] 54)) = w0 at *
    have g0 := Below.refl w0.heap.size w0
    have P0 := X0.out
    go_region_held3 (fun u => u.cell? ⟨w.heap.size, 0, none⟩ = some (.int .i64 p.1) ∧ u.cell? ⟨w.heap.size, 1, none⟩ = some (.int .i64 p.2)) (exact keepL1 (by repeat (first | (with_reducible assumption) | (with_reducible apply Below.drew))) P0) (first
      | (go_at_call 50
         refine (toPointS s.a s.len s.cap ps _ (h0.next (by repeat (first | (with_reducible assumption) | (with_reducible apply Below.drew)))) hs).mono ?_
         rintro e k0 ⟨rfl, O, B⟩
         have K0 := below_call (w := w0) (by repeat (first | (with_reducible assumption) | (with_reducible apply Below.drew))) B
         clear B)
      | (go_at_call_of 52 p.1
         refine (toPoint p.1 p.2 _).mono ?_
         rintro e k1 ⟨rfl, B⟩
         replace O := O.next B
         have K1 := below_call (w := w0) (by repeat (first | (with_reducible assumption) | (with_reducible apply Below.drew))) B
         clear B)
      | (go_at_call 26
         refine (HS.out _ _ _ O.ints.pl).mono ?_
         rintro e k9 ⟨rfl, B⟩
         have K9 := below_call (w := w0) (by repeat (first | (with_reducible assumption) | (with_reducible apply Below.drew))) B
         clear B))
    all_goals
      have HB1 := Lib.hid (below_call HB.out K9)
      have h1 := h0.next K9
      replace P0 := P0.next K9
      clear K9 O g0 K0 K1
      go_wp2_with fail
      refine (toPointS s.a s.len s.cap ps _ h1 hs).mono ?_
      rintro e w2 ⟨rfl, O2, B⟩
      have HB2 := Lib.hid (below_call HB1.out B)
      replace h1 := h1.next B
      replace P0 := P0.next B
      clear B
      obtain ⟨_, p1, p2⟩ := id P0
      go_wp2_with fail
      refine (toPoint p.1 p.2 _).mono ?_
      rintro e w3 ⟨rfl, B⟩
      have HB3 := Lib.hid (below_call HB2.out B)
      replace h1 := h1.next B
      replace O2 := O2.next B
      clear B p1 p2
      go_wp2_with fail
      refine (HI.out _ _ _ O2.ints.pl).mono ?_
      rintro e w4 ⟨rfl, B⟩
      have HB4 := Lib.hid (below_call HB3.out B)
      replace h1 := h1.next B
      replace O2 := O2.next B
      clear B
      go_wp2_with fail
      refine (toPointS s.a s.len s.cap ps _ h1 hs).mono ?_
      rintro e w5 ⟨rfl, O5, B⟩
      have HB5 := Lib.hid (below_call HB4.out B)
      replace O2 := O2.next B
      clear B
      go_wp2_with fail
      refine (eqPointS _ _ _ _ _ _ ps _ O2.ints O5.ints hl).mono ?_
      rintro e w6 ⟨rfl, B⟩
      have HB6 := Lib.hid (below_call HB5.out B)
      clear B
      go_wp2
      go_ret
      exact ⟨rfl, HB6.out⟩
  · rw [if_pos (by omega)] at HSZ
    go_enter Try.func13, Try.ntmps13
    go_wp2_with fail
    refine (HSZ.out _).mono ?_
    rintro e w' ⟨rfl, rfl⟩
    go_wp2
    go_ret
    exact ⟨rfl, HB.out⟩
set_option maxHeartbeats 2000000 in
theorem walkFnExactSegmentHits (s : Sl) (ps : List (Int × Int)) (p : P2) (q : P2) (w : World) (h : PtsIn w s.a s.len ps) (hl : s.len ≤ 9223372036854775807) :
    Calls Try.prog 15 #[.slice s.a s.len s.cap, pt p.1 p.2, pt q.1 q.2] w fun e w' => e = .returned (.bool true) ∧ Below w.heap.size w w' := by
  have HB := Lib.hid (below_box2 w (.cells #[.int .i64 p.1, .int .i64 p.2] 54) (.cells #[.int .i64 q.1, .int .i64 q.2] 54))
  have HSZ := Lib.hid (fun u => szPointS s.a s.len s.cap 1048576 u (by omega) (by omega) hl)
  have K0 := (AtP.box w p.1 p.2 54).next (below_box _ (.cells #[.int .i64 q.1, .int .i64 q.2] 54))
  have K1 := AtP.box (w.alloc (.cells #[.int .i64 p.1, .int .i64 p.2] 54)) q.1 q.2 54
  simp only [World.size_alloc] at K1
  have X0 := Lib.hid K0
  have X1 := Lib.hid K1
  clear K0 K1
  by_cases hs : s.len ≤ 1048576
  · rw [if_neg (by omega)] at HSZ
    have n0 : ¬ ((1048576 : Int) - (s.len : Int) < 0) := by omega
    have h0 := h.next HB.out
    have HS := Lib.hid (fun (b : Option Addr) (c : Nat) (u : World) (hu : PL u b s.len ps) => sHits b s.len c ps p q u hu hl)
    have HI := Lib.hid (fun (b : Option Addr) (c : Nat) (u : World) (hu : PL u b s.len ps) => iHits b s.len c ps p q u hu hl)
    generalize decide (shV ps p q) = r at *
    have e0 : (r != r) = false := by simp
    clear h
    go_enter Try.func15, Try.ntmps15
    go_wp2_with fail
    refine (HSZ.out _).mono ?_
    rintro e w' ⟨rfl, rfl⟩
    clear HSZ
    go_upto_region 5 with fail
    generalize ((w.alloc (.cells #[.int .i64 p.1, .int .i64 p.2] 54)).alloc (.cells #[.int .i64 q.1, .int .i64 q.2] 54)) = w0 at *
    have g0 := Below.refl w0.heap.size w0
    have P0 := X0.out
    have P1 := X1.out
    go_region_held3 (fun u => u.cell? ⟨w.heap.size, 0, none⟩ = some (.int .i64 p.1) ∧ u.cell? ⟨w.heap.size, 1, none⟩ = some (.int .i64 p.2) ∧ u.cell? ⟨w.heap.size + 1, 0, none⟩ = some (.int .i64 q.1) ∧ u.cell? ⟨w.heap.size + 1, 1, none⟩ = some (.int .i64 q.2)) (exact keepL2 (by repeat (first | (with_reducible assumption) | (with_reducible apply Below.drew))) P0 P1) (first
      | (go_at_call 50
         refine (toPointS s.a s.len s.cap ps _ (h0.next (by repeat (first | (with_reducible assumption) | (with_reducible apply Below.drew)))) hs).mono ?_
         rintro e k0 ⟨rfl, O, B⟩
         have K0 := below_call (w := w0) (by repeat (first | (with_reducible assumption) | (with_reducible apply Below.drew))) B
         clear B)
      | (go_at_call_of 52 p.1
         refine (toPoint p.1 p.2 _).mono ?_
         rintro e k1 ⟨rfl, B⟩
         replace O := O.next B
         have K1 := below_call (w := w0) (by repeat (first | (with_reducible assumption) | (with_reducible apply Below.drew))) B
         clear B)
      | (go_at_call_of 52 q.1
         refine (toPoint q.1 q.2 _).mono ?_
         rintro e k2 ⟨rfl, B⟩
         replace O := O.next B
         have K2 := below_call (w := w0) (by repeat (first | (with_reducible assumption) | (with_reducible apply Below.drew))) B
         clear B)
      | (go_at_call 36
         refine (HS.out _ _ _ O.ints.pl).mono ?_
         rintro e k9 ⟨rfl, B⟩
         have K9 := below_call (w := w0) (by repeat (first | (with_reducible assumption) | (with_reducible apply Below.drew))) B
         clear B))
    all_goals
      have HB1 := Lib.hid (below_call HB.out K9)
      have h1 := h0.next K9
      replace P0 := P0.next K9
      replace P1 := P1.next K9
      clear K9 O g0 K0 K1 K2
      go_wp2_with fail
      refine (toPointS s.a s.len s.cap ps _ h1 hs).mono ?_
      rintro e w2 ⟨rfl, O2, B⟩
      have HB2 := Lib.hid (below_call HB1.out B)
      replace h1 := h1.next B
      replace P0 := P0.next B
      replace P1 := P1.next B
      clear B
      go_upto_region 7 with fail
      obtain ⟨p0a, p0b⟩ := P0.kepts
      obtain ⟨p1a, p1b⟩ := P1.kepts
      have T0 := Lib.hid (fun (q : Kept w2) => keptCall (toPoint p.1 p.2 q.u))
      have T1 := Lib.hid (fun (z : Kept w2) => keptCall (toPoint q.1 q.2 z.u))
      have O2' := Lib.hid O2
      have TI := Lib.hid (fun (q : Kept w2) => keptCall (HI.out _ s.len q.u (O2'.out.ints.pl.next q.b)))
      refine wp_region_kept (by kernel_rfl) (by kernel_rfl) ?_
      repeat (go_big_quiet_step ((first | (go_at_call 52; with_reducible exact T0.out _) | (go_at_call 52; with_reducible exact T1.out _) | (go_at_call 35; with_reducible exact TI.out _))))
      refine wpQuiet_nil ?_
      rintro w4 ⟨⟨_, B⟩, rfl⟩
      have HB4 := Lib.hid (below_call HB2.out B)
      replace h1 := h1.next B
      replace O2 := O2.next B
      clear B TI T0 p0a p0b T1 p1a p1b
      go_wp2_with fail
      refine (toPointS s.a s.len s.cap ps _ h1 hs).mono ?_
      rintro e w5 ⟨rfl, O5, B⟩
      have HB5 := Lib.hid (below_call HB4.out B)
      replace O2 := O2.next B
      clear B
      go_wp2_with fail
      refine (eqPointS _ _ _ _ _ _ ps _ O2.ints O5.ints hl).mono ?_
      rintro e w6 ⟨rfl, B⟩
      have HB6 := Lib.hid (below_call HB5.out B)
      clear B
      go_wp2
      go_ret
      exact ⟨rfl, HB6.out⟩
  · rw [if_pos (by omega)] at HSZ
    go_enter Try.func15, Try.ntmps15
    go_wp2_with fail
    refine (HSZ.out _).mono ?_
    rintro e w' ⟨rfl, rfl⟩
    go_wp2
    go_ret
    exact ⟨rfl, HB.out⟩
end Go.Proofs.Ytkmopgdnaohcdaa
