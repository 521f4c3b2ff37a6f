/- The walks of the exact laws on clearance: they return true at every argument. -/
import Derived.Test.YtgpoknehbadddaaLk9
import Derived.Deep.RegionHeld3
namespace Go.Proofs.Ytgpoknehbadddaa
set_option maxRecDepth 100000
open Go.RowKit
attribute [local go_sem ↓] Go.wp_at_zero Go.wp_at_succ
theorem at3_next9 {w w' : World} {x1 x2 x3 : Nat} {a b c : P2} (h : AtP w x1 a.1 a.2 ∧ AtP w x2 b.1 b.2 ∧ AtP w x3 c.1 c.2) (B : Below w.heap.size w w') : AtP w' x1 a.1 a.2 ∧ AtP w' x2 b.1 b.2 ∧ AtP w' x3 c.1 c.2 := ⟨h.1.next B, h.2.1.next B, h.2.2.next B⟩
theorem box3L (w : World) (p a b : P2) : let w0 := ((w.alloc (.cells #[.int .i64 p.1, .int .i64 p.2] 42)).alloc (.cells #[.int .i64 a.1, .int .i64 a.2] 42)).alloc (.cells #[.int .i64 b.1, .int .i64 b.2] 42)
    AtP w0 w.heap.size p.1 p.2 ∧ AtP w0 (w.heap.size + 1) a.1 a.2 ∧ AtP w0 (w.heap.size + 1 + 1) b.1 b.2 := by
  have k1 := AtP.box w p.1 p.2 42
  have k2 := AtP.box (w.alloc (.cells #[.int .i64 p.1, .int .i64 p.2] 42)) a.1 a.2 42
  have k3 := AtP.box ((w.alloc (.cells #[.int .i64 p.1, .int .i64 p.2] 42)).alloc (.cells #[.int .i64 a.1, .int .i64 a.2] 42)) b.1 b.2 42
  simp only [World.size_alloc] at k2 k3
  exact ⟨(k1.next (below_box _ _)).next (below_box _ _), k2.next (below_box _ _), k3⟩
set_option maxHeartbeats 2000000 in
theorem walkFnExactSegmentSquare (p a b : P2) (w : World) :
    Calls Try.prog 7 #[pt p.1 p.2, pt a.1 a.2, pt b.1 b.2] w fun e w' => e = .returned (.bool true) ∧ Below w.heap.size w w' := by
  have HB := Lib.hid (below_box3 w (.cells #[.int .i64 p.1, .int .i64 p.2] 42) (.cells #[.int .i64 a.1, .int .i64 a.2] 42) (.cells #[.int .i64 b.1, .int .i64 b.2] 42))
  have HX0 := Lib.hid (box3L w p a b)
  have HS := Lib.hid (fun u => sSq p a b u)
  have HI := Lib.hid (fun u => iSq p a b u)
  generalize ssV p a b = r at *
  have e0 : (r != r) = false := by simp
  go_enter Try.func7, Try.ntmps7
  go_upto_region 1 with fail
  generalize ((w.alloc (.cells #[.int .i64 p.1, .int .i64 p.2] 42)).alloc (.cells #[.int .i64 a.1, .int .i64 a.2] 42)).alloc (.cells #[.int .i64 b.1, .int .i64 b.2] 42) = w0 at *
  obtain ⟨P1, P2', P3⟩ := HX0.out
  obtain ⟨p1, p2⟩ := P1.kepts
  obtain ⟨a1, a2⟩ := P2'.kepts
  obtain ⟨b1, b2⟩ := P3.kepts
  clear P1 P2' P3
  have T1 := Lib.hid (fun (n : Kept w0) => keptCall (toPoint p.1 p.2 n.u))
  have T2 := Lib.hid (fun (n : Kept w0) => keptCall (toPoint a.1 a.2 n.u))
  have T3 := Lib.hid (fun (n : Kept w0) => keptCall (toPoint b.1 b.2 n.u))
  have TS := Lib.hid (fun (n : Kept w0) => keptCall (HS.out n.u))
  refine wp_region_kept (by kernel_rfl) (by kernel_rfl) ?_
  repeat (go_big_quiet_step ((first | (go_at_call 24; with_reducible exact T1.out _) | (go_at_call 24; with_reducible exact T2.out _) | (go_at_call 24; with_reducible exact T3.out _) | (go_at_call 12; with_reducible exact TS.out _))))
  refine wpQuiet_nil ?_
  rintro w1 ⟨⟨_, K1⟩, rfl⟩
  replace HB := Lib.hid (below_call HB.out K1)
  have HX1 := Lib.hid (at3_next9 HX0.out K1)
  clear p1 p2 a1 a2 b1 b2 T1 T2 T3 TS K1 HX0
  go_upto_region 2 with fail
  obtain ⟨P1, P2', P3⟩ := HX1.out
  obtain ⟨p1, p2⟩ := P1.kepts
  obtain ⟨a1, a2⟩ := P2'.kepts
  obtain ⟨b1, b2⟩ := P3.kepts
  clear P1 P2' P3
  have T1 := Lib.hid (fun (n : Kept w1) => keptCall (toPoint p.1 p.2 n.u))
  have T2 := Lib.hid (fun (n : Kept w1) => keptCall (toPoint a.1 a.2 n.u))
  have T3 := Lib.hid (fun (n : Kept w1) => keptCall (toPoint b.1 b.2 n.u))
  have TS := Lib.hid (fun (n : Kept w1) => keptCall (HI.out n.u))
  refine wp_region_kept (by kernel_rfl) (by kernel_rfl) ?_
  repeat (go_big_quiet_step ((first | (go_at_call 24; with_reducible exact T1.out _) | (go_at_call 24; with_reducible exact T2.out _) | (go_at_call 24; with_reducible exact T3.out _) | (go_at_call 11; with_reducible exact TS.out _))))
  refine wpQuiet_nil ?_
  rintro w2 ⟨⟨_, K2⟩, rfl⟩
  replace HB := Lib.hid (below_call HB.out K2)
  have HX2 := Lib.hid (at3_next9 HX1.out K2)
  clear p1 p2 a1 a2 b1 b2 T1 T2 T3 TS K2 HX1
  go_wp2
  go_ret
  exact ⟨rfl, HB.out⟩
theorem keepL9 {w u : World} {b0 : Nat} {x0 y0 : Int} (h : Below w.heap.size w u) (A0 : AtP w b0 x0 y0) : u.cell? ⟨b0, 0, none⟩ = some (.int .i64 x0) ∧ u.cell? ⟨b0, 1, none⟩ = some (.int .i64 y0) := ⟨(A0.next h).c0, (A0.next h).c1⟩
set_option maxHeartbeats 2000000 in
theorem walkFnExactPolygonSquare (s : Sl) (ps : List (Int × Int)) (p : P2) (w : World) (h : PtsIn w s.a s.len ps) (hl : s.len ≤ 9223372036854775807) :
    Calls Try.prog 8 #[.slice s.a s.len s.cap, pt p.1 p.2] w fun e w' => e = .returned (.bool true) ∧ Below w.heap.size w w' := by
  have HB := Lib.hid (below_box w (.cells #[.int .i64 p.1, .int .i64 p.2] 42))
  have K0 := AtP.box w p.1 p.2 42
  have X0 := Lib.hid K0
  clear K0
  have HSZ := Lib.hid (fun u => szPointS s.a s.len s.cap 1048576 u (by omega) (by omega) hl)
  by_cases hs : s.len ≤ 1048576
  · rw [if_neg (by omega)] at HSZ
    have n0 : ¬ ((1048576 : Int) - (s.len : Int) < 0) := by omega
    have h0 := h.next HB.out
    have HS := Lib.hid (fun (b : Option Addr) (c : Nat) (u : World) (hu : PL u b s.len ps) => sPq b s.len c ps p u hu hl)
    have HI := Lib.hid (fun (b : Option Addr) (c : Nat) (u : World) (hu : PL u b s.len ps) => iPq b s.len c ps p u hu hl)
    generalize psV ps p = r at *
    have e0 : (r != r) = false := by simp
    clear h
    go_enter Try.func8, Try.ntmps8
    go_wp2_with fail
    refine (HSZ.out _).mono ?_
    rintro e w' ⟨rfl, rfl⟩
    clear HSZ
    go_upto_region 5 with fail
    generalize (w.alloc (.cells #[.int .i64 p.1, .int .i64 p.2] 42)) = w0 at *
    have g0 := Below.refl w0.heap.size w0
    have P0 := X0.out
    go_region_held3 (fun u => u.cell? ⟨w.heap.size, 0, none⟩ = some (.int .i64 p.1) ∧ u.cell? ⟨w.heap.size, 1, none⟩ = some (.int .i64 p.2)) (exact keepL9 (by repeat (first | (with_reducible assumption) | (with_reducible apply Below.drew))) P0) (first
      | (go_at_call 26
         refine (toPointS s.a s.len s.cap ps _ (h0.next (by repeat (first | (with_reducible assumption) | (with_reducible apply Below.drew)))) hs).mono ?_
         rintro e k0 ⟨rfl, O, B⟩
         have K0 := below_call (w := w0) (by repeat (first | (with_reducible assumption) | (with_reducible apply Below.drew))) B
         clear B)
      | (go_at_call_of 24 p.1
         refine (toPoint p.1 p.2 _).mono ?_
         rintro e k1 ⟨rfl, B⟩
         replace O := O.next B
         have K1 := below_call (w := w0) (by repeat (first | (with_reducible assumption) | (with_reducible apply Below.drew))) B
         clear B)
      | (go_at_call 17
         refine (HS.out _ _ _ O.ints.pl).mono ?_
         rintro e k9 ⟨rfl, B⟩
         have K9 := below_call (w := w0) (by repeat (first | (with_reducible assumption) | (with_reducible apply Below.drew))) B
         clear B))
    all_goals
      have HB1 := Lib.hid (below_call HB.out K9)
      have h1 := h0.next K9
      replace P0 := P0.next K9
      clear K9 O g0 K0 K1
      go_wp2_with fail
      refine (toPointS s.a s.len s.cap ps _ h1 hs).mono ?_
      rintro e w2 ⟨rfl, O2, B⟩
      have HB2 := Lib.hid (below_call HB1.out B)
      replace h1 := h1.next B
      replace P0 := P0.next B
      clear B
      obtain ⟨_, p1, p2⟩ := id P0
      go_wp2_with fail
      refine (toPoint p.1 p.2 _).mono ?_
      rintro e w3 ⟨rfl, B⟩
      have HB3 := Lib.hid (below_call HB2.out B)
      replace h1 := h1.next B
      replace O2 := O2.next B
      clear B p1 p2
      go_wp2_with fail
      refine (HI.out _ _ _ O2.ints.pl).mono ?_
      rintro e w4 ⟨rfl, B⟩
      have HB4 := Lib.hid (below_call HB3.out B)
      replace h1 := h1.next B
      replace O2 := O2.next B
      clear B
      go_wp2_with fail
      refine (toPointS s.a s.len s.cap ps _ h1 hs).mono ?_
      rintro e w5 ⟨rfl, O5, B⟩
      have HB5 := Lib.hid (below_call HB4.out B)
      replace O2 := O2.next B
      clear B
      go_wp2_with fail
      refine (eqPointS _ _ _ _ _ _ ps _ O2.ints O5.ints hl).mono ?_
      rintro e w6 ⟨rfl, B⟩
      have HB6 := Lib.hid (below_call HB5.out B)
      clear B
      go_wp2
      go_ret
      exact ⟨rfl, HB6.out⟩
  · rw [if_pos (by omega)] at HSZ
    go_enter Try.func8, Try.ntmps8
    go_wp2_with fail
    refine (HSZ.out _).mono ?_
    rintro e w' ⟨rfl, rfl⟩
    go_wp2
    go_ret
    exact ⟨rfl, HB.out⟩
set_option maxHeartbeats 2000000 in
theorem walkFnExactKeepsClear (s : Sl) (pss : List (List P2)) (p : P2) (d : Int) (w : World) (h : PssIn w s.a s.len pss) (hl : s.len ≤ 9223372036854775807) :
    Calls Try.prog 9 #[.slice s.a s.len s.cap, pt p.1 p.2, .int .i64 d] w fun e w' => e = .returned (.bool true) ∧ Below w.heap.size w w' := by
  have HB := Lib.hid (below_box w (.cells #[.int .i64 p.1, .int .i64 p.2] 42))
  have K0 := AtP.box w p.1 p.2 42
  have X0 := Lib.hid K0
  clear K0
  obtain ⟨x, hx, HSZ⟩ := szPointSS s.a s.len s.cap 1048576 pss h (by omega) (by omega) hl
  replace HSZ := Lib.hid HSZ
  by_cases hs : 0 ≤ x
  · have HR := Lib.hid (show s.len ≤ 1048576 ∧ ∀ i, i < s.len → (pss.getD i []).length ≤ 1048576 from by
      rcases hx with rfl | ⟨_, _, h2, h3⟩
      · omega
      · exact ⟨by omega, fun i hi => by have := h3 i hi; omega⟩)
    have n0 : ¬ (x < 0) := by omega
    clear hx
    have h0 := h.next HB.out
    have HS := Lib.hid (fun (b : Option Addr) (c : Nat) (u : World) (hu : PSS u b s.len pss) => sKc b s.len c pss p d u hu hl)
    have HI := Lib.hid (fun (b : Option Addr) (c : Nat) (u : World) (hu : PSS u b s.len pss) => iKc b s.len c pss p d u hu hl)
    generalize decide (clr9 pss p d) = r at *
    have e0 : (r != r) = false := by simp
    clear h
    go_enter Try.func9, Try.ntmps9
    go_wp2_with fail
    refine (HSZ.out _ HB.out).mono ?_
    rintro e w' ⟨rfl, rfl⟩
    clear HSZ hs
    go_upto_region 5 with fail
    generalize (w.alloc (.cells #[.int .i64 p.1, .int .i64 p.2] 42)) = w0 at *
    have g0 := Below.refl w0.heap.size w0
    have P0 := X0.out
    go_region_held3 (fun u => u.cell? ⟨w.heap.size, 0, none⟩ = some (.int .i64 p.1) ∧ u.cell? ⟨w.heap.size, 1, none⟩ = some (.int .i64 p.2)) (exact keepL9 (by repeat (first | (with_reducible assumption) | (with_reducible apply Below.drew))) P0) (first
      | (go_at_call 29
         refine (toPointSS s.a s.len s.cap pss _ (h0.next (by repeat (first | (with_reducible assumption) | (with_reducible apply Below.drew)))) HR.out.1 HR.out.2).mono ?_
         rintro e k0 ⟨rfl, O, B⟩
         have K0 := below_call (w := w0) (by repeat (first | (with_reducible assumption) | (with_reducible apply Below.drew))) B
         clear B)
      | (go_at_call_of 24 p.1
         refine (toPoint p.1 p.2 _).mono ?_
         rintro e k1 ⟨rfl, B⟩
         replace O := O.next B
         have K1 := below_call (w := w0) (by repeat (first | (with_reducible assumption) | (with_reducible apply Below.drew))) B
         clear B)
      | (go_at_call 22
         refine (HS.out _ _ _ O.pss).mono ?_
         rintro e k9 ⟨rfl, B⟩
         have K9 := below_call (w := w0) (by repeat (first | (with_reducible assumption) | (with_reducible apply Below.drew))) B
         clear B))
    all_goals
      have HB1 := Lib.hid (below_call HB.out K9)
      have h1 := h0.next K9
      replace P0 := P0.next K9
      clear K9 O g0 K0 K1
      go_wp2_with fail
      refine (toPointSS s.a s.len s.cap pss _ h1 HR.out.1 HR.out.2).mono ?_
      rintro e w2 ⟨rfl, O2, B⟩
      have HB2 := Lib.hid (below_call HB1.out B)
      replace h1 := h1.next B
      replace P0 := P0.next B
      clear B
      obtain ⟨_, p1, p2⟩ := id P0
      go_wp2_with fail
      refine (toPoint p.1 p.2 _).mono ?_
      rintro e w3 ⟨rfl, B⟩
      have HB3 := Lib.hid (below_call HB2.out B)
      replace h1 := h1.next B
      replace O2 := O2.next B
      clear B p1 p2
      go_wp2_with fail
      refine (HI.out _ _ _ O2.pss).mono ?_
      rintro e w4 ⟨rfl, B⟩
      have HB4 := Lib.hid (below_call HB3.out B)
      replace h1 := h1.next B
      replace O2 := O2.next B
      clear B
      go_wp2_with fail
      refine (toPointSS s.a s.len s.cap pss _ h1 HR.out.1 HR.out.2).mono ?_
      rintro e w5 ⟨rfl, O5, B⟩
      have HB5 := Lib.hid (below_call HB4.out B)
      replace O2 := O2.next B
      clear B
      go_wp2_with fail
      refine (eqPointSS _ _ _ _ _ _ pss _ O2 O5 HR.out.1 HR.out.2).mono ?_
      rintro e w6 ⟨rfl, B⟩
      have HB6 := Lib.hid (below_call HB5.out B)
      clear B
      go_wp2
      go_ret
      exact ⟨rfl, HB6.out⟩
  · obtain rfl : x = -1 := by rcases hx with k | ⟨k, _⟩ <;> omega
    go_enter Try.func9, Try.ntmps9
    go_wp2_with fail
    refine (HSZ.out _ HB.out).mono ?_
    rintro e w' ⟨rfl, rfl⟩
    go_wp2
    go_ret
    exact ⟨rfl, HB.out⟩
end Go.Proofs.Ytgpoknehbadddaa
