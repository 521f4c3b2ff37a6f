/- The walks of the exact laws on pairs: they return true at every argument. -/
import Derived.Test.YtppkipcgpmijpaaCi16
namespace Go.Proofs.Ytppkipcgpmijpaa
set_option maxRecDepth 100000
open Go.RowKit
attribute [local go_sem ↓] Go.wp_at_zero Go.wp_at_succ
theorem outV_len (L : List (Int × Int)) (lim : Int) : (outV L lim).length ≤ 20 := by
  unfold outV
  split
  · next h => exact Nat.le_trans (outR_len L _ lim) h.1.1.2
  · simp
theorem Prr.PtsIn.next {w w' : World} {a : Option Addr} {len : Nat} {ps : List (Int × Int)} (h : Prr.PtsIn w a len ps) (hb : Below w.heap.size w w') : Prr.PtsIn w' a len ps :=
  ⟨h.1, h.2.imp id fun ⟨b, off, h1, h2, h3⟩ => ⟨b, off, h1, Nat.lt_of_lt_of_le h2 hb.size, fun i hi => ⟨(hb.cell (p := ⟨b, off + i * 2, none⟩) h2).trans (h3 i hi).1, (hb.cell (p := ⟨b, off + i * 2 + 1, none⟩) h2).trans (h3 i hi).2⟩⟩⟩
set_option maxHeartbeats 2000000 in
theorem walkFnExactPairsValid (s : Sl) (ps : List (Int × Int)) (w : World) (h : Prr.PtsIn w s.a s.len ps) (hl : s.len ≤ 9223372036854775807) :
    Calls Try.prog 8 #[.slice s.a s.len s.cap] w fun e w' => e = .returned (.bool true) ∧ Below w.heap.size w w' := by
  have HSZ := Lib.hid (Prr.szPairS s.a s.len s.cap 1048576 w (by omega) (by omega) hl)
  have HS := Lib.hid (fun a u q => specPairsValid a s.len s.len ps u q hl)
  have HI := Lib.hid (fun a u q => implPairsValid a s.len s.len ps u q hl)
  generalize decide (okPairs ps) = b at *
  have e1 : (b != b) = false := by simp
  by_cases hs : s.len ≤ 1048576
  · rw [if_neg (by omega)] at HSZ
    have n0 : ¬ ((1048576 : Int) - (s.len : Int) < 0) := by omega
    go_enter Try.func8, Try.ntmps8
    go_wp2_with fail
    refine HSZ.out.mono ?_
    rintro e w' ⟨rfl, rfl⟩
    clear HSZ
    go_wp2_with fail
    refine (Prr.toPairS s.a s.len s.cap ps _ h hs).mono ?_
    rintro e u1 ⟨rfl, O1, B1⟩
    have HB := Lib.hid B1
    clear B1
    go_wp2_with fail
    refine (HS.out _ _ O1.ints).mono ?_
    rintro e w' ⟨rfl, rfl⟩
    clear O1
    go_wp2_with fail
    refine (Prr.toPairS s.a s.len s.cap ps _ (h.next HB.out) hs).mono ?_
    rintro e u2 ⟨rfl, O2, B2⟩
    replace HB := Lib.hid (below_call HB.out B2)
    clear B2
    go_wp2_with fail
    refine (HI.out _ _ O2.ints).mono ?_
    rintro e u3 ⟨rfl, B3⟩
    replace O2 := O2.next B3
    replace HB := Lib.hid (below_call HB.out B3)
    clear B3
    go_wp2_with fail
    refine (Prr.toPairS s.a s.len s.cap ps _ (h.next HB.out) hs).mono ?_
    rintro e u4 ⟨rfl, O3, B4⟩
    replace O2 := O2.next B4
    replace HB := Lib.hid (below_call HB.out B4)
    clear B4
    go_wp2_with fail
    refine (Prr.eqPairS _ _ _ _ _ _ ps _ O2.ints O3.ints hl).mono ?_
    rintro e u5 ⟨rfl, B5⟩
    replace O2 := O2.next B5
    replace O3 := O3.next B5
    replace HB := Lib.hid (below_call HB.out B5)
    clear B5
    go_wp2
    go_ret
    exact ⟨rfl, HB.out⟩
  · rw [if_pos (by omega)] at HSZ
    go_enter Try.func8, Try.ntmps8
    go_wp2_with fail
    refine HSZ.out.mono ?_
    rintro e w' ⟨rfl, rfl⟩
    go_wp2
    go_ret
    exact ⟨rfl, Below.refl _ _⟩
set_option maxHeartbeats 2000000 in
theorem walkFnExactFitOffset (s : Sl) (ps : List (Int × Int)) (w : World) (h : Prr.PtsIn w s.a s.len ps) (hl : s.len ≤ 9223372036854775807) :
    Calls Try.prog 9 #[.slice s.a s.len s.cap] w fun e w' => e = .returned (.bool true) ∧ Below w.heap.size w w' := by
  have HSZ := Lib.hid (Prr.szPairS s.a s.len s.cap 1048576 w (by omega) (by omega) hl)
  have HS := Lib.hid (fun a u q => specFitOffset a s.len s.len ps u q hl)
  have HI := Lib.hid (fun a u q => implFitOffset a s.len s.len ps u q hl)
  generalize offV ps = b at *
  have e1 : (b != b) = false := by simp
  by_cases hs : s.len ≤ 1048576
  · rw [if_neg (by omega)] at HSZ
    have n0 : ¬ ((1048576 : Int) - (s.len : Int) < 0) := by omega
    go_enter Try.func9, Try.ntmps9
    go_wp2_with fail
    refine HSZ.out.mono ?_
    rintro e w' ⟨rfl, rfl⟩
    clear HSZ
    go_wp2_with fail
    refine (Prr.toPairS s.a s.len s.cap ps _ h hs).mono ?_
    rintro e u1 ⟨rfl, O1, B1⟩
    have HB := Lib.hid B1
    clear B1
    go_wp2_with fail
    refine (HS.out _ _ O1.ints).mono ?_
    rintro e u2 ⟨rfl, B2⟩
    replace O1 := O1.next B2
    replace HB := Lib.hid (below_call HB.out B2)
    clear B2
    clear O1
    go_wp2_with fail
    refine (Prr.toPairS s.a s.len s.cap ps _ (h.next HB.out) hs).mono ?_
    rintro e u3 ⟨rfl, O2, B3⟩
    replace HB := Lib.hid (below_call HB.out B3)
    clear B3
    go_wp2_with fail
    refine (HI.out _ _ O2.ints).mono ?_
    rintro e u4 ⟨rfl, B4⟩
    replace O2 := O2.next B4
    replace HB := Lib.hid (below_call HB.out B4)
    clear B4
    go_wp2_with fail
    refine (Prr.toPairS s.a s.len s.cap ps _ (h.next HB.out) hs).mono ?_
    rintro e u5 ⟨rfl, O3, B5⟩
    replace O2 := O2.next B5
    replace HB := Lib.hid (below_call HB.out B5)
    clear B5
    go_wp2_with fail
    refine (Prr.eqPairS _ _ _ _ _ _ ps _ O2.ints O3.ints hl).mono ?_
    rintro e u6 ⟨rfl, B6⟩
    replace O2 := O2.next B6
    replace O3 := O3.next B6
    replace HB := Lib.hid (below_call HB.out B6)
    clear B6
    go_wp2
    go_ret
    exact ⟨rfl, HB.out⟩
  · rw [if_pos (by omega)] at HSZ
    go_enter Try.func9, Try.ntmps9
    go_wp2_with fail
    refine HSZ.out.mono ?_
    rintro e w' ⟨rfl, rfl⟩
    go_wp2
    go_ret
    exact ⟨rfl, Below.refl _ _⟩
set_option maxHeartbeats 2000000 in
theorem walkFnExactOffsetError (s : Sl) (ps : List (Int × Int)) (o : Int) (w : World) (h : Prr.PtsIn w s.a s.len ps) (hl : s.len ≤ 9223372036854775807) :
    Calls Try.prog 10 #[.slice s.a s.len s.cap, .int .i64 o] w fun e w' => e = .returned (.bool true) ∧ Below w.heap.size w w' := by
  have HSZ := Lib.hid (Prr.szPairS s.a s.len s.cap 1048576 w (by omega) (by omega) hl)
  have HS := Lib.hid (fun a u q => specOffsetError a s.len s.len ps o u q hl)
  have HI := Lib.hid (fun a u q => (fun u => implOffsetError a s.len s.len ps u o) u q hl)
  generalize errV ps o = b at *
  have e1 : (b != b) = false := by simp
  by_cases hs : s.len ≤ 1048576
  · rw [if_neg (by omega)] at HSZ
    have n0 : ¬ ((1048576 : Int) - (s.len : Int) < 0) := by omega
    go_enter Try.func10, Try.ntmps10
    go_wp2_with fail
    refine HSZ.out.mono ?_
    rintro e w' ⟨rfl, rfl⟩
    clear HSZ
    go_wp2_with fail
    refine (Prr.toPairS s.a s.len s.cap ps _ h hs).mono ?_
    rintro e u1 ⟨rfl, O1, B1⟩
    have HB := Lib.hid B1
    clear B1
    go_wp2_with fail
    refine (HS.out _ _ O1.ints).mono ?_
    rintro e u2 ⟨rfl, B2⟩
    replace O1 := O1.next B2
    replace HB := Lib.hid (below_call HB.out B2)
    clear B2
    clear O1
    go_wp2_with fail
    refine (Prr.toPairS s.a s.len s.cap ps _ (h.next HB.out) hs).mono ?_
    rintro e u3 ⟨rfl, O2, B3⟩
    replace HB := Lib.hid (below_call HB.out B3)
    clear B3
    go_wp2_with fail
    refine (HI.out _ _ O2.ints).mono ?_
    rintro e u4 ⟨rfl, B4⟩
    replace O2 := O2.next B4
    replace HB := Lib.hid (below_call HB.out B4)
    clear B4
    go_wp2_with fail
    refine (Prr.toPairS s.a s.len s.cap ps _ (h.next HB.out) hs).mono ?_
    rintro e u5 ⟨rfl, O3, B5⟩
    replace O2 := O2.next B5
    replace HB := Lib.hid (below_call HB.out B5)
    clear B5
    go_wp2_with fail
    refine (Prr.eqPairS _ _ _ _ _ _ ps _ O2.ints O3.ints hl).mono ?_
    rintro e u6 ⟨rfl, B6⟩
    replace O2 := O2.next B6
    replace O3 := O3.next B6
    replace HB := Lib.hid (below_call HB.out B6)
    clear B6
    go_wp2
    go_ret
    exact ⟨rfl, HB.out⟩
  · rw [if_pos (by omega)] at HSZ
    go_enter Try.func10, Try.ntmps10
    go_wp2_with fail
    refine HSZ.out.mono ?_
    rintro e w' ⟨rfl, rfl⟩
    go_wp2
    go_ret
    exact ⟨rfl, Below.refl _ _⟩
set_option maxHeartbeats 2000000 in
theorem walkFnExactFitSlope (s : Sl) (ps : List (Int × Int)) (w : World) (h : Prr.PtsIn w s.a s.len ps) (hl : s.len ≤ 9223372036854775807) :
    Calls Try.prog 11 #[.slice s.a s.len s.cap] w fun e w' => e = .returned (.bool true) ∧ Below w.heap.size w w' := by
  have HSZ := Lib.hid (Prr.szPairS s.a s.len s.cap 1048576 w (by omega) (by omega) hl)
  have HS := Lib.hid (fun a u q => specFitSlope a s.len s.len ps u q hl)
  have HI := Lib.hid (fun a u q => implFitSlope a s.len s.len ps u q hl)
  generalize slpA ps = b at *
  have e1 : (b != b) = false := by simp
  generalize slpB ps = c at *
  have e2 : (c != c) = false := by simp
  by_cases hs : s.len ≤ 1048576
  · rw [if_neg (by omega)] at HSZ
    have n0 : ¬ ((1048576 : Int) - (s.len : Int) < 0) := by omega
    go_enter Try.func11, Try.ntmps11
    go_wp2_with fail
    refine HSZ.out.mono ?_
    rintro e w' ⟨rfl, rfl⟩
    clear HSZ
    go_wp2_with fail
    refine (Prr.toPairS s.a s.len s.cap ps _ h hs).mono ?_
    rintro e u1 ⟨rfl, O1, B1⟩
    have HB := Lib.hid B1
    clear B1
    go_wp2_with fail
    refine (HS.out _ _ O1.ints).mono ?_
    rintro e u2 ⟨rfl, B2⟩
    replace O1 := O1.next B2
    replace HB := Lib.hid (below_call HB.out B2)
    clear B2
    clear O1
    go_wp2_with fail
    refine (Prr.toPairS s.a s.len s.cap ps _ (h.next HB.out) hs).mono ?_
    rintro e u3 ⟨rfl, O2, B3⟩
    replace HB := Lib.hid (below_call HB.out B3)
    clear B3
    go_wp2_with fail
    refine (HI.out _ _ O2.ints).mono ?_
    rintro e u4 ⟨rfl, B4⟩
    replace O2 := O2.next B4
    replace HB := Lib.hid (below_call HB.out B4)
    clear B4
    go_wp2_with fail
    refine (Prr.toPairS s.a s.len s.cap ps _ (h.next HB.out) hs).mono ?_
    rintro e u5 ⟨rfl, O3, B5⟩
    replace O2 := O2.next B5
    replace HB := Lib.hid (below_call HB.out B5)
    clear B5
    go_wp2_with fail
    refine (Prr.eqPairS _ _ _ _ _ _ ps _ O2.ints O3.ints hl).mono ?_
    rintro e u6 ⟨rfl, B6⟩
    replace O2 := O2.next B6
    replace O3 := O3.next B6
    replace HB := Lib.hid (below_call HB.out B6)
    clear B6
    go_wp2
    go_ret
    exact ⟨rfl, HB.out⟩
  · rw [if_pos (by omega)] at HSZ
    go_enter Try.func11, Try.ntmps11
    go_wp2_with fail
    refine HSZ.out.mono ?_
    rintro e w' ⟨rfl, rfl⟩
    go_wp2
    go_ret
    exact ⟨rfl, Below.refl _ _⟩
set_option maxHeartbeats 2000000 in
theorem walkFnExactWithoutOutliers (s : Sl) (ps : List (Int × Int)) (n : Int) (hn : n ≤ 9223372036854775807) (w : World) (h : Prr.PtsIn w s.a s.len ps) (hl : s.len ≤ 9223372036854775807) :
    Calls Try.prog 12 #[.slice s.a s.len s.cap, .int .i64 n] w fun e w' => e = .returned (.bool true) ∧ Below w.heap.size w w' := by
  have HSZ := Lib.hid (Prr.szPairS s.a s.len s.cap 1048576 w (by omega) (by omega) hl)
  have HLEN := Lib.hid (outV_len ps n)
  have HS := Lib.hid (fun a u q => specWithoutOutliers a s.len s.len ps n u q hl)
  have HI := Lib.hid (fun a u q => implWithoutOutliers a s.len s.len ps u n q hl hn)
  clear hn
  generalize outV ps n = L at *
  by_cases hs : s.len ≤ 1048576
  · rw [if_neg (by omega)] at HSZ
    have n0 : ¬ ((1048576 : Int) - (s.len : Int) < 0) := by omega
    go_enter Try.func12, Try.ntmps12
    go_wp2_with fail
    refine HSZ.out.mono ?_
    rintro e w' ⟨rfl, rfl⟩
    clear HSZ
    go_wp2_with fail
    refine (Prr.toPairS s.a s.len s.cap ps _ h hs).mono ?_
    rintro e u1 ⟨rfl, O1, B1⟩
    have HB := Lib.hid B1
    clear B1
    go_wp2_with fail
    refine (HS.out _ _ O1.ints).mono ?_
    rintro e u2 ⟨⟨sa, sl, sc⟩, rfl, l2, O2, B2⟩
    replace O1 := O1.next B2
    replace HB := Lib.hid (below_call HB.out B2)
    clear B2
    clear O1
    have A2 := Lib.hid (fun q hq => (World.ownsRow.lt O2 q hq).2)
    have hge : w.heap.size ≤ u2.heap.size := HB.out.size
    simp only at *
    have hsl : sl ≤ 20 := by rw [l2]; exact HLEN.out
    have HLL := Lib.hid l2
    clear l2
    go_wp2_with fail
    refine (Prr.toPairS s.a s.len s.cap ps _ (h.next HB.out) hs).mono ?_
    rintro e u3 ⟨rfl, O3, B3⟩
    replace O2 := O2.next B3
    replace HB := Lib.hid (below_call HB.out B3)
    clear B3
    have hx : u2.heap.size < u3.heap.size := (World.ownsRow.lt O3 _ rfl).2
    go_wp2_with fail
    refine (HI.out _ _ O3.ints).mono ?_
    rintro e u4 ⟨⟨ta, tl, tc⟩, rfl, l4, O4, B4⟩
    replace O2 := O2.next B4
    replace O3 := O3.next B4
    replace HB := Lib.hid (below_call HB.out B4)
    clear B4
    simp only at *
    obtain rfl : tl = sl := by rw [l4, HLL.out]
    clear l4
    have A4 := Lib.hid (fun q hq => (World.ownsRow.lt O4 q hq).1)
    go_wp2_with fail
    refine (Prr.eqPairS _ _ _ _ _ _ L _ O4.ints O2.ints (by omega)).mono ?_
    rintro e u5 ⟨rfl, B5⟩
    replace O2 := O2.next B5
    replace O3 := O3.next B5
    replace O4 := O4.next B5
    replace HB := Lib.hid (below_call HB.out B5)
    clear B5
    go_wp2_with fail
    refine (Prr.toPairS s.a s.len s.cap ps _ (h.next HB.out) hs).mono ?_
    rintro e u6 ⟨rfl, O5, B6⟩
    replace O2 := O2.next B6
    replace O3 := O3.next B6
    replace O4 := O4.next B6
    replace HB := Lib.hid (below_call HB.out B6)
    clear B6
    go_wp2_with fail
    refine (Prr.eqPairS _ _ _ _ _ _ ps _ O3.ints O5.ints hl).mono ?_
    rintro e u7 ⟨rfl, B7⟩
    replace O2 := O2.next B7
    replace O3 := O3.next B7
    replace O4 := O4.next B7
    replace O5 := O5.next B7
    replace HB := Lib.hid (below_call HB.out B7)
    clear B7
    clear O5
    have n1 : ¬ ((1 : Int) + 2 * (s.len : Int) < 0) := by omega
    have n2 : ¬ ((1 : Int) + 2 * (tl : Int) < 0) := by omega
    have e2 : ((1 + 2 * (tl : Int)) != (1 + 2 * (tl : Int))) = false := by simp
    go_wp2_with fail
    refine (Prr.markPairS _ s.len s.len _ ps 1 _ O3 (by omega) (by omega) (by omega)).mono ?_
    rintro e v1 ⟨rfl, O6, G6, S6⟩
    replace O2 : Prr.OwnPt v1 _ _ L := World.ownsRow.kept O2 G6 (.inr (fun e => by have q : u2.heap.size < u2.heap.size := A2.out _ e; omega))
    replace O4 : Prr.OwnPt v1 _ _ L := World.ownsRow.kept O4 G6 (.inr (fun e => by have q : u3.heap.size ≤ u2.heap.size := A4.out _ e; omega))
    replace HB := Lib.hid (HB.out.grown G6 HB.out.size (fun q hq => by have hh : some u2.heap.size = some q := hq; injection hh with hh; omega))
    clear G6 S6 O3 O6
    go_wp2_with fail
    refine (Prr.eqPairS _ _ _ _ _ _ L _ O4.ints O2.ints (by omega)).mono ?_
    rintro e u8 ⟨rfl, B8⟩
    replace O2 := O2.next B8
    replace O4 := O4.next B8
    replace HB := Lib.hid (below_call HB.out B8)
    clear B8
    go_wp2_with fail
    refine (Prr.markPairS _ tl tc _ L 1 _ O4 (by omega) (by omega) (by omega)).mono ?_
    rintro e v2 ⟨rfl, O6, G6, S6⟩
    replace O2 : Prr.OwnPt v2 _ _ L := World.ownsRow.kept O2 G6 (by
      cases hq : (Value.slice sa tl sc).ownBlock with
      | none => exact .inl rfl
      | some q => exact .inr (fun e => by have h1 := A2.out _ hq; have h2 := A4.out _ e.symm; omega))
    replace HB := Lib.hid (HB.out.grown G6 HB.out.size (fun q hq => by have := A4.out _ hq; omega))
    clear G6 S6 O4
    go_wp2_with fail
    refine (Prr.heldPairS _ tl tc 1 _ O6.ints (by omega) (by omega) (by omega)).mono ?_
    rintro e w' ⟨rfl, rfl⟩
    go_wp2_with fail
    refine (Prr.toPairS s.a s.len s.cap ps _ (h.next HB.out) hs).mono ?_
    rintro e u9 ⟨rfl, O7, B9⟩
    replace O2 := O2.next B9
    replace O6 := O6.next B9
    replace HB := Lib.hid (below_call HB.out B9)
    clear B9
    go_wp2_with fail
    refine (HI.out _ _ O7.ints).mono ?_
    rintro e u10 ⟨⟨ra, rl, rc⟩, rfl, l8, O8, B10⟩
    replace O2 := O2.next B10
    replace O6 := O6.next B10
    replace O7 := O7.next B10
    replace HB := Lib.hid (below_call HB.out B10)
    clear B10
    clear O7
    simp only at *
    obtain rfl : tl = rl := by rw [l8, HLL.out]
    clear l8
    go_wp2_with fail
    refine (Prr.eqPairS _ _ _ _ _ _ L _ O8.ints O2.ints (by omega)).mono ?_
    rintro e u11 ⟨rfl, B11⟩
    replace O2 := O2.next B11
    replace O6 := O6.next B11
    replace O8 := O8.next B11
    replace HB := Lib.hid (below_call HB.out B11)
    clear B11
    go_wp2_with fail
    refine (Prr.heldPairS _ tl tc 1 _ O6.ints (by omega) (by omega) (by omega)).mono ?_
    rintro e w' ⟨rfl, rfl⟩
    go_wp2
    go_ret
    exact ⟨rfl, HB.out⟩
  · rw [if_pos (by omega)] at HSZ
    go_enter Try.func12, Try.ntmps12
    go_wp2_with fail
    refine HSZ.out.mono ?_
    rintro e w' ⟨rfl, rfl⟩
    go_wp2
    go_ret
    exact ⟨rfl, Below.refl _ _⟩
end Go.Proofs.Ytppkipcgpmijpaa
