/- The walk of the exact law on HullOf: it returns true at every argument. -/
import Derived.Test.YtkmopgdnaohcdaaOq7
import Derived.Test.YtkmopgdnaohcdaaSh8
import Derived.Test.YtkmopgdnaohcdaaHu8
namespace Go.Proofs.Ytkmopgdnaohcdaa
set_option maxRecDepth 100000
open Go.RowKit
attribute [local go_sem ↓] Go.wp_at_zero Go.wp_at_succ
theorem lowB_len (ps : List P2) : (lowB ps).length ≤ ps.length := by
  have := bord_len ps []
  unfold lowB; rw [List.length_reverse]; simpa using this
theorem hulV_len (ps : List P2) : (hulV ps).length ≤ 32 := by
  unfold hulV
  split
  case isTrue h =>
    unfold joinB
    split
    · simp
    · have h1 := lowB_len (srt ps)
      have h2 := lowB_len (srt ps).reverse
      have h3 := h.1
      rw [List.length_reverse] at h2
      rw [srt_len] at h1 h2
      simp only [List.length_append, List.length_dropLast]
      omega
  case isFalse h => simp
set_option maxHeartbeats 2000000 in
theorem walkFnExactHullOf (s : Sl) (ps : List (Int × Int)) (w : World) (h : PtsIn w s.a s.len ps) (hl : s.len ≤ 9223372036854775807) :
    Calls Try.prog 18 #[.slice s.a s.len s.cap] w fun e w' => e = .returned (.bool true) ∧ Below w.heap.size w w' := by
  have HSZ := Lib.hid (szPointS s.a s.len s.cap 1048576 w (by omega) (by omega) hl)
  have HLEN := Lib.hid (hulV_len ps)
  generalize hL : hulV ps = L at *
  have HE := Lib.hid hL
  clear hL
  by_cases hs : s.len ≤ 1048576
  · rw [if_neg (by omega)] at HSZ
    have n0 : ¬ ((1048576 : Int) - (s.len : Int) < 0) := by omega
    go_enter Try.func18, Try.ntmps18
    go_wp2_with fail
    refine HSZ.out.mono ?_
    rintro e w' ⟨rfl, rfl⟩
    clear HSZ
    go_wp2_with fail
    refine (toPointS s.a s.len s.cap ps _ h hs).mono ?_
    rintro e u1 ⟨rfl, O1, B1⟩
    have HB := Lib.hid B1
    clear B1
    go_wp2_with fail
    refine (specHullOf _ _ _ ps _ O1.ints.pl hl).mono ?_
    rw [HE.out]
    rintro e u2 ⟨⟨sa, sl, sc⟩, rfl, l2, O2, B2⟩
    replace O1 := O1.next B2
    replace HB := Lib.hid (below_call HB.out B2)
    clear B2
    clear O1
    have A2 := Lib.hid (fun q hq => (World.ownsRow.lt O2 q hq).2)
    have hge : w.heap.size ≤ u2.heap.size := HB.out.size
    simp only at *
    have hsl : sl ≤ 32 := by rw [l2]; exact HLEN.out
    have HLL := Lib.hid l2
    clear l2
    go_wp2_with fail
    refine (toPointS s.a s.len s.cap ps _ (h.next HB.out) hs).mono ?_
    rintro e u3 ⟨rfl, O3, B3⟩
    replace O2 := O2.next B3
    replace HB := Lib.hid (below_call HB.out B3)
    clear B3
    have hx : u2.heap.size < u3.heap.size := (World.ownsRow.lt O3 _ rfl).2
    go_wp2_with fail
    refine (implHullOf _ _ _ ps _ O3.ints.pl hl).mono ?_
    rw [HE.out]
    rintro e u4 ⟨⟨ta, tl, tc⟩, rfl, l4, O4, B4⟩
    replace O2 := O2.next B4
    replace O3 := O3.next B4
    replace HB := Lib.hid (below_call HB.out B4)
    clear B4
    simp only at *
    obtain rfl : tl = sl := by rw [l4, HLL.out]
    clear l4
    have A4 := Lib.hid (fun q hq => (World.ownsRow.lt O4 q hq).1)
    go_wp2_with fail
    refine (eqPointS _ _ _ _ _ _ L _ O4.ints O2.ints (by omega)).mono ?_
    rintro e u5 ⟨rfl, B5⟩
    replace O2 := O2.next B5
    replace O3 := O3.next B5
    replace O4 := O4.next B5
    replace HB := Lib.hid (below_call HB.out B5)
    clear B5
    go_wp2_with fail
    refine (toPointS s.a s.len s.cap ps _ (h.next HB.out) hs).mono ?_
    rintro e u6 ⟨rfl, O5, B6⟩
    replace O2 := O2.next B6
    replace O3 := O3.next B6
    replace O4 := O4.next B6
    replace HB := Lib.hid (below_call HB.out B6)
    clear B6
    go_wp2_with fail
    refine (eqPointS _ _ _ _ _ _ ps _ O3.ints O5.ints hl).mono ?_
    rintro e u7 ⟨rfl, B7⟩
    replace O2 := O2.next B7
    replace O3 := O3.next B7
    replace O4 := O4.next B7
    replace O5 := O5.next B7
    replace HB := Lib.hid (below_call HB.out B7)
    clear B7
    clear O5
    have n1 : ¬ ((1 : Int) + 2 * (s.len : Int) < 0) := by omega
    have n2 : ¬ ((1 : Int) + 2 * (tl : Int) < 0) := by omega
    have e2 : ((1 + 2 * (tl : Int)) != (1 + 2 * (tl : Int))) = false := by simp
    go_wp2_with fail
    refine (markPointS _ s.len s.len _ ps 1 _ O3 (by omega) (by omega) (by omega)).mono ?_
    rintro e v1 ⟨rfl, O6, G6, S6⟩
    replace O2 : OwnPt v1 _ _ L := World.ownsRow.kept O2 G6 (.inr (fun e => by have q : u2.heap.size < u2.heap.size := A2.out _ e; omega))
    replace O4 : OwnPt v1 _ _ L := World.ownsRow.kept O4 G6 (.inr (fun e => by have q : u3.heap.size ≤ u2.heap.size := A4.out _ e; omega))
    replace HB := Lib.hid (HB.out.grown G6 HB.out.size (fun q hq => by have hh : some u2.heap.size = some q := hq; injection hh with hh; omega))
    clear G6 S6 O3 O6
    go_wp2_with fail
    refine (eqPointS _ _ _ _ _ _ L _ O4.ints O2.ints (by omega)).mono ?_
    rintro e u8 ⟨rfl, B8⟩
    replace O2 := O2.next B8
    replace O4 := O4.next B8
    replace HB := Lib.hid (below_call HB.out B8)
    clear B8
    go_wp2_with fail
    refine (markPointS _ tl tc _ L 1 _ O4 (by omega) (by omega) (by omega)).mono ?_
    rintro e v2 ⟨rfl, O6, G6, S6⟩
    replace O2 : OwnPt v2 _ _ L := World.ownsRow.kept O2 G6 (by
      cases hq : (Value.slice sa tl sc).ownBlock with
      | none => exact .inl rfl
      | some q => exact .inr (fun e => by have h1 := A2.out _ hq; have h2 := A4.out _ e.symm; omega))
    replace HB := Lib.hid (HB.out.grown G6 HB.out.size (fun q hq => by have := A4.out _ hq; omega))
    clear G6 S6 O4
    go_wp2_with fail
    refine (heldPointS _ tl tc 1 _ O6.ints (by omega) (by omega) (by omega)).mono ?_
    rintro e w' ⟨rfl, rfl⟩
    go_wp2_with fail
    refine (toPointS s.a s.len s.cap ps _ (h.next HB.out) hs).mono ?_
    rintro e u9 ⟨rfl, O7, B9⟩
    replace O2 := O2.next B9
    replace O6 := O6.next B9
    replace HB := Lib.hid (below_call HB.out B9)
    clear B9
    go_wp2_with fail
    refine (implHullOf _ _ _ ps _ O7.ints.pl hl).mono ?_
    rw [HE.out]
    rintro e u10 ⟨⟨ra, rl, rc⟩, rfl, l8, O8, B10⟩
    replace O2 := O2.next B10
    replace O6 := O6.next B10
    replace O7 := O7.next B10
    replace HB := Lib.hid (below_call HB.out B10)
    clear B10
    clear O7
    simp only at *
    obtain rfl : tl = rl := by rw [l8, HLL.out]
    clear l8
    go_wp2_with fail
    refine (eqPointS _ _ _ _ _ _ L _ O8.ints O2.ints (by omega)).mono ?_
    rintro e u11 ⟨rfl, B11⟩
    replace O2 := O2.next B11
    replace O6 := O6.next B11
    replace O8 := O8.next B11
    replace HB := Lib.hid (below_call HB.out B11)
    clear B11
    go_wp2_with fail
    refine (heldPointS _ tl tc 1 _ O6.ints (by omega) (by omega) (by omega)).mono ?_
    rintro e w' ⟨rfl, rfl⟩
    go_wp2
    go_ret
    exact ⟨rfl, HB.out⟩
  · rw [if_pos (by omega)] at HSZ
    go_enter Try.func18, Try.ntmps18
    go_wp2_with fail
    refine HSZ.out.mono ?_
    rintro e w' ⟨rfl, rfl⟩
    go_wp2
    go_ret
    exact ⟨rfl, Below.refl _ _⟩
end Go.Proofs.Ytkmopgdnaohcdaa
