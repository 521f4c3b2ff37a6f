/- The walks of the exact laws on polygons: they return true at every argument. -/
import Derived.Test.YtkmopgdnaohcdaaLk8
namespace Go.Proofs.Ytkmopgdnaohcdaa
set_option maxRecDepth 100000
open Go.RowKit
attribute [local go_sem ↓] Go.wp_at_zero Go.wp_at_succ
set_option maxHeartbeats 2000000 in
theorem walkFnExactConvexValid (s : Sl) (ps : List (Int × Int)) (w : World) (h : PtsIn w s.a s.len ps) (hl : s.len ≤ 9223372036854775807) :
    Calls Try.prog 12 #[.slice s.a s.len s.cap] w fun e w' => e = .returned (.bool true) ∧ Below w.heap.size w w' := by
  have HSZ := Lib.hid (szPointS s.a s.len s.cap 1048576 w (by omega) (by omega) hl)
  have HE := Lib.hid (rfl : decide (okCvx ps) = decide (okCvx ps))
  by_cases hs : s.len ≤ 1048576
  · rw [if_neg (by omega)] at HSZ
    have n0 : ¬ ((1048576 : Int) - (s.len : Int) < 0) := by omega
    go_enter Try.func12, Try.ntmps12
    go_wp2_with fail
    refine HSZ.out.mono ?_
    rintro e w' ⟨rfl, rfl⟩
    clear HSZ
    go_wp2_with fail
    refine (toPointS s.a s.len s.cap ps _ h hs).mono ?_
    rintro e u1 ⟨rfl, O1, B1⟩
    have HB := Lib.hid B1
    clear B1
    go_wp2_with fail
    refine (specConvexValid _ _ _ ps _ O1.ints.pl hl).mono ?_
    rintro e u2 ⟨rfl, B2⟩
    replace O1 := O1.next B2
    replace HB := Lib.hid (below_call HB.out B2)
    clear B2
    clear O1
    go_wp2_with fail
    refine (toPointS s.a s.len s.cap ps _ (h.next HB.out) hs).mono ?_
    rintro e u3 ⟨rfl, O2, B3⟩
    replace HB := Lib.hid (below_call HB.out B3)
    clear B3
    go_wp2_with fail
    refine (implConvexValid _ _ _ ps _ O2.ints.pl hl).mono ?_
    rintro e u4 ⟨rfl, B4⟩
    replace O2 := O2.next B4
    replace HB := Lib.hid (below_call HB.out B4)
    clear B4
    clear HE
    generalize decide (okCvx ps) = r at *
    have e0 : (r != r) = false := by simp
    go_wp2_with fail
    refine (toPointS s.a s.len s.cap ps _ (h.next HB.out) hs).mono ?_
    rintro e u5 ⟨rfl, O3, B5⟩
    replace O2 := O2.next B5
    replace HB := Lib.hid (below_call HB.out B5)
    clear B5
    go_wp2_with fail
    refine (eqPointS _ _ _ _ _ _ ps _ O2.ints O3.ints hl).mono ?_
    rintro e u6 ⟨rfl, B6⟩
    replace O2 := O2.next B6
    replace O3 := O3.next B6
    replace HB := Lib.hid (below_call HB.out B6)
    clear B6
    go_wp2
    go_ret
    exact ⟨rfl, HB.out⟩
  · rw [if_pos (by omega)] at HSZ
    go_enter Try.func12, Try.ntmps12
    go_wp2_with fail
    refine HSZ.out.mono ?_
    rintro e w' ⟨rfl, rfl⟩
    go_wp2
    go_ret
    exact ⟨rfl, Below.refl _ _⟩
set_option maxHeartbeats 2000000 in
theorem walkFnExactDoubleArea (s : Sl) (ps : List (Int × Int)) (w : World) (h : PtsIn w s.a s.len ps) (hl : s.len ≤ 9223372036854775807) :
    Calls Try.prog 17 #[.slice s.a s.len s.cap] w fun e w' => e = .returned (.bool true) ∧ Below w.heap.size w w' := by
  have HSZ := Lib.hid (szPointS s.a s.len s.cap 1048576 w (by omega) (by omega) hl)
  have HE := Lib.hid (rfl : daV ps = daV ps)
  by_cases hs : s.len ≤ 1048576
  · rw [if_neg (by omega)] at HSZ
    have n0 : ¬ ((1048576 : Int) - (s.len : Int) < 0) := by omega
    go_enter Try.func17, Try.ntmps17
    go_wp2_with fail
    refine HSZ.out.mono ?_
    rintro e w' ⟨rfl, rfl⟩
    clear HSZ
    go_wp2_with fail
    refine (toPointS s.a s.len s.cap ps _ h hs).mono ?_
    rintro e u1 ⟨rfl, O1, B1⟩
    have HB := Lib.hid B1
    clear B1
    go_wp2_with fail
    refine (specDoubleArea _ _ _ ps _ O1.ints.pl hl).mono ?_
    rintro e u2 ⟨rfl, B2⟩
    replace O1 := O1.next B2
    replace HB := Lib.hid (below_call HB.out B2)
    clear B2
    clear O1
    go_wp2_with fail
    refine (toPointS s.a s.len s.cap ps _ (h.next HB.out) hs).mono ?_
    rintro e u3 ⟨rfl, O2, B3⟩
    replace HB := Lib.hid (below_call HB.out B3)
    clear B3
    go_wp2_with fail
    refine (iArea _ _ _ ps _ O2.ints.pl hl).mono ?_
    rintro e u4 ⟨rfl, B4⟩
    replace O2 := O2.next B4
    replace HB := Lib.hid (below_call HB.out B4)
    clear B4
    clear HE
    generalize daV ps = r at *
    have e0 : (r != r) = false := by simp
    go_wp2_with fail
    refine (toPointS s.a s.len s.cap ps _ (h.next HB.out) hs).mono ?_
    rintro e u5 ⟨rfl, O3, B5⟩
    replace O2 := O2.next B5
    replace HB := Lib.hid (below_call HB.out B5)
    clear B5
    go_wp2_with fail
    refine (eqPointS _ _ _ _ _ _ ps _ O2.ints O3.ints hl).mono ?_
    rintro e u6 ⟨rfl, B6⟩
    replace O2 := O2.next B6
    replace O3 := O3.next B6
    replace HB := Lib.hid (below_call HB.out B6)
    clear B6
    go_wp2
    go_ret
    exact ⟨rfl, HB.out⟩
  · rw [if_pos (by omega)] at HSZ
    go_enter Try.func17, Try.ntmps17
    go_wp2_with fail
    refine HSZ.out.mono ?_
    rintro e w' ⟨rfl, rfl⟩
    go_wp2
    go_ret
    exact ⟨rfl, Below.refl _ _⟩
set_option maxHeartbeats 2000000 in
theorem walkFnExactConvexMeet (s z : Sl) (ps qs : List (Int × Int)) (w : World) (h : PtsIn w s.a s.len ps) (hl : s.len ≤ 9223372036854775807) (h2 : PtsIn w z.a z.len qs) (hl2 : z.len ≤ 9223372036854775807) :
    Calls Try.prog 16 #[.slice s.a s.len s.cap, .slice z.a z.len z.cap] w fun e w' => e = .returned (.bool true) ∧ Below w.heap.size w w' := by
  have HSZ := Lib.hid (szPointS s.a s.len s.cap 1048576 w (by omega) (by omega) hl)
  by_cases hs : s.len ≤ 1048576
  · rw [if_neg (by omega)] at HSZ
    have n0 : ¬ ((1048576 : Int) - (s.len : Int) < 0) := by omega
    have HSY := Lib.hid (szPointS z.a z.len z.cap (1048576 - (s.len : Int)) w (by omega) (by omega) hl2)
    by_cases hs2 : s.len + z.len ≤ 1048576
    · rw [if_neg (by omega)] at HSY
      have n1 : ¬ ((1048576 : Int) - (s.len : Int) - (z.len : Int) < 0) := by omega
      have hz : z.len ≤ 1048576 := by omega
      go_enter Try.func16, Try.ntmps16
      go_wp2_with fail
      refine HSZ.out.mono ?_
      rintro e w' ⟨rfl, rfl⟩
      go_wp2_with fail
      refine HSY.out.mono ?_
      rintro e w' ⟨rfl, rfl⟩
      clear HSZ HSY
      go_wp2_with fail
      refine (toPointS s.a s.len s.cap ps _ h hs).mono ?_
      rintro e u1 ⟨rfl, O1, B1⟩
      have HB := Lib.hid B1
      clear B1
      go_wp2_with fail
      refine (toPointS z.a z.len z.cap qs _ (h2.next HB.out) hz).mono ?_
      rintro e u2 ⟨rfl, P1, B2⟩
      replace O1 := O1.next B2
      replace HB := Lib.hid (below_call HB.out B2)
      clear B2
      go_wp2_with fail
      refine (specConvexMeet _ _ _ _ _ _ ps qs _ O1.ints.pl hl P1.ints.pl hl2).mono ?_
      rintro e u3 ⟨rfl, B3⟩
      replace O1 := O1.next B3
      replace P1 := P1.next B3
      replace HB := Lib.hid (below_call HB.out B3)
      clear B3
      clear O1 P1
      go_wp2_with fail
      refine (toPointS s.a s.len s.cap ps _ (h.next HB.out) hs).mono ?_
      rintro e u4 ⟨rfl, O2, B4⟩
      replace HB := Lib.hid (below_call HB.out B4)
      clear B4
      go_wp2_with fail
      refine (toPointS z.a z.len z.cap qs _ (h2.next HB.out) hz).mono ?_
      rintro e u5 ⟨rfl, P2, B5⟩
      replace O2 := O2.next B5
      replace HB := Lib.hid (below_call HB.out B5)
      clear B5
      go_wp2_with fail
      refine (iMeets _ _ _ _ _ _ ps qs _ O2.ints.pl hl P2.ints.pl hl2).mono ?_
      rintro e u6 ⟨rfl, B6⟩
      replace O2 := O2.next B6
      replace P2 := P2.next B6
      replace HB := Lib.hid (below_call HB.out B6)
      clear B6
      generalize decide (cmV ps qs) = r at *
      have e0 : (r != r) = false := by simp
      go_wp2_with fail
      refine (toPointS s.a s.len s.cap ps _ (h.next HB.out) hs).mono ?_
      rintro e u7 ⟨rfl, O3, B7⟩
      replace O2 := O2.next B7
      replace P2 := P2.next B7
      replace HB := Lib.hid (below_call HB.out B7)
      clear B7
      go_wp2_with fail
      refine (eqPointS _ _ _ _ _ _ ps _ O2.ints O3.ints hl).mono ?_
      rintro e u8 ⟨rfl, B8⟩
      replace O2 := O2.next B8
      replace P2 := P2.next B8
      replace O3 := O3.next B8
      replace HB := Lib.hid (below_call HB.out B8)
      clear B8
      clear O3 O2
      go_wp2_with fail
      refine (toPointS z.a z.len z.cap qs _ (h2.next HB.out) hz).mono ?_
      rintro e u9 ⟨rfl, P3, B9⟩
      replace P2 := P2.next B9
      replace HB := Lib.hid (below_call HB.out B9)
      clear B9
      go_wp2_with fail
      refine (eqPointS _ _ _ _ _ _ qs _ P2.ints P3.ints hl2).mono ?_
      rintro e u10 ⟨rfl, B10⟩
      replace P2 := P2.next B10
      replace P3 := P3.next B10
      replace HB := Lib.hid (below_call HB.out B10)
      clear B10
      go_wp2
      go_ret
      exact ⟨rfl, HB.out⟩
    · rw [if_pos (by omega)] at HSY
      go_enter Try.func16, Try.ntmps16
      go_wp2_with fail
      refine HSZ.out.mono ?_
      rintro e w' ⟨rfl, rfl⟩
      go_wp2_with fail
      refine HSY.out.mono ?_
      rintro e w' ⟨rfl, rfl⟩
      go_wp2
      go_ret
      exact ⟨rfl, Below.refl _ _⟩
  · rw [if_pos (by omega)] at HSZ
    go_enter Try.func16, Try.ntmps16
    go_wp2_with fail
    refine HSZ.out.mono ?_
    rintro e w' ⟨rfl, rfl⟩
    go_wp2
    go_ret
    exact ⟨rfl, Below.refl _ _⟩
end Go.Proofs.Ytkmopgdnaohcdaa
