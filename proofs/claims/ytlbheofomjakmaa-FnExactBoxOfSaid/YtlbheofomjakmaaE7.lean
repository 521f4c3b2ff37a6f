/- The walks of the exact laws on curves: they return true at every argument. -/
import Derived.Test.YtlbheofomjakmaaOq7
import Derived.Test.YtlbheofomjakmaaSr7
import Derived.Test.YtlbheofomjakmaaBs7
namespace Go.Proofs.Ytlbheofomjakmaa
set_option maxRecDepth 100000
open Go.RowKit
attribute [local go_sem ↓] Go.wp_at_zero Go.wp_at_succ
set_option maxHeartbeats 2000000 in
theorem walkFnExactCurveValid (s : Sl) (ps : List (Int × Int)) (w : World) (h : PtsIn w s.a s.len ps) (hl : s.len ≤ 9223372036854775807) :
    Calls Try.prog 8 #[.slice s.a s.len s.cap] w fun e w' => e = .returned (.bool true) ∧ Below w.heap.size w w' := by
  have HSZ := Lib.hid (szPointS s.a s.len s.cap 1048576 w (by omega) (by omega) hl)
  by_cases hs : s.len ≤ 1048576
  · rw [if_neg (by omega)] at HSZ
    have n0 : ¬ ((1048576 : Int) - (s.len : Int) < 0) := by omega
    go_enter Try.func8, Try.ntmps8
    go_wp2_with fail
    refine HSZ.out.mono ?_
    rintro e w' ⟨rfl, rfl⟩
    go_wp2_with fail
    refine (toPointS s.a s.len s.cap ps _ h hs).mono ?_
    rintro e w1 ⟨rfl, O1, B1⟩
    have HB := Lib.hid B1
    clear B1 HSZ
    go_wp2_with fail
    refine (specCurveValid _ _ _ ps _ O1.ints hl).mono ?_
    rintro e w2 ⟨rfl, B2⟩
    replace HB := Lib.hid (below_call HB.out B2)
    clear O1 B2
    go_wp2_with fail
    refine (toPointS s.a s.len s.cap ps _ (h.next HB.out) hs).mono ?_
    rintro e w3 ⟨rfl, O3, B3⟩
    replace HB := Lib.hid (below_call HB.out B3)
    clear B3
    go_wp2_with fail
    refine (implCurveValid _ _ _ ps _ O3.ints hl).mono ?_
    rintro e w4 ⟨rfl, B4⟩
    replace HB := Lib.hid (below_call HB.out B4)
    replace O3 := O3.next B4
    clear B4
    generalize decide (okCurve ps) = r at *
    have e0 : (r != r) = false := by simp
    go_wp2_with fail
    refine (toPointS s.a s.len s.cap ps _ (h.next HB.out) hs).mono ?_
    rintro e w5 ⟨rfl, O5, B5⟩
    replace HB := Lib.hid (below_call HB.out B5)
    replace O3 := O3.next B5
    clear B5
    go_wp2_with fail
    refine (eqPointS _ _ _ _ _ _ ps _ O3.ints O5.ints hl).mono ?_
    rintro e w6 ⟨rfl, B6⟩
    replace HB := Lib.hid (below_call HB.out B6)
    clear B6
    go_wp2
    go_ret
    exact ⟨rfl, HB.out⟩
  · rw [if_pos (by omega)] at HSZ
    go_enter Try.func8, Try.ntmps8
    go_wp2_with fail
    refine HSZ.out.mono ?_
    rintro e w' ⟨rfl, rfl⟩
    go_wp2
    go_ret
    exact ⟨rfl, Below.refl _ _⟩
set_option maxHeartbeats 2000000 in
theorem walkFnExactBoxOf (s : Sl) (ps : List (Int × Int)) (w : World) (h : PtsIn w s.a s.len ps) (hl : s.len ≤ 9223372036854775807) :
    Calls Try.prog 11 #[.slice s.a s.len s.cap] w fun e w' => e = .returned (.bool true) ∧ Below w.heap.size w w' := by
  have HSZ := Lib.hid (szPointS s.a s.len s.cap 1048576 w (by omega) (by omega) hl)
  by_cases hs : s.len ≤ 1048576
  · rw [if_neg (by omega)] at HSZ
    have n0 : ¬ ((1048576 : Int) - (s.len : Int) < 0) := by omega
    go_enter Try.func11, Try.ntmps11
    go_wp2_with fail
    refine HSZ.out.mono ?_
    rintro e w' ⟨rfl, rfl⟩
    go_wp2_with fail
    refine (toPointS s.a s.len s.cap ps _ h hs).mono ?_
    rintro e w1 ⟨rfl, O1, B1⟩
    have HB := Lib.hid B1
    clear B1 HSZ
    go_wp2_with fail
    refine (specBoxOf _ _ _ ps _ O1.ints hl).mono ?_
    rintro e w2 ⟨rfl, B2⟩
    replace HB := Lib.hid (below_call HB.out B2)
    clear O1 B2
    have HBX : Hid (∃ lx ly hx hy : Int, boxE ps = .returned (.tuple #[pt lx ly, pt hx hy])) := Lib.hid ⟨_, _, _, _, rfl⟩
    obtain ⟨lx, ly, hx, hy, hbx⟩ := HBX.out
    rw [hbx]
    have HE := Lib.hid hbx
    clear hbx HBX
    have PQ := at2 w2 lx ly hx hy 31
    replace HB := Lib.hid (below_call HB.out (below_box2 w2 (.cells #[.int .i64 lx, .int .i64 ly] 31) (.cells #[.int .i64 hx, .int .i64 hy] 31)))
    go_upto_region 6 with fail
    generalize (w2.alloc (.cells #[.int .i64 lx, .int .i64 ly] 31)).alloc (.cells #[.int .i64 hx, .int .i64 hy] 31) = w3 at *
    generalize w2.heap.size = g at *
    obtain ⟨P4, P5⟩ := PQ
    go_wp2_with fail
    refine (toPointS s.a s.len s.cap ps _ (h.next HB.out) hs).mono ?_
    rintro e w4 ⟨rfl, O4, B4⟩
    replace P4 := P4.next B4
    replace P5 := P5.next B4
    replace HB := Lib.hid (below_call HB.out B4)
    clear B4
    generalize w3.heap.size = x at *
    go_wp2_with fail
    refine (implBoxOf _ _ _ ps _ O4.ints (Nat.le_refl _) hl).mono ?_
    rw [HE.out]
    rintro e w5 ⟨rfl, B5⟩
    replace P4 := P4.next B5
    replace P5 := P5.next B5
    replace O4 := O4.next B5
    replace HB := Lib.hid (below_call HB.out B5)
    clear B5 HE
    have PQ := at2 w5 lx ly hx hy 31
    replace HB := Lib.hid (below_call HB.out (below_box2 w5 (.cells #[.int .i64 lx, .int .i64 ly] 31) (.cells #[.int .i64 hx, .int .i64 hy] 31)))
    replace P4 := P4.next (below_box2 w5 (.cells #[.int .i64 lx, .int .i64 ly] 31) (.cells #[.int .i64 hx, .int .i64 hy] 31))
    replace P5 := P5.next (below_box2 w5 (.cells #[.int .i64 lx, .int .i64 ly] 31) (.cells #[.int .i64 hx, .int .i64 hy] 31))
    replace O4 := O4.next (below_box2 w5 (.cells #[.int .i64 lx, .int .i64 ly] 31) (.cells #[.int .i64 hx, .int .i64 hy] 31))
    go_upto_region 8 with fail
    generalize (w5.alloc (.cells #[.int .i64 lx, .int .i64 ly] 31)).alloc (.cells #[.int .i64 hx, .int .i64 hy] 31) = w6 at *
    generalize w5.heap.size = g2 at *
    obtain ⟨P7, P8⟩ := PQ
    obtain ⟨p0, p1, p2⟩ := id P4
    obtain ⟨q0, q1, q2⟩ := id P7
    go_wp2_with fail
    refine (eqPoint lx ly _).mono ?_
    rintro e w7 ⟨rfl, B7⟩
    replace HB := Lib.hid (below_call HB.out B7)
    replace O4 := O4.next B7
    clear p0 p1 p2 q0 q1 q2
    obtain ⟨p0, p1, p2⟩ := P5.next B7
    obtain ⟨q0, q1, q2⟩ := P8.next B7
    clear B7
    go_wp2_with fail
    refine (eqPoint hx hy _).mono ?_
    rintro e w8 ⟨rfl, B8⟩
    replace HB := Lib.hid (below_call HB.out B8)
    replace O4 := O4.next B8
    clear B8 p0 p1 p2 q0 q1 q2 P4 P5 P7 P8
    go_wp2_with fail
    refine (toPointS s.a s.len s.cap ps _ (h.next HB.out) hs).mono ?_
    rintro e w9 ⟨rfl, O9, B9⟩
    replace HB := Lib.hid (below_call HB.out B9)
    replace O4 := O4.next B9
    clear B9
    go_wp2_with fail
    refine (eqPointS _ _ _ _ _ _ ps _ O4.ints O9.ints hl).mono ?_
    rintro e w10 ⟨rfl, B10⟩
    replace HB := Lib.hid (below_call HB.out B10)
    clear B10
    go_wp2
    go_ret
    exact ⟨rfl, HB.out⟩
  · rw [if_pos (by omega)] at HSZ
    go_enter Try.func11, Try.ntmps11
    go_wp2_with fail
    refine HSZ.out.mono ?_
    rintro e w' ⟨rfl, rfl⟩
    go_wp2
    go_ret
    exact ⟨rfl, Below.refl _ _⟩
end Go.Proofs.Ytlbheofomjakmaa
