/- The walk of the law FnOrientation: it returns true at every code. -/
import Derived.Test.YtkodlhdjibbidaaDraw2b
namespace Go.Proofs.Ytkodlhdjibbidaa
open Go.RowKit
attribute [local go_sem ↓] Go.wp_at_zero Go.wp_at_succ
theorem walkFnOrientation (w : World) (a : Option Addr) (len cap : Nat) (zs : List Int) (h : Bytes w a len cap zs) :
    Calls Try.prog 4 #[.slice a len cap] w fun e w' => e = .returned (.bool true) ∧ Below w.heap.size w w' := by
  have hle := h.len_le
  obtain ⟨hl, hm⟩ := hle
  unfold maxLen at hm
  by_cases hbig : 1048576 < len
  · go_enter Try.func4, Try.ntmps4
    go_wp2
    go_ret
    exact ⟨rfl, Below.refl _ _⟩
  · go_enter Try.func4, Try.ntmps4
    go_wp2_with fail
    refine (drawOrientation w a len cap zs h).mono ?_
    rintro e w0 ⟨ax, ay, bx, b_y, cx, cy, hs, rfl, hb⟩
    clear h hl hm hbig
    have HB := Lib.hid (below_call hb (below_box3 w0 (.cells #[.int .i64 ax, .int .i64 ay] 24) (.cells #[.int .i64 bx, .int .i64 b_y] 24) (.cells #[.int .i64 cx, .int .i64 cy] 24)))
    obtain ⟨P, Q, R⟩ := at3 w0 ax ay bx b_y cx cy 24
    obtain ⟨p1, p2, p3⟩ := id P
    obtain ⟨q1, q2, q3⟩ := id Q
    obtain ⟨r1, r2, r3⟩ := id R
    clear hb hs
    have e0 : (oriV ax ay bx b_y cx cy != oriV ax ay bx b_y cx cy) = false := by simp
    have e1 : (oriV ax ay bx b_y cx cy == oriV bx b_y cx cy ax ay) = true := by rw [oriV_cyc ax ay bx b_y cx cy]; simp
    have e2 : (oriV ax ay bx b_y cx cy == - oriV bx b_y ax ay cx cy) = true := by rw [oriV_swap ax ay bx b_y cx cy]; simp
    have e3 : (oriV ax ay ax ay cx cy == 0) = true := by rw [oriV_same]; simp
    obtain ⟨e4, e5⟩ := oriV_bd ax ay bx b_y cx cy
    obtain ⟨e6, e7⟩ := oriV_bd bx b_y ax ay cx cy
    go_wp2_with fail
    refine (implOrientation ax ay bx b_y cx cy _).mono ?_
    rintro e w1 ⟨rfl, B1⟩
    replace HB := Lib.hid (below_call HB.out B1)
    clear p1 p2 p3
    replace P := P.next B1
    obtain ⟨p1, p2, p3⟩ := id P
    clear q1 q2 q3
    replace Q := Q.next B1
    obtain ⟨q1, q2, q3⟩ := id Q
    clear r1 r2 r3
    replace R := R.next B1
    obtain ⟨r1, r2, r3⟩ := id R
    clear B1
    go_wp2_with fail
    refine (specOrientation ax ay bx b_y cx cy _).mono ?_
    rintro e w2 ⟨rfl, B2⟩
    replace HB := Lib.hid (below_call HB.out B2)
    clear p1 p2 p3
    replace P := P.next B2
    obtain ⟨p1, p2, p3⟩ := id P
    clear q1 q2 q3
    replace Q := Q.next B2
    obtain ⟨q1, q2, q3⟩ := id Q
    clear r1 r2 r3
    replace R := R.next B2
    obtain ⟨r1, r2, r3⟩ := id R
    clear B2
    go_wp2_with fail
    refine (implOrientation bx b_y cx cy ax ay _).mono ?_
    rintro e w3 ⟨rfl, B3⟩
    replace HB := Lib.hid (below_call HB.out B3)
    clear p1 p2 p3
    replace P := P.next B3
    obtain ⟨p1, p2, p3⟩ := id P
    clear q1 q2 q3
    replace Q := Q.next B3
    obtain ⟨q1, q2, q3⟩ := id Q
    clear r1 r2 r3
    replace R := R.next B3
    obtain ⟨r1, r2, r3⟩ := id R
    clear B3
    go_wp2_with fail
    refine (implOrientation bx b_y ax ay cx cy _).mono ?_
    rintro e w4 ⟨rfl, B4⟩
    replace HB := Lib.hid (below_call HB.out B4)
    clear p1 p2 p3
    replace P := P.next B4
    obtain ⟨p1, p2, p3⟩ := id P
    clear q1 q2 q3
    replace Q := Q.next B4
    obtain ⟨q1, q2, q3⟩ := id Q
    clear r1 r2 r3
    replace R := R.next B4
    obtain ⟨r1, r2, r3⟩ := id R
    clear B4
    go_wp2_with fail
    refine (implOrientation ax ay ax ay cx cy _).mono ?_
    rintro e w5 ⟨rfl, B5⟩
    replace HB := Lib.hid (below_call HB.out B5)
    clear p1 p2 p3
    replace P := P.next B5
    obtain ⟨p1, p2, p3⟩ := id P
    clear q1 q2 q3
    replace Q := Q.next B5
    obtain ⟨q1, q2, q3⟩ := id Q
    clear r1 r2 r3
    replace R := R.next B5
    obtain ⟨r1, r2, r3⟩ := id R
    clear B5
    go_wp2_with fail
    refine (alive _).mono ?_
    rintro e w' ⟨rfl, rfl⟩
    go_wp2
    go_ret
    exact ⟨rfl, HB.out⟩
end Go.Proofs.Ytkodlhdjibbidaa
