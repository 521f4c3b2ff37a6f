/- The walk of the law FnSquaredDistance: it returns true at every code. -/
import Derived.Test.YtkodlhdjibbidaaDraw2b
namespace Go.Proofs.Ytkodlhdjibbidaa
open Go.RowKit
attribute [local go_sem ↓] Go.wp_at_zero Go.wp_at_succ
theorem walkFnSquaredDistance (w : World) (a : Option Addr) (len cap : Nat) (zs : List Int) (h : Bytes w a len cap zs) :
    Calls Try.prog 5 #[.slice a len cap] w fun e w' => e = .returned (.bool true) ∧ Below w.heap.size w w' := by
  have hle := h.len_le
  obtain ⟨hl, hm⟩ := hle
  unfold maxLen at hm
  by_cases hbig : 1048576 < len
  · go_enter Try.func5, Try.ntmps5
    go_wp2
    go_ret
    exact ⟨rfl, Below.refl _ _⟩
  · go_enter Try.func5, Try.ntmps5
    go_wp2_with fail
    refine (drawSquaredDistance w a len cap zs h).mono ?_
    rintro e w0 ⟨ax, ay, bx, b_y, hs, rfl, hb⟩
    clear h hl hm hbig
    obtain ⟨⟨s1, s2⟩, ⟨s3, s4⟩, ⟨s5, s6⟩, ⟨s7, s8⟩⟩ := hs
    have HB := Lib.hid (below_call hb (below_box2 w0 (.cells #[.int .i64 ax, .int .i64 ay] 24) (.cells #[.int .i64 bx, .int .i64 b_y] 24)))
    obtain ⟨P, Q⟩ := at2 w0 ax ay bx b_y 24
    obtain ⟨p1, p2, p3⟩ := id P
    obtain ⟨q1, q2, q3⟩ := id Q
    clear hb
    have e0 : (sqV ax ay bx b_y != sqV ax ay bx b_y) = false := by simp
    have e1 : (sqV ax ay bx b_y != sqV bx b_y ax ay) = false := by rw [sqV_comm]; simp
    have e2 := sqV_hi ax ay bx b_y
    have e3 := sqV_lo ax ay bx b_y
    by_cases hok : okP ax ay ∧ okP bx b_y
    · have HZ := Lib.hid (sqV_zero hok)
      have n0 : 0 ≤ sqV ax ay bx b_y := by rw [sqV_in hok]; have := sq_nn (bx - ax); have := sq_nn (b_y - ay); omega
      have hE : ((ax == bx) = true ∧ (ay == b_y) = true ∧ (sqV ax ay bx b_y == 0) = true) ∨ ((ax == bx) = true ∧ (ay == b_y) = false ∧ (sqV ax ay bx b_y == 0) = false) ∨ ((ax == bx) = false ∧ (sqV ax ay bx b_y == 0) = false) := by
        by_cases hx : ax = bx
        · by_cases hy : ay = b_y
          · exact .inl ⟨by simpa using hx, by simpa using hy, by simpa using HZ.out.2 ⟨hx, hy⟩⟩
          · exact .inr (.inl ⟨by simpa using hx, by simpa using hy, by simpa using fun h => hy (HZ.out.1 h).2⟩)
        · exact .inr (.inr ⟨by simpa using hx, by simpa using fun h => hx (HZ.out.1 h).1⟩)
      go_wp2_with fail
      refine (implSquaredDistance ax ay bx b_y _).mono ?_
      rintro e w1 ⟨rfl, B1⟩
      replace HB := Lib.hid (below_call HB.out B1)
      clear p1 p2 p3
      replace P := P.next B1
      obtain ⟨p1, p2, p3⟩ := id P
      clear q1 q2 q3
      replace Q := Q.next B1
      obtain ⟨q1, q2, q3⟩ := id Q
      clear B1
      go_wp2_with fail
      refine (specSquaredDistance ax ay bx b_y _).mono ?_
      rintro e w2 ⟨rfl, B2⟩
      replace HB := Lib.hid (below_call HB.out B2)
      clear p1 p2 p3
      replace P := P.next B2
      obtain ⟨p1, p2, p3⟩ := id P
      clear q1 q2 q3
      replace Q := Q.next B2
      obtain ⟨q1, q2, q3⟩ := id Q
      clear B2
      go_wp2_with fail
      refine (implSquaredDistance bx b_y ax ay _).mono ?_
      rintro e w3 ⟨rfl, B3⟩
      replace HB := Lib.hid (below_call HB.out B3)
      clear p1 p2 p3
      replace P := P.next B3
      obtain ⟨p1, p2, p3⟩ := id P
      clear q1 q2 q3
      replace Q := Q.next B3
      obtain ⟨q1, q2, q3⟩ := id Q
      clear B3
      have R := AtP.box w3 (2 * bx - ax) (2 * b_y - ay) 24
      have P' := P.alloc (.cells #[.int .i64 (2 * bx - ax), .int .i64 (2 * b_y - ay)] 24)
      have HB' := Lib.hid (HB.out.alloc HB.out.size (.cells #[.int .i64 (2 * bx - ax), .int .i64 (2 * b_y - ay)] 24))
      by_cases hc : okP (2 * bx - ax) (2 * b_y - ay)
      · have e4 : (sqV ax ay (2 * bx - ax) (2 * b_y - ay) == 4 * sqV ax ay bx b_y) = true := by rw [sqV_twice hok hc]; simp
        rcases hE with ⟨hx, hy, hn⟩ | ⟨hx, hy, hn⟩ | ⟨hx, hn⟩
        all_goals
          go_wp2_with fail
          refine (implPointValidY _ _ _ hc).mono ?_
          rintro e w4 ⟨rfl, B4⟩
          have HB4 := Lib.hid (below_call HB'.out B4)
          obtain ⟨r1, r2, r3⟩ := R.next B4
          obtain ⟨t1, t2, t3⟩ := P'.next B4
          clear p1 p2 p3
          go_wp2_with fail
          refine (implSquaredDistance _ _ _ _ _).mono ?_
          rintro e w5 ⟨rfl, B5⟩
          have HB5 := Lib.hid (below_call HB4.out B5)
          go_wp2
          go_ret
          exact ⟨rfl, HB5.out⟩
      · rcases hE with ⟨hx, hy, hn⟩ | ⟨hx, hy, hn⟩ | ⟨hx, hn⟩
        all_goals
          go_wp2_with fail
          refine (implPointValidN _ _ _ hc).mono ?_
          rintro e w4 ⟨rfl, B4⟩
          have HB4 := Lib.hid (below_call HB'.out B4)
          go_wp2
          go_ret
          exact ⟨rfl, HB4.out⟩
    · have n0 : sqV ax ay bx b_y < 0 := by rw [sqV_out hok]; omega
      have e2 : (sqV ax ay bx b_y == -1) = true := by rw [sqV_out hok]; simp
      go_wp2_with fail
      refine (implSquaredDistance ax ay bx b_y _).mono ?_
      rintro e w1 ⟨rfl, B1⟩
      replace HB := Lib.hid (below_call HB.out B1)
      clear p1 p2 p3
      replace P := P.next B1
      obtain ⟨p1, p2, p3⟩ := id P
      clear q1 q2 q3
      replace Q := Q.next B1
      obtain ⟨q1, q2, q3⟩ := id Q
      clear B1
      go_wp2_with fail
      refine (specSquaredDistance ax ay bx b_y _).mono ?_
      rintro e w2 ⟨rfl, B2⟩
      replace HB := Lib.hid (below_call HB.out B2)
      clear p1 p2 p3
      replace P := P.next B2
      obtain ⟨p1, p2, p3⟩ := id P
      clear q1 q2 q3
      replace Q := Q.next B2
      obtain ⟨q1, q2, q3⟩ := id Q
      clear B2
      go_wp2_with fail
      refine (implSquaredDistance bx b_y ax ay _).mono ?_
      rintro e w3 ⟨rfl, B3⟩
      replace HB := Lib.hid (below_call HB.out B3)
      clear p1 p2 p3
      replace P := P.next B3
      obtain ⟨p1, p2, p3⟩ := id P
      clear q1 q2 q3
      replace Q := Q.next B3
      obtain ⟨q1, q2, q3⟩ := id Q
      clear B3
      go_wp2_with fail
      refine (alive _).mono ?_
      rintro e w' ⟨rfl, rfl⟩
      go_wp2
      go_ret
      exact ⟨rfl, HB.out⟩
end Go.Proofs.Ytkodlhdjibbidaa
