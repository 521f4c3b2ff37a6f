/- The document's test of two segments. -/
import Derived.Test.YtkmopgdnaohcdaaDo8
namespace Go.Proofs.Ytkmopgdnaohcdaa
set_option maxRecDepth 100000
open Go.RowKit
attribute [local go_sem ↓] Go.wp_at_zero Go.wp_at_succ
theorem at4_next {w w' : World} {x1 x2 x3 x4 : Nat} {a b c d : P2} (h : AtP w x1 a.1 a.2 ∧ AtP w x2 b.1 b.2 ∧ AtP w x3 c.1 c.2 ∧ AtP w x4 d.1 d.2) (hb : Below w.heap.size w w') : AtP w' x1 a.1 a.2 ∧ AtP w' x2 b.1 b.2 ∧ AtP w' x3 c.1 c.2 ∧ AtP w' x4 d.1 d.2 := ⟨h.1.next hb, h.2.1.next hb, h.2.2.1.next hb, h.2.2.2.next hb⟩
set_option maxHeartbeats 8000000 in
theorem l8MeetC (a b c d : P2) (w : World) (ha : okQ a) (hb : okQ b) (hc : okQ c) (hd : okQ d) : Calls Try.prog 69 #[pt a.1 a.2, pt b.1 b.2, pt c.1 c.2, pt d.1 d.2] w fun e w' => e = .returned (.bool (decide (Meet a b c d))) ∧ Below w.heap.size w w' := by
  have HB := Lib.hid (below_box4 w (.cells #[.int .i64 a.1, .int .i64 a.2] 28) (.cells #[.int .i64 b.1, .int .i64 b.2] 28) (.cells #[.int .i64 c.1, .int .i64 c.2] 28) (.cells #[.int .i64 d.1, .int .i64 d.2] 28))
  have HX := Lib.hid (box4 w a b c d)
  have H1 := Lib.hid (fun u => crossC a b c u ha hb hc)
  have H2 := Lib.hid (fun u => crossC a b d u ha hb hd)
  have H3 := Lib.hid (fun u => crossC c d a u hc hd ha)
  have H4 := Lib.hid (fun u => crossC c d b u hc hd hb)
  have O1 := Lib.hid (fun u => l8OnC a b c u)
  have O2 := Lib.hid (fun u => l8OnC a b d u)
  have O3 := Lib.hid (fun u => l8OnC c d a u)
  have O4 := Lib.hid (fun u => l8OnC c d b u)
  have B1 := cr_bd ha hb hc
  have B2 := cr_bd ha hb hd
  have B3 := cr_bd hc hd ha
  have B4 := cr_bd hc hd hb
  have HV : Hid (decide (Meet a b c d) = decide ((sgn (cr a b c) ≠ sgn (cr a b d) ∧ sgn (cr c d a) ≠ sgn (cr c d b)) ∨ (sgn (cr a b c) = 0 ∧ decide (OnB a b c) = true) ∨ (sgn (cr a b d) = 0 ∧ decide (OnB a b d) = true) ∨ (sgn (cr c d a) = 0 ∧ decide (OnB c d a) = true) ∨ (sgn (cr c d b) = 0 ∧ decide (OnB c d b) = true))) := Lib.hid (by
    rw [Bool.eq_iff_iff, decide_eq_true_eq, decide_eq_true_eq, decide_eq_true_eq, decide_eq_true_eq, decide_eq_true_eq, decide_eq_true_eq]; exact meet_sgn a b c d)
  generalize decide (Meet a b c d) = rr at *
  generalize decide (OnB a b c) = o1 at *
  generalize decide (OnB a b d) = o2 at *
  generalize decide (OnB c d a) = o3 at *
  generalize decide (OnB c d b) = o4 at *
  generalize cr a b c = P at *
  generalize cr a b d = Q at *
  generalize cr c d a = R at *
  generalize cr c d b = S at *
  clear ha hb hc hd
  obtain ⟨P0, P1⟩ := B1
  obtain ⟨Q0, Q1⟩ := B2
  obtain ⟨R0, R1⟩ := B3
  obtain ⟨S0, S1⟩ := B4
  go_enter Try.func69, Try.ntmps69
  go_wp2_with fail
  generalize (((w.alloc (.cells #[.int .i64 a.1, .int .i64 a.2] 28)).alloc (.cells #[.int .i64 b.1, .int .i64 b.2] 28)).alloc (.cells #[.int .i64 c.1, .int .i64 c.2] 28)).alloc (.cells #[.int .i64 d.1, .int .i64 d.2] 28) = w0 at *
  have HW0 := Lib.hid (Below.refl w0.heap.size w0)
  refine (H1.out _).mono ?_
  rintro e w1 ⟨rfl, B⟩
  have HW1 := Lib.hid (below_call HW0.out B)
  clear B
  obtain ⟨K1, K2, K3, K4⟩ := HX.out
  obtain ⟨_, a1, a2⟩ := K1.next HW1.out
  obtain ⟨_, b1, b2⟩ := K2.next HW1.out
  obtain ⟨_, c1, c2⟩ := K3.next HW1.out
  obtain ⟨_, d1, d2⟩ := K4.next HW1.out
  clear K1 K2 K3 K4
  go_wp2_with fail
  refine (l2Sign P _).mono ?_
  rintro e w' ⟨rfl, rfl⟩
  go_wp2_with fail
  refine (H2.out _).mono ?_
  rintro e w2 ⟨rfl, B⟩
  have HW2 := Lib.hid (below_call HW1.out B)
  clear B a1 a2 b1 b2 c1 c2 d1 d2
  obtain ⟨K1, K2, K3, K4⟩ := HX.out
  obtain ⟨_, a1, a2⟩ := K1.next HW2.out
  obtain ⟨_, b1, b2⟩ := K2.next HW2.out
  obtain ⟨_, c1, c2⟩ := K3.next HW2.out
  obtain ⟨_, d1, d2⟩ := K4.next HW2.out
  clear K1 K2 K3 K4
  go_wp2_with fail
  refine (l2Sign Q _).mono ?_
  rintro e w' ⟨rfl, rfl⟩
  go_wp2_with fail
  refine (H3.out _).mono ?_
  rintro e w3 ⟨rfl, B⟩
  have HW3 := Lib.hid (below_call HW2.out B)
  clear B a1 a2 b1 b2 c1 c2 d1 d2
  obtain ⟨K1, K2, K3, K4⟩ := HX.out
  obtain ⟨_, a1, a2⟩ := K1.next HW3.out
  obtain ⟨_, b1, b2⟩ := K2.next HW3.out
  obtain ⟨_, c1, c2⟩ := K3.next HW3.out
  obtain ⟨_, d1, d2⟩ := K4.next HW3.out
  clear K1 K2 K3 K4
  go_wp2_with fail
  refine (l2Sign R _).mono ?_
  rintro e w' ⟨rfl, rfl⟩
  go_wp2_with fail
  refine (H4.out _).mono ?_
  rintro e w4 ⟨rfl, B⟩
  have HW4 := Lib.hid (below_call HW3.out B)
  clear B a1 a2 b1 b2 c1 c2 d1 d2
  obtain ⟨K1, K2, K3, K4⟩ := HX.out
  obtain ⟨_, a1, a2⟩ := K1.next HW4.out
  obtain ⟨_, b1, b2⟩ := K2.next HW4.out
  obtain ⟨_, c1, c2⟩ := K3.next HW4.out
  obtain ⟨_, d1, d2⟩ := K4.next HW4.out
  clear K1 K2 K3 K4
  go_wp2_with fail
  refine (l2Sign S _).mono ?_
  rintro e w' ⟨rfl, rfl⟩
  generalize sgn P = p at *
  generalize sgn Q = q at *
  generalize sgn R = r at *
  generalize sgn S = s at *
  clear P0 P1 Q0 Q1 R0 R1 S0 S1
  have HBc := Lib.hid (below_call HB.out HW4.out)
  have HXc := Lib.hid (at4_next HX.out HW4.out)
  go_upto_region 5 with fail
  clear HW0 HW1 HW2 HW3 HW4 HX HB H1 H2 H3 H4
  by_cases hpq : p = q
  · subst hpq
    by_cases zp : p = 0
    rotate_left
    · have np : (p == 0) = false := by simpa using zp
      by_cases zr : r = 0
      rotate_left
      · have nr : (r == 0) = false := by simpa using zr
        by_cases zs : s = 0
        rotate_left
        · have ns : (s == 0) = false := by simpa using zs
          go_wp2_with (go_at_call 93; (first | with_reducible refine (O1.out _).mono ?_ | with_reducible refine (O2.out _).mono ?_ | with_reducible refine (O3.out _).mono ?_ | with_reducible refine (O4.out _).mono ?_); rintro e u ⟨rfl, B⟩; replace HBc := Lib.hid (below_call HBc.out B); replace HXc := Lib.hid (at4_next HXc.out B); clear B; clear a1 a2 b1 b2 c1 c2 d1 d2; obtain ⟨⟨_, a1, a2⟩, ⟨_, b1, b2⟩, ⟨_, c1, c2⟩, ⟨_, d1, d2⟩⟩ := HXc.out)
          go_ret
          exact ⟨ret_bool (by rw [HV.out]; simp [zp, zr, zs]), HBc.out⟩
        subst zs
        cases o4
        rotate_left
        · skip
          go_wp2_with (go_at_call 93; (first | with_reducible refine (O1.out _).mono ?_ | with_reducible refine (O2.out _).mono ?_ | with_reducible refine (O3.out _).mono ?_ | with_reducible refine (O4.out _).mono ?_); rintro e u ⟨rfl, B⟩; replace HBc := Lib.hid (below_call HBc.out B); replace HXc := Lib.hid (at4_next HXc.out B); clear B; clear a1 a2 b1 b2 c1 c2 d1 d2; obtain ⟨⟨_, a1, a2⟩, ⟨_, b1, b2⟩, ⟨_, c1, c2⟩, ⟨_, d1, d2⟩⟩ := HXc.out)
          go_ret
          exact ⟨ret_bool (by rw [HV.out]; simp [zp, zr]), HBc.out⟩
        go_wp2_with (go_at_call 93; (first | with_reducible refine (O1.out _).mono ?_ | with_reducible refine (O2.out _).mono ?_ | with_reducible refine (O3.out _).mono ?_ | with_reducible refine (O4.out _).mono ?_); rintro e u ⟨rfl, B⟩; replace HBc := Lib.hid (below_call HBc.out B); replace HXc := Lib.hid (at4_next HXc.out B); clear B; clear a1 a2 b1 b2 c1 c2 d1 d2; obtain ⟨⟨_, a1, a2⟩, ⟨_, b1, b2⟩, ⟨_, c1, c2⟩, ⟨_, d1, d2⟩⟩ := HXc.out)
        go_ret
        exact ⟨ret_bool (by rw [HV.out]; simp [zp, zr]), HBc.out⟩
      subst zr
      cases o3
      rotate_left
      · skip
        go_wp2_with (go_at_call 93; (first | with_reducible refine (O1.out _).mono ?_ | with_reducible refine (O2.out _).mono ?_ | with_reducible refine (O3.out _).mono ?_ | with_reducible refine (O4.out _).mono ?_); rintro e u ⟨rfl, B⟩; replace HBc := Lib.hid (below_call HBc.out B); replace HXc := Lib.hid (at4_next HXc.out B); clear B; clear a1 a2 b1 b2 c1 c2 d1 d2; obtain ⟨⟨_, a1, a2⟩, ⟨_, b1, b2⟩, ⟨_, c1, c2⟩, ⟨_, d1, d2⟩⟩ := HXc.out)
        go_ret
        exact ⟨ret_bool (by rw [HV.out]; simp [zp]), HBc.out⟩
      by_cases zs : s = 0
      rotate_left
      · have ns : (s == 0) = false := by simpa using zs
        go_wp2_with (go_at_call 93; (first | with_reducible refine (O1.out _).mono ?_ | with_reducible refine (O2.out _).mono ?_ | with_reducible refine (O3.out _).mono ?_ | with_reducible refine (O4.out _).mono ?_); rintro e u ⟨rfl, B⟩; replace HBc := Lib.hid (below_call HBc.out B); replace HXc := Lib.hid (at4_next HXc.out B); clear B; clear a1 a2 b1 b2 c1 c2 d1 d2; obtain ⟨⟨_, a1, a2⟩, ⟨_, b1, b2⟩, ⟨_, c1, c2⟩, ⟨_, d1, d2⟩⟩ := HXc.out)
        go_ret
        exact ⟨ret_bool (by rw [HV.out]; simp [zp, zs]), HBc.out⟩
      subst zs
      cases o4
      rotate_left
      · skip
        go_wp2_with (go_at_call 93; (first | with_reducible refine (O1.out _).mono ?_ | with_reducible refine (O2.out _).mono ?_ | with_reducible refine (O3.out _).mono ?_ | with_reducible refine (O4.out _).mono ?_); rintro e u ⟨rfl, B⟩; replace HBc := Lib.hid (below_call HBc.out B); replace HXc := Lib.hid (at4_next HXc.out B); clear B; clear a1 a2 b1 b2 c1 c2 d1 d2; obtain ⟨⟨_, a1, a2⟩, ⟨_, b1, b2⟩, ⟨_, c1, c2⟩, ⟨_, d1, d2⟩⟩ := HXc.out)
        go_ret
        exact ⟨ret_bool (by rw [HV.out]; simp [zp]), HBc.out⟩
      go_wp2_with (go_at_call 93; (first | with_reducible refine (O1.out _).mono ?_ | with_reducible refine (O2.out _).mono ?_ | with_reducible refine (O3.out _).mono ?_ | with_reducible refine (O4.out _).mono ?_); rintro e u ⟨rfl, B⟩; replace HBc := Lib.hid (below_call HBc.out B); replace HXc := Lib.hid (at4_next HXc.out B); clear B; clear a1 a2 b1 b2 c1 c2 d1 d2; obtain ⟨⟨_, a1, a2⟩, ⟨_, b1, b2⟩, ⟨_, c1, c2⟩, ⟨_, d1, d2⟩⟩ := HXc.out)
      go_ret
      exact ⟨ret_bool (by rw [HV.out]; simp [zp]), HBc.out⟩
    subst zp
    cases o1
    rotate_left
    · skip
      go_wp2_with (go_at_call 93; (first | with_reducible refine (O1.out _).mono ?_ | with_reducible refine (O2.out _).mono ?_ | with_reducible refine (O3.out _).mono ?_ | with_reducible refine (O4.out _).mono ?_); rintro e u ⟨rfl, B⟩; replace HBc := Lib.hid (below_call HBc.out B); replace HXc := Lib.hid (at4_next HXc.out B); clear B; clear a1 a2 b1 b2 c1 c2 d1 d2; obtain ⟨⟨_, a1, a2⟩, ⟨_, b1, b2⟩, ⟨_, c1, c2⟩, ⟨_, d1, d2⟩⟩ := HXc.out)
      go_ret
      exact ⟨ret_bool (by rw [HV.out]; simp []), HBc.out⟩
    cases o2
    rotate_left
    · skip
      go_wp2_with (go_at_call 93; (first | with_reducible refine (O1.out _).mono ?_ | with_reducible refine (O2.out _).mono ?_ | with_reducible refine (O3.out _).mono ?_ | with_reducible refine (O4.out _).mono ?_); rintro e u ⟨rfl, B⟩; replace HBc := Lib.hid (below_call HBc.out B); replace HXc := Lib.hid (at4_next HXc.out B); clear B; clear a1 a2 b1 b2 c1 c2 d1 d2; obtain ⟨⟨_, a1, a2⟩, ⟨_, b1, b2⟩, ⟨_, c1, c2⟩, ⟨_, d1, d2⟩⟩ := HXc.out)
      go_ret
      exact ⟨ret_bool (by rw [HV.out]; simp []), HBc.out⟩
    by_cases zr : r = 0
    rotate_left
    · have nr : (r == 0) = false := by simpa using zr
      by_cases zs : s = 0
      rotate_left
      · have ns : (s == 0) = false := by simpa using zs
        go_wp2_with (go_at_call 93; (first | with_reducible refine (O1.out _).mono ?_ | with_reducible refine (O2.out _).mono ?_ | with_reducible refine (O3.out _).mono ?_ | with_reducible refine (O4.out _).mono ?_); rintro e u ⟨rfl, B⟩; replace HBc := Lib.hid (below_call HBc.out B); replace HXc := Lib.hid (at4_next HXc.out B); clear B; clear a1 a2 b1 b2 c1 c2 d1 d2; obtain ⟨⟨_, a1, a2⟩, ⟨_, b1, b2⟩, ⟨_, c1, c2⟩, ⟨_, d1, d2⟩⟩ := HXc.out)
        go_ret
        exact ⟨ret_bool (by rw [HV.out]; simp [zr, zs]), HBc.out⟩
      subst zs
      cases o4
      rotate_left
      · skip
        go_wp2_with (go_at_call 93; (first | with_reducible refine (O1.out _).mono ?_ | with_reducible refine (O2.out _).mono ?_ | with_reducible refine (O3.out _).mono ?_ | with_reducible refine (O4.out _).mono ?_); rintro e u ⟨rfl, B⟩; replace HBc := Lib.hid (below_call HBc.out B); replace HXc := Lib.hid (at4_next HXc.out B); clear B; clear a1 a2 b1 b2 c1 c2 d1 d2; obtain ⟨⟨_, a1, a2⟩, ⟨_, b1, b2⟩, ⟨_, c1, c2⟩, ⟨_, d1, d2⟩⟩ := HXc.out)
        go_ret
        exact ⟨ret_bool (by rw [HV.out]; simp [zr]), HBc.out⟩
      go_wp2_with (go_at_call 93; (first | with_reducible refine (O1.out _).mono ?_ | with_reducible refine (O2.out _).mono ?_ | with_reducible refine (O3.out _).mono ?_ | with_reducible refine (O4.out _).mono ?_); rintro e u ⟨rfl, B⟩; replace HBc := Lib.hid (below_call HBc.out B); replace HXc := Lib.hid (at4_next HXc.out B); clear B; clear a1 a2 b1 b2 c1 c2 d1 d2; obtain ⟨⟨_, a1, a2⟩, ⟨_, b1, b2⟩, ⟨_, c1, c2⟩, ⟨_, d1, d2⟩⟩ := HXc.out)
      go_ret
      exact ⟨ret_bool (by rw [HV.out]; simp [zr]), HBc.out⟩
    subst zr
    cases o3
    rotate_left
    · skip
      go_wp2_with (go_at_call 93; (first | with_reducible refine (O1.out _).mono ?_ | with_reducible refine (O2.out _).mono ?_ | with_reducible refine (O3.out _).mono ?_ | with_reducible refine (O4.out _).mono ?_); rintro e u ⟨rfl, B⟩; replace HBc := Lib.hid (below_call HBc.out B); replace HXc := Lib.hid (at4_next HXc.out B); clear B; clear a1 a2 b1 b2 c1 c2 d1 d2; obtain ⟨⟨_, a1, a2⟩, ⟨_, b1, b2⟩, ⟨_, c1, c2⟩, ⟨_, d1, d2⟩⟩ := HXc.out)
      go_ret
      exact ⟨ret_bool (by rw [HV.out]; simp []), HBc.out⟩
    by_cases zs : s = 0
    rotate_left
    · have ns : (s == 0) = false := by simpa using zs
      go_wp2_with (go_at_call 93; (first | with_reducible refine (O1.out _).mono ?_ | with_reducible refine (O2.out _).mono ?_ | with_reducible refine (O3.out _).mono ?_ | with_reducible refine (O4.out _).mono ?_); rintro e u ⟨rfl, B⟩; replace HBc := Lib.hid (below_call HBc.out B); replace HXc := Lib.hid (at4_next HXc.out B); clear B; clear a1 a2 b1 b2 c1 c2 d1 d2; obtain ⟨⟨_, a1, a2⟩, ⟨_, b1, b2⟩, ⟨_, c1, c2⟩, ⟨_, d1, d2⟩⟩ := HXc.out)
      go_ret
      exact ⟨ret_bool (by rw [HV.out]; simp [zs]), HBc.out⟩
    subst zs
    cases o4
    rotate_left
    · skip
      go_wp2_with (go_at_call 93; (first | with_reducible refine (O1.out _).mono ?_ | with_reducible refine (O2.out _).mono ?_ | with_reducible refine (O3.out _).mono ?_ | with_reducible refine (O4.out _).mono ?_); rintro e u ⟨rfl, B⟩; replace HBc := Lib.hid (below_call HBc.out B); replace HXc := Lib.hid (at4_next HXc.out B); clear B; clear a1 a2 b1 b2 c1 c2 d1 d2; obtain ⟨⟨_, a1, a2⟩, ⟨_, b1, b2⟩, ⟨_, c1, c2⟩, ⟨_, d1, d2⟩⟩ := HXc.out)
      go_ret
      exact ⟨ret_bool (by rw [HV.out]; simp []), HBc.out⟩
    go_wp2_with (go_at_call 93; (first | with_reducible refine (O1.out _).mono ?_ | with_reducible refine (O2.out _).mono ?_ | with_reducible refine (O3.out _).mono ?_ | with_reducible refine (O4.out _).mono ?_); rintro e u ⟨rfl, B⟩; replace HBc := Lib.hid (below_call HBc.out B); replace HXc := Lib.hid (at4_next HXc.out B); clear B; clear a1 a2 b1 b2 c1 c2 d1 d2; obtain ⟨⟨_, a1, a2⟩, ⟨_, b1, b2⟩, ⟨_, c1, c2⟩, ⟨_, d1, d2⟩⟩ := HXc.out)
    go_ret
    exact ⟨ret_bool (by rw [HV.out]; simp []), HBc.out⟩
  · have epq : (p != q) = true := by simpa using hpq
    by_cases hrs : r = s
    · subst hrs
      by_cases zp : p = 0
      rotate_left
      · have np : (p == 0) = false := by simpa using zp
        by_cases zq : q = 0
        rotate_left
        · have nq : (q == 0) = false := by simpa using zq
          by_cases zr : r = 0
          rotate_left
          · have nr : (r == 0) = false := by simpa using zr
            go_wp2_with (go_at_call 93; (first | with_reducible refine (O1.out _).mono ?_ | with_reducible refine (O2.out _).mono ?_ | with_reducible refine (O3.out _).mono ?_ | with_reducible refine (O4.out _).mono ?_); rintro e u ⟨rfl, B⟩; replace HBc := Lib.hid (below_call HBc.out B); replace HXc := Lib.hid (at4_next HXc.out B); clear B; clear a1 a2 b1 b2 c1 c2 d1 d2; obtain ⟨⟨_, a1, a2⟩, ⟨_, b1, b2⟩, ⟨_, c1, c2⟩, ⟨_, d1, d2⟩⟩ := HXc.out)
            go_ret
            exact ⟨ret_bool (by rw [HV.out]; simp [hpq, zp, zq, zr]), HBc.out⟩
          subst zr
          cases o3
          rotate_left
          · skip
            go_wp2_with (go_at_call 93; (first | with_reducible refine (O1.out _).mono ?_ | with_reducible refine (O2.out _).mono ?_ | with_reducible refine (O3.out _).mono ?_ | with_reducible refine (O4.out _).mono ?_); rintro e u ⟨rfl, B⟩; replace HBc := Lib.hid (below_call HBc.out B); replace HXc := Lib.hid (at4_next HXc.out B); clear B; clear a1 a2 b1 b2 c1 c2 d1 d2; obtain ⟨⟨_, a1, a2⟩, ⟨_, b1, b2⟩, ⟨_, c1, c2⟩, ⟨_, d1, d2⟩⟩ := HXc.out)
            go_ret
            exact ⟨ret_bool (by rw [HV.out]; simp [hpq, zp, zq]), HBc.out⟩
          cases o4
          rotate_left
          · skip
            go_wp2_with (go_at_call 93; (first | with_reducible refine (O1.out _).mono ?_ | with_reducible refine (O2.out _).mono ?_ | with_reducible refine (O3.out _).mono ?_ | with_reducible refine (O4.out _).mono ?_); rintro e u ⟨rfl, B⟩; replace HBc := Lib.hid (below_call HBc.out B); replace HXc := Lib.hid (at4_next HXc.out B); clear B; clear a1 a2 b1 b2 c1 c2 d1 d2; obtain ⟨⟨_, a1, a2⟩, ⟨_, b1, b2⟩, ⟨_, c1, c2⟩, ⟨_, d1, d2⟩⟩ := HXc.out)
            go_ret
            exact ⟨ret_bool (by rw [HV.out]; simp [hpq, zp, zq]), HBc.out⟩
          go_wp2_with (go_at_call 93; (first | with_reducible refine (O1.out _).mono ?_ | with_reducible refine (O2.out _).mono ?_ | with_reducible refine (O3.out _).mono ?_ | with_reducible refine (O4.out _).mono ?_); rintro e u ⟨rfl, B⟩; replace HBc := Lib.hid (below_call HBc.out B); replace HXc := Lib.hid (at4_next HXc.out B); clear B; clear a1 a2 b1 b2 c1 c2 d1 d2; obtain ⟨⟨_, a1, a2⟩, ⟨_, b1, b2⟩, ⟨_, c1, c2⟩, ⟨_, d1, d2⟩⟩ := HXc.out)
          go_ret
          exact ⟨ret_bool (by rw [HV.out]; simp [hpq, zp, zq]), HBc.out⟩
        subst zq
        cases o2
        rotate_left
        · skip
          go_wp2_with (go_at_call 93; (first | with_reducible refine (O1.out _).mono ?_ | with_reducible refine (O2.out _).mono ?_ | with_reducible refine (O3.out _).mono ?_ | with_reducible refine (O4.out _).mono ?_); rintro e u ⟨rfl, B⟩; replace HBc := Lib.hid (below_call HBc.out B); replace HXc := Lib.hid (at4_next HXc.out B); clear B; clear a1 a2 b1 b2 c1 c2 d1 d2; obtain ⟨⟨_, a1, a2⟩, ⟨_, b1, b2⟩, ⟨_, c1, c2⟩, ⟨_, d1, d2⟩⟩ := HXc.out)
          go_ret
          exact ⟨ret_bool (by rw [HV.out]; simp [hpq, zp]), HBc.out⟩
        by_cases zr : r = 0
        rotate_left
        · have nr : (r == 0) = false := by simpa using zr
          go_wp2_with (go_at_call 93; (first | with_reducible refine (O1.out _).mono ?_ | with_reducible refine (O2.out _).mono ?_ | with_reducible refine (O3.out _).mono ?_ | with_reducible refine (O4.out _).mono ?_); rintro e u ⟨rfl, B⟩; replace HBc := Lib.hid (below_call HBc.out B); replace HXc := Lib.hid (at4_next HXc.out B); clear B; clear a1 a2 b1 b2 c1 c2 d1 d2; obtain ⟨⟨_, a1, a2⟩, ⟨_, b1, b2⟩, ⟨_, c1, c2⟩, ⟨_, d1, d2⟩⟩ := HXc.out)
          go_ret
          exact ⟨ret_bool (by rw [HV.out]; simp [hpq, zp, zr]), HBc.out⟩
        subst zr
        cases o3
        rotate_left
        · skip
          go_wp2_with (go_at_call 93; (first | with_reducible refine (O1.out _).mono ?_ | with_reducible refine (O2.out _).mono ?_ | with_reducible refine (O3.out _).mono ?_ | with_reducible refine (O4.out _).mono ?_); rintro e u ⟨rfl, B⟩; replace HBc := Lib.hid (below_call HBc.out B); replace HXc := Lib.hid (at4_next HXc.out B); clear B; clear a1 a2 b1 b2 c1 c2 d1 d2; obtain ⟨⟨_, a1, a2⟩, ⟨_, b1, b2⟩, ⟨_, c1, c2⟩, ⟨_, d1, d2⟩⟩ := HXc.out)
          go_ret
          exact ⟨ret_bool (by rw [HV.out]; simp [hpq, zp]), HBc.out⟩
        cases o4
        rotate_left
        · skip
          go_wp2_with (go_at_call 93; (first | with_reducible refine (O1.out _).mono ?_ | with_reducible refine (O2.out _).mono ?_ | with_reducible refine (O3.out _).mono ?_ | with_reducible refine (O4.out _).mono ?_); rintro e u ⟨rfl, B⟩; replace HBc := Lib.hid (below_call HBc.out B); replace HXc := Lib.hid (at4_next HXc.out B); clear B; clear a1 a2 b1 b2 c1 c2 d1 d2; obtain ⟨⟨_, a1, a2⟩, ⟨_, b1, b2⟩, ⟨_, c1, c2⟩, ⟨_, d1, d2⟩⟩ := HXc.out)
          go_ret
          exact ⟨ret_bool (by rw [HV.out]; simp [hpq, zp]), HBc.out⟩
        go_wp2_with (go_at_call 93; (first | with_reducible refine (O1.out _).mono ?_ | with_reducible refine (O2.out _).mono ?_ | with_reducible refine (O3.out _).mono ?_ | with_reducible refine (O4.out _).mono ?_); rintro e u ⟨rfl, B⟩; replace HBc := Lib.hid (below_call HBc.out B); replace HXc := Lib.hid (at4_next HXc.out B); clear B; clear a1 a2 b1 b2 c1 c2 d1 d2; obtain ⟨⟨_, a1, a2⟩, ⟨_, b1, b2⟩, ⟨_, c1, c2⟩, ⟨_, d1, d2⟩⟩ := HXc.out)
        go_ret
        exact ⟨ret_bool (by rw [HV.out]; simp [hpq, zp]), HBc.out⟩
      subst zp
      cases o1
      rotate_left
      · skip
        go_wp2_with (go_at_call 93; (first | with_reducible refine (O1.out _).mono ?_ | with_reducible refine (O2.out _).mono ?_ | with_reducible refine (O3.out _).mono ?_ | with_reducible refine (O4.out _).mono ?_); rintro e u ⟨rfl, B⟩; replace HBc := Lib.hid (below_call HBc.out B); replace HXc := Lib.hid (at4_next HXc.out B); clear B; clear a1 a2 b1 b2 c1 c2 d1 d2; obtain ⟨⟨_, a1, a2⟩, ⟨_, b1, b2⟩, ⟨_, c1, c2⟩, ⟨_, d1, d2⟩⟩ := HXc.out)
        go_ret
        exact ⟨ret_bool (by rw [HV.out]; simp [hpq]), HBc.out⟩
      by_cases zq : q = 0
      rotate_left
      · have nq : (q == 0) = false := by simpa using zq
        by_cases zr : r = 0
        rotate_left
        · have nr : (r == 0) = false := by simpa using zr
          go_wp2_with (go_at_call 93; (first | with_reducible refine (O1.out _).mono ?_ | with_reducible refine (O2.out _).mono ?_ | with_reducible refine (O3.out _).mono ?_ | with_reducible refine (O4.out _).mono ?_); rintro e u ⟨rfl, B⟩; replace HBc := Lib.hid (below_call HBc.out B); replace HXc := Lib.hid (at4_next HXc.out B); clear B; clear a1 a2 b1 b2 c1 c2 d1 d2; obtain ⟨⟨_, a1, a2⟩, ⟨_, b1, b2⟩, ⟨_, c1, c2⟩, ⟨_, d1, d2⟩⟩ := HXc.out)
          go_ret
          exact ⟨ret_bool (by rw [HV.out]; simp [hpq, zq, zr]), HBc.out⟩
        subst zr
        cases o3
        rotate_left
        · skip
          go_wp2_with (go_at_call 93; (first | with_reducible refine (O1.out _).mono ?_ | with_reducible refine (O2.out _).mono ?_ | with_reducible refine (O3.out _).mono ?_ | with_reducible refine (O4.out _).mono ?_); rintro e u ⟨rfl, B⟩; replace HBc := Lib.hid (below_call HBc.out B); replace HXc := Lib.hid (at4_next HXc.out B); clear B; clear a1 a2 b1 b2 c1 c2 d1 d2; obtain ⟨⟨_, a1, a2⟩, ⟨_, b1, b2⟩, ⟨_, c1, c2⟩, ⟨_, d1, d2⟩⟩ := HXc.out)
          go_ret
          exact ⟨ret_bool (by rw [HV.out]; simp [hpq, zq]), HBc.out⟩
        cases o4
        rotate_left
        · skip
          go_wp2_with (go_at_call 93; (first | with_reducible refine (O1.out _).mono ?_ | with_reducible refine (O2.out _).mono ?_ | with_reducible refine (O3.out _).mono ?_ | with_reducible refine (O4.out _).mono ?_); rintro e u ⟨rfl, B⟩; replace HBc := Lib.hid (below_call HBc.out B); replace HXc := Lib.hid (at4_next HXc.out B); clear B; clear a1 a2 b1 b2 c1 c2 d1 d2; obtain ⟨⟨_, a1, a2⟩, ⟨_, b1, b2⟩, ⟨_, c1, c2⟩, ⟨_, d1, d2⟩⟩ := HXc.out)
          go_ret
          exact ⟨ret_bool (by rw [HV.out]; simp [hpq, zq]), HBc.out⟩
        go_wp2_with (go_at_call 93; (first | with_reducible refine (O1.out _).mono ?_ | with_reducible refine (O2.out _).mono ?_ | with_reducible refine (O3.out _).mono ?_ | with_reducible refine (O4.out _).mono ?_); rintro e u ⟨rfl, B⟩; replace HBc := Lib.hid (below_call HBc.out B); replace HXc := Lib.hid (at4_next HXc.out B); clear B; clear a1 a2 b1 b2 c1 c2 d1 d2; obtain ⟨⟨_, a1, a2⟩, ⟨_, b1, b2⟩, ⟨_, c1, c2⟩, ⟨_, d1, d2⟩⟩ := HXc.out)
        go_ret
        exact ⟨ret_bool (by rw [HV.out]; simp [hpq, zq]), HBc.out⟩
      exact absurd zq.symm hpq
    · have ers : (r != s) = true := by simpa using hrs
      go_wp2_with (go_at_call 93; (first | with_reducible refine (O1.out _).mono ?_ | with_reducible refine (O2.out _).mono ?_ | with_reducible refine (O3.out _).mono ?_ | with_reducible refine (O4.out _).mono ?_); rintro e u ⟨rfl, B⟩; replace HBc := Lib.hid (below_call HBc.out B); replace HXc := Lib.hid (at4_next HXc.out B); clear B; clear a1 a2 b1 b2 c1 c2 d1 d2; obtain ⟨⟨_, a1, a2⟩, ⟨_, b1, b2⟩, ⟨_, c1, c2⟩, ⟨_, d1, d2⟩⟩ := HXc.out)
      go_ret
      exact ⟨ret_bool (by rw [HV.out]; simp [hpq, hrs]), HBc.out⟩
end Go.Proofs.Ytkmopgdnaohcdaa
