/- Several of my texts in one: Dm8, Dh8, Dh8b. -/
import Derived.Test.YtkogoflcacameaaDoorZcCol
import Derived.Test.YtkogoflcacameaaDoorZbKt
namespace Go.Proofs.YtkogoflcacameaaDoor
set_option maxRecDepth 100000
open Go.RowKit
attribute [local go_sem ↓] Go.wp_at_zero Go.wp_at_succ
theorem at4_next {w w' : World} {x1 x2 x3 x4 : Nat} {a b c d : P2} (h : AtP w x1 a.1 a.2 ∧ AtP w x2 b.1 b.2 ∧ AtP w x3 c.1 c.2 ∧ AtP w x4 d.1 d.2) (hb : Below w.heap.size w w') : AtP w' x1 a.1 a.2 ∧ AtP w' x2 b.1 b.2 ∧ AtP w' x3 c.1 c.2 ∧ AtP w' x4 d.1 d.2 := ⟨h.1.next hb, h.2.1.next hb, h.2.2.1.next hb, h.2.2.2.next hb⟩
set_option maxHeartbeats 8000000 in
theorem l8MeetC (a b c d : P2) (w : World) (ha : okQ a) (hb : okQ b) (hc : okQ c) (hd : okQ d) : Calls Tryd.prog 76 #[pt a.1 a.2, pt b.1 b.2, pt c.1 c.2, pt d.1 d.2] w fun e w' => e = .returned (.bool (decide (Meet a b c d))) ∧ Below w.heap.size w w' := by
  have HB := Lib.hid (below_box4 w (.cells #[.int .i64 a.1, .int .i64 a.2] 89) (.cells #[.int .i64 b.1, .int .i64 b.2] 89) (.cells #[.int .i64 c.1, .int .i64 c.2] 89) (.cells #[.int .i64 d.1, .int .i64 d.2] 89))
  have HX := Lib.hid (box4 w a b c d)
  have H1 := Lib.hid (fun u => crossC a b c u ha hb hc)
  have H2 := Lib.hid (fun u => crossC a b d u ha hb hd)
  have H3 := Lib.hid (fun u => crossC c d a u hc hd ha)
  have H4 := Lib.hid (fun u => crossC c d b u hc hd hb)
  have O1 := Lib.hid (fun u => l8OnC a b c u)
  have O2 := Lib.hid (fun u => l8OnC a b d u)
  have O3 := Lib.hid (fun u => l8OnC c d a u)
  have O4 := Lib.hid (fun u => l8OnC c d b u)
  have B1 := cr_bd ha hb hc
  have B2 := cr_bd ha hb hd
  have B3 := cr_bd hc hd ha
  have B4 := cr_bd hc hd hb
  have HV : Hid (decide (Meet a b c d) = decide ((sgn (cr a b c) ≠ sgn (cr a b d) ∧ sgn (cr c d a) ≠ sgn (cr c d b)) ∨ (sgn (cr a b c) = 0 ∧ decide (OnB a b c) = true) ∨ (sgn (cr a b d) = 0 ∧ decide (OnB a b d) = true) ∨ (sgn (cr c d a) = 0 ∧ decide (OnB c d a) = true) ∨ (sgn (cr c d b) = 0 ∧ decide (OnB c d b) = true))) := Lib.hid (by
    rw [Bool.eq_iff_iff, decide_eq_true_eq, decide_eq_true_eq, decide_eq_true_eq, decide_eq_true_eq, decide_eq_true_eq, decide_eq_true_eq]; exact meet_sgn a b c d)
  generalize decide (Meet a b c d) = rr at *
  generalize decide (OnB a b c) = o1 at *
  generalize decide (OnB a b d) = o2 at *
  generalize decide (OnB c d a) = o3 at *
  generalize decide (OnB c d b) = o4 at *
  generalize cr a b c = P at *
  generalize cr a b d = Q at *
  generalize cr c d a = R at *
  generalize cr c d b = S at *
  clear ha hb hc hd
  obtain ⟨P0, P1⟩ := B1
  obtain ⟨Q0, Q1⟩ := B2
  obtain ⟨R0, R1⟩ := B3
  obtain ⟨S0, S1⟩ := B4
  go_enter Tryd.func76, Tryd.ntmps76
  go_wp2_with fail
  generalize (((w.alloc (.cells #[.int .i64 a.1, .int .i64 a.2] 89)).alloc (.cells #[.int .i64 b.1, .int .i64 b.2] 89)).alloc (.cells #[.int .i64 c.1, .int .i64 c.2] 89)).alloc (.cells #[.int .i64 d.1, .int .i64 d.2] 89) = w0 at *
  have HW0 := Lib.hid (Below.refl w0.heap.size w0)
  refine (H1.out _).mono ?_
  rintro e w1 ⟨rfl, B⟩
  have HW1 := Lib.hid (below_call HW0.out B)
  clear B
  obtain ⟨K1, K2, K3, K4⟩ := HX.out
  obtain ⟨_, a1, a2⟩ := K1.next HW1.out
  obtain ⟨_, b1, b2⟩ := K2.next HW1.out
  obtain ⟨_, c1, c2⟩ := K3.next HW1.out
  obtain ⟨_, d1, d2⟩ := K4.next HW1.out
  clear K1 K2 K3 K4
  go_wp2_with fail
  refine (l2Sign P _).mono ?_
  rintro e w' ⟨rfl, rfl⟩
  go_wp2_with fail
  refine (H2.out _).mono ?_
  rintro e w2 ⟨rfl, B⟩
  have HW2 := Lib.hid (below_call HW1.out B)
  clear B a1 a2 b1 b2 c1 c2 d1 d2
  obtain ⟨K1, K2, K3, K4⟩ := HX.out
  obtain ⟨_, a1, a2⟩ := K1.next HW2.out
  obtain ⟨_, b1, b2⟩ := K2.next HW2.out
  obtain ⟨_, c1, c2⟩ := K3.next HW2.out
  obtain ⟨_, d1, d2⟩ := K4.next HW2.out
  clear K1 K2 K3 K4
  go_wp2_with fail
  refine (l2Sign Q _).mono ?_
  rintro e w' ⟨rfl, rfl⟩
  go_wp2_with fail
  refine (H3.out _).mono ?_
  rintro e w3 ⟨rfl, B⟩
  have HW3 := Lib.hid (below_call HW2.out B)
  clear B a1 a2 b1 b2 c1 c2 d1 d2
  obtain ⟨K1, K2, K3, K4⟩ := HX.out
  obtain ⟨_, a1, a2⟩ := K1.next HW3.out
  obtain ⟨_, b1, b2⟩ := K2.next HW3.out
  obtain ⟨_, c1, c2⟩ := K3.next HW3.out
  obtain ⟨_, d1, d2⟩ := K4.next HW3.out
  clear K1 K2 K3 K4
  go_wp2_with fail
  refine (l2Sign R _).mono ?_
  rintro e w' ⟨rfl, rfl⟩
  go_wp2_with fail
  refine (H4.out _).mono ?_
  rintro e w4 ⟨rfl, B⟩
  have HW4 := Lib.hid (below_call HW3.out B)
  clear B a1 a2 b1 b2 c1 c2 d1 d2
  obtain ⟨K1, K2, K3, K4⟩ := HX.out
  obtain ⟨_, a1, a2⟩ := K1.next HW4.out
  obtain ⟨_, b1, b2⟩ := K2.next HW4.out
  obtain ⟨_, c1, c2⟩ := K3.next HW4.out
  obtain ⟨_, d1, d2⟩ := K4.next HW4.out
  clear K1 K2 K3 K4
  go_wp2_with fail
  refine (l2Sign S _).mono ?_
  rintro e w' ⟨rfl, rfl⟩
  generalize sgn P = p at *
  generalize sgn Q = q at *
  generalize sgn R = r at *
  generalize sgn S = s at *
  clear P0 P1 Q0 Q1 R0 R1 S0 S1
  have HBc := Lib.hid (below_call HB.out HW4.out)
  have HXc := Lib.hid (at4_next HX.out HW4.out)
  go_upto_region 5 with fail
  clear HW0 HW1 HW2 HW3 HW4 HX HB H1 H2 H3 H4
  by_cases hpq : p = q
  · subst hpq
    by_cases zp : p = 0
    rotate_left
    · have np : (p == 0) = false := by simpa using zp
      by_cases zr : r = 0
      rotate_left
      · have nr : (r == 0) = false := by simpa using zr
        by_cases zs : s = 0
        rotate_left
        · have ns : (s == 0) = false := by simpa using zs
          go_wp2_with (go_at_call 90; (first | with_reducible refine (O1.out _).mono ?_ | with_reducible refine (O2.out _).mono ?_ | with_reducible refine (O3.out _).mono ?_ | with_reducible refine (O4.out _).mono ?_); rintro e u ⟨rfl, B⟩; replace HBc := Lib.hid (below_call HBc.out B); replace HXc := Lib.hid (at4_next HXc.out B); clear B; clear a1 a2 b1 b2 c1 c2 d1 d2; obtain ⟨⟨_, a1, a2⟩, ⟨_, b1, b2⟩, ⟨_, c1, c2⟩, ⟨_, d1, d2⟩⟩ := HXc.out)
          go_ret
          exact ⟨ret_bool (by rw [HV.out]; simp [zp, zr, zs]), HBc.out⟩
        subst zs
        cases o4
        rotate_left
        · skip
          go_wp2_with (go_at_call 90; (first | with_reducible refine (O1.out _).mono ?_ | with_reducible refine (O2.out _).mono ?_ | with_reducible refine (O3.out _).mono ?_ | with_reducible refine (O4.out _).mono ?_); rintro e u ⟨rfl, B⟩; replace HBc := Lib.hid (below_call HBc.out B); replace HXc := Lib.hid (at4_next HXc.out B); clear B; clear a1 a2 b1 b2 c1 c2 d1 d2; obtain ⟨⟨_, a1, a2⟩, ⟨_, b1, b2⟩, ⟨_, c1, c2⟩, ⟨_, d1, d2⟩⟩ := HXc.out)
          go_ret
          exact ⟨ret_bool (by rw [HV.out]; simp [zp, zr]), HBc.out⟩
        go_wp2_with (go_at_call 90; (first | with_reducible refine (O1.out _).mono ?_ | with_reducible refine (O2.out _).mono ?_ | with_reducible refine (O3.out _).mono ?_ | with_reducible refine (O4.out _).mono ?_); rintro e u ⟨rfl, B⟩; replace HBc := Lib.hid (below_call HBc.out B); replace HXc := Lib.hid (at4_next HXc.out B); clear B; clear a1 a2 b1 b2 c1 c2 d1 d2; obtain ⟨⟨_, a1, a2⟩, ⟨_, b1, b2⟩, ⟨_, c1, c2⟩, ⟨_, d1, d2⟩⟩ := HXc.out)
        go_ret
        exact ⟨ret_bool (by rw [HV.out]; simp [zp, zr]), HBc.out⟩
      subst zr
      cases o3
      rotate_left
      · skip
        go_wp2_with (go_at_call 90; (first | with_reducible refine (O1.out _).mono ?_ | with_reducible refine (O2.out _).mono ?_ | with_reducible refine (O3.out _).mono ?_ | with_reducible refine (O4.out _).mono ?_); rintro e u ⟨rfl, B⟩; replace HBc := Lib.hid (below_call HBc.out B); replace HXc := Lib.hid (at4_next HXc.out B); clear B; clear a1 a2 b1 b2 c1 c2 d1 d2; obtain ⟨⟨_, a1, a2⟩, ⟨_, b1, b2⟩, ⟨_, c1, c2⟩, ⟨_, d1, d2⟩⟩ := HXc.out)
        go_ret
        exact ⟨ret_bool (by rw [HV.out]; simp [zp]), HBc.out⟩
      by_cases zs : s = 0
      rotate_left
      · have ns : (s == 0) = false := by simpa using zs
        go_wp2_with (go_at_call 90; (first | with_reducible refine (O1.out _).mono ?_ | with_reducible refine (O2.out _).mono ?_ | with_reducible refine (O3.out _).mono ?_ | with_reducible refine (O4.out _).mono ?_); rintro e u ⟨rfl, B⟩; replace HBc := Lib.hid (below_call HBc.out B); replace HXc := Lib.hid (at4_next HXc.out B); clear B; clear a1 a2 b1 b2 c1 c2 d1 d2; obtain ⟨⟨_, a1, a2⟩, ⟨_, b1, b2⟩, ⟨_, c1, c2⟩, ⟨_, d1, d2⟩⟩ := HXc.out)
        go_ret
        exact ⟨ret_bool (by rw [HV.out]; simp [zp, zs]), HBc.out⟩
      subst zs
      cases o4
      rotate_left
      · skip
        go_wp2_with (go_at_call 90; (first | with_reducible refine (O1.out _).mono ?_ | with_reducible refine (O2.out _).mono ?_ | with_reducible refine (O3.out _).mono ?_ | with_reducible refine (O4.out _).mono ?_); rintro e u ⟨rfl, B⟩; replace HBc := Lib.hid (below_call HBc.out B); replace HXc := Lib.hid (at4_next HXc.out B); clear B; clear a1 a2 b1 b2 c1 c2 d1 d2; obtain ⟨⟨_, a1, a2⟩, ⟨_, b1, b2⟩, ⟨_, c1, c2⟩, ⟨_, d1, d2⟩⟩ := HXc.out)
        go_ret
        exact ⟨ret_bool (by rw [HV.out]; simp [zp]), HBc.out⟩
      go_wp2_with (go_at_call 90; (first | with_reducible refine (O1.out _).mono ?_ | with_reducible refine (O2.out _).mono ?_ | with_reducible refine (O3.out _).mono ?_ | with_reducible refine (O4.out _).mono ?_); rintro e u ⟨rfl, B⟩; replace HBc := Lib.hid (below_call HBc.out B); replace HXc := Lib.hid (at4_next HXc.out B); clear B; clear a1 a2 b1 b2 c1 c2 d1 d2; obtain ⟨⟨_, a1, a2⟩, ⟨_, b1, b2⟩, ⟨_, c1, c2⟩, ⟨_, d1, d2⟩⟩ := HXc.out)
      go_ret
      exact ⟨ret_bool (by rw [HV.out]; simp [zp]), HBc.out⟩
    subst zp
    cases o1
    rotate_left
    · skip
      go_wp2_with (go_at_call 90; (first | with_reducible refine (O1.out _).mono ?_ | with_reducible refine (O2.out _).mono ?_ | with_reducible refine (O3.out _).mono ?_ | with_reducible refine (O4.out _).mono ?_); rintro e u ⟨rfl, B⟩; replace HBc := Lib.hid (below_call HBc.out B); replace HXc := Lib.hid (at4_next HXc.out B); clear B; clear a1 a2 b1 b2 c1 c2 d1 d2; obtain ⟨⟨_, a1, a2⟩, ⟨_, b1, b2⟩, ⟨_, c1, c2⟩, ⟨_, d1, d2⟩⟩ := HXc.out)
      go_ret
      exact ⟨ret_bool (by rw [HV.out]; simp []), HBc.out⟩
    cases o2
    rotate_left
    · skip
      go_wp2_with (go_at_call 90; (first | with_reducible refine (O1.out _).mono ?_ | with_reducible refine (O2.out _).mono ?_ | with_reducible refine (O3.out _).mono ?_ | with_reducible refine (O4.out _).mono ?_); rintro e u ⟨rfl, B⟩; replace HBc := Lib.hid (below_call HBc.out B); replace HXc := Lib.hid (at4_next HXc.out B); clear B; clear a1 a2 b1 b2 c1 c2 d1 d2; obtain ⟨⟨_, a1, a2⟩, ⟨_, b1, b2⟩, ⟨_, c1, c2⟩, ⟨_, d1, d2⟩⟩ := HXc.out)
      go_ret
      exact ⟨ret_bool (by rw [HV.out]; simp []), HBc.out⟩
    by_cases zr : r = 0
    rotate_left
    · have nr : (r == 0) = false := by simpa using zr
      by_cases zs : s = 0
      rotate_left
      · have ns : (s == 0) = false := by simpa using zs
        go_wp2_with (go_at_call 90; (first | with_reducible refine (O1.out _).mono ?_ | with_reducible refine (O2.out _).mono ?_ | with_reducible refine (O3.out _).mono ?_ | with_reducible refine (O4.out _).mono ?_); rintro e u ⟨rfl, B⟩; replace HBc := Lib.hid (below_call HBc.out B); replace HXc := Lib.hid (at4_next HXc.out B); clear B; clear a1 a2 b1 b2 c1 c2 d1 d2; obtain ⟨⟨_, a1, a2⟩, ⟨_, b1, b2⟩, ⟨_, c1, c2⟩, ⟨_, d1, d2⟩⟩ := HXc.out)
        go_ret
        exact ⟨ret_bool (by rw [HV.out]; simp [zr, zs]), HBc.out⟩
      subst zs
      cases o4
      rotate_left
      · skip
        go_wp2_with (go_at_call 90; (first | with_reducible refine (O1.out _).mono ?_ | with_reducible refine (O2.out _).mono ?_ | with_reducible refine (O3.out _).mono ?_ | with_reducible refine (O4.out _).mono ?_); rintro e u ⟨rfl, B⟩; replace HBc := Lib.hid (below_call HBc.out B); replace HXc := Lib.hid (at4_next HXc.out B); clear B; clear a1 a2 b1 b2 c1 c2 d1 d2; obtain ⟨⟨_, a1, a2⟩, ⟨_, b1, b2⟩, ⟨_, c1, c2⟩, ⟨_, d1, d2⟩⟩ := HXc.out)
        go_ret
        exact ⟨ret_bool (by rw [HV.out]; simp [zr]), HBc.out⟩
      go_wp2_with (go_at_call 90; (first | with_reducible refine (O1.out _).mono ?_ | with_reducible refine (O2.out _).mono ?_ | with_reducible refine (O3.out _).mono ?_ | with_reducible refine (O4.out _).mono ?_); rintro e u ⟨rfl, B⟩; replace HBc := Lib.hid (below_call HBc.out B); replace HXc := Lib.hid (at4_next HXc.out B); clear B; clear a1 a2 b1 b2 c1 c2 d1 d2; obtain ⟨⟨_, a1, a2⟩, ⟨_, b1, b2⟩, ⟨_, c1, c2⟩, ⟨_, d1, d2⟩⟩ := HXc.out)
      go_ret
      exact ⟨ret_bool (by rw [HV.out]; simp [zr]), HBc.out⟩
    subst zr
    cases o3
    rotate_left
    · skip
      go_wp2_with (go_at_call 90; (first | with_reducible refine (O1.out _).mono ?_ | with_reducible refine (O2.out _).mono ?_ | with_reducible refine (O3.out _).mono ?_ | with_reducible refine (O4.out _).mono ?_); rintro e u ⟨rfl, B⟩; replace HBc := Lib.hid (below_call HBc.out B); replace HXc := Lib.hid (at4_next HXc.out B); clear B; clear a1 a2 b1 b2 c1 c2 d1 d2; obtain ⟨⟨_, a1, a2⟩, ⟨_, b1, b2⟩, ⟨_, c1, c2⟩, ⟨_, d1, d2⟩⟩ := HXc.out)
      go_ret
      exact ⟨ret_bool (by rw [HV.out]; simp []), HBc.out⟩
    by_cases zs : s = 0
    rotate_left
    · have ns : (s == 0) = false := by simpa using zs
      go_wp2_with (go_at_call 90; (first | with_reducible refine (O1.out _).mono ?_ | with_reducible refine (O2.out _).mono ?_ | with_reducible refine (O3.out _).mono ?_ | with_reducible refine (O4.out _).mono ?_); rintro e u ⟨rfl, B⟩; replace HBc := Lib.hid (below_call HBc.out B); replace HXc := Lib.hid (at4_next HXc.out B); clear B; clear a1 a2 b1 b2 c1 c2 d1 d2; obtain ⟨⟨_, a1, a2⟩, ⟨_, b1, b2⟩, ⟨_, c1, c2⟩, ⟨_, d1, d2⟩⟩ := HXc.out)
      go_ret
      exact ⟨ret_bool (by rw [HV.out]; simp [zs]), HBc.out⟩
    subst zs
    cases o4
    rotate_left
    · skip
      go_wp2_with (go_at_call 90; (first | with_reducible refine (O1.out _).mono ?_ | with_reducible refine (O2.out _).mono ?_ | with_reducible refine (O3.out _).mono ?_ | with_reducible refine (O4.out _).mono ?_); rintro e u ⟨rfl, B⟩; replace HBc := Lib.hid (below_call HBc.out B); replace HXc := Lib.hid (at4_next HXc.out B); clear B; clear a1 a2 b1 b2 c1 c2 d1 d2; obtain ⟨⟨_, a1, a2⟩, ⟨_, b1, b2⟩, ⟨_, c1, c2⟩, ⟨_, d1, d2⟩⟩ := HXc.out)
      go_ret
      exact ⟨ret_bool (by rw [HV.out]; simp []), HBc.out⟩
    go_wp2_with (go_at_call 90; (first | with_reducible refine (O1.out _).mono ?_ | with_reducible refine (O2.out _).mono ?_ | with_reducible refine (O3.out _).mono ?_ | with_reducible refine (O4.out _).mono ?_); rintro e u ⟨rfl, B⟩; replace HBc := Lib.hid (below_call HBc.out B); replace HXc := Lib.hid (at4_next HXc.out B); clear B; clear a1 a2 b1 b2 c1 c2 d1 d2; obtain ⟨⟨_, a1, a2⟩, ⟨_, b1, b2⟩, ⟨_, c1, c2⟩, ⟨_, d1, d2⟩⟩ := HXc.out)
    go_ret
    exact ⟨ret_bool (by rw [HV.out]; simp []), HBc.out⟩
  · have epq : (p != q) = true := by simpa using hpq
    by_cases hrs : r = s
    · subst hrs
      by_cases zp : p = 0
      rotate_left
      · have np : (p == 0) = false := by simpa using zp
        by_cases zq : q = 0
        rotate_left
        · have nq : (q == 0) = false := by simpa using zq
          by_cases zr : r = 0
          rotate_left
          · have nr : (r == 0) = false := by simpa using zr
            go_wp2_with (go_at_call 90; (first | with_reducible refine (O1.out _).mono ?_ | with_reducible refine (O2.out _).mono ?_ | with_reducible refine (O3.out _).mono ?_ | with_reducible refine (O4.out _).mono ?_); rintro e u ⟨rfl, B⟩; replace HBc := Lib.hid (below_call HBc.out B); replace HXc := Lib.hid (at4_next HXc.out B); clear B; clear a1 a2 b1 b2 c1 c2 d1 d2; obtain ⟨⟨_, a1, a2⟩, ⟨_, b1, b2⟩, ⟨_, c1, c2⟩, ⟨_, d1, d2⟩⟩ := HXc.out)
            go_ret
            exact ⟨ret_bool (by rw [HV.out]; simp [hpq, zp, zq, zr]), HBc.out⟩
          subst zr
          cases o3
          rotate_left
          · skip
            go_wp2_with (go_at_call 90; (first | with_reducible refine (O1.out _).mono ?_ | with_reducible refine (O2.out _).mono ?_ | with_reducible refine (O3.out _).mono ?_ | with_reducible refine (O4.out _).mono ?_); rintro e u ⟨rfl, B⟩; replace HBc := Lib.hid (below_call HBc.out B); replace HXc := Lib.hid (at4_next HXc.out B); clear B; clear a1 a2 b1 b2 c1 c2 d1 d2; obtain ⟨⟨_, a1, a2⟩, ⟨_, b1, b2⟩, ⟨_, c1, c2⟩, ⟨_, d1, d2⟩⟩ := HXc.out)
            go_ret
            exact ⟨ret_bool (by rw [HV.out]; simp [hpq, zp, zq]), HBc.out⟩
          cases o4
          rotate_left
          · skip
            go_wp2_with (go_at_call 90; (first | with_reducible refine (O1.out _).mono ?_ | with_reducible refine (O2.out _).mono ?_ | with_reducible refine (O3.out _).mono ?_ | with_reducible refine (O4.out _).mono ?_); rintro e u ⟨rfl, B⟩; replace HBc := Lib.hid (below_call HBc.out B); replace HXc := Lib.hid (at4_next HXc.out B); clear B; clear a1 a2 b1 b2 c1 c2 d1 d2; obtain ⟨⟨_, a1, a2⟩, ⟨_, b1, b2⟩, ⟨_, c1, c2⟩, ⟨_, d1, d2⟩⟩ := HXc.out)
            go_ret
            exact ⟨ret_bool (by rw [HV.out]; simp [hpq, zp, zq]), HBc.out⟩
          go_wp2_with (go_at_call 90; (first | with_reducible refine (O1.out _).mono ?_ | with_reducible refine (O2.out _).mono ?_ | with_reducible refine (O3.out _).mono ?_ | with_reducible refine (O4.out _).mono ?_); rintro e u ⟨rfl, B⟩; replace HBc := Lib.hid (below_call HBc.out B); replace HXc := Lib.hid (at4_next HXc.out B); clear B; clear a1 a2 b1 b2 c1 c2 d1 d2; obtain ⟨⟨_, a1, a2⟩, ⟨_, b1, b2⟩, ⟨_, c1, c2⟩, ⟨_, d1, d2⟩⟩ := HXc.out)
          go_ret
          exact ⟨ret_bool (by rw [HV.out]; simp [hpq, zp, zq]), HBc.out⟩
        subst zq
        cases o2
        rotate_left
        · skip
          go_wp2_with (go_at_call 90; (first | with_reducible refine (O1.out _).mono ?_ | with_reducible refine (O2.out _).mono ?_ | with_reducible refine (O3.out _).mono ?_ | with_reducible refine (O4.out _).mono ?_); rintro e u ⟨rfl, B⟩; replace HBc := Lib.hid (below_call HBc.out B); replace HXc := Lib.hid (at4_next HXc.out B); clear B; clear a1 a2 b1 b2 c1 c2 d1 d2; obtain ⟨⟨_, a1, a2⟩, ⟨_, b1, b2⟩, ⟨_, c1, c2⟩, ⟨_, d1, d2⟩⟩ := HXc.out)
          go_ret
          exact ⟨ret_bool (by rw [HV.out]; simp [hpq]), HBc.out⟩
        by_cases zr : r = 0
        rotate_left
        · have nr : (r == 0) = false := by simpa using zr
          go_wp2_with (go_at_call 90; (first | with_reducible refine (O1.out _).mono ?_ | with_reducible refine (O2.out _).mono ?_ | with_reducible refine (O3.out _).mono ?_ | with_reducible refine (O4.out _).mono ?_); rintro e u ⟨rfl, B⟩; replace HBc := Lib.hid (below_call HBc.out B); replace HXc := Lib.hid (at4_next HXc.out B); clear B; clear a1 a2 b1 b2 c1 c2 d1 d2; obtain ⟨⟨_, a1, a2⟩, ⟨_, b1, b2⟩, ⟨_, c1, c2⟩, ⟨_, d1, d2⟩⟩ := HXc.out)
          go_ret
          exact ⟨ret_bool (by rw [HV.out]; simp [hpq, zr]), HBc.out⟩
        subst zr
        cases o3
        rotate_left
        · skip
          go_wp2_with (go_at_call 90; (first | with_reducible refine (O1.out _).mono ?_ | with_reducible refine (O2.out _).mono ?_ | with_reducible refine (O3.out _).mono ?_ | with_reducible refine (O4.out _).mono ?_); rintro e u ⟨rfl, B⟩; replace HBc := Lib.hid (below_call HBc.out B); replace HXc := Lib.hid (at4_next HXc.out B); clear B; clear a1 a2 b1 b2 c1 c2 d1 d2; obtain ⟨⟨_, a1, a2⟩, ⟨_, b1, b2⟩, ⟨_, c1, c2⟩, ⟨_, d1, d2⟩⟩ := HXc.out)
          go_ret
          exact ⟨ret_bool (by rw [HV.out]; simp [hpq]), HBc.out⟩
        cases o4
        rotate_left
        · skip
          go_wp2_with (go_at_call 90; (first | with_reducible refine (O1.out _).mono ?_ | with_reducible refine (O2.out _).mono ?_ | with_reducible refine (O3.out _).mono ?_ | with_reducible refine (O4.out _).mono ?_); rintro e u ⟨rfl, B⟩; replace HBc := Lib.hid (below_call HBc.out B); replace HXc := Lib.hid (at4_next HXc.out B); clear B; clear a1 a2 b1 b2 c1 c2 d1 d2; obtain ⟨⟨_, a1, a2⟩, ⟨_, b1, b2⟩, ⟨_, c1, c2⟩, ⟨_, d1, d2⟩⟩ := HXc.out)
          go_ret
          exact ⟨ret_bool (by rw [HV.out]; simp [hpq]), HBc.out⟩
        go_wp2_with (go_at_call 90; (first | with_reducible refine (O1.out _).mono ?_ | with_reducible refine (O2.out _).mono ?_ | with_reducible refine (O3.out _).mono ?_ | with_reducible refine (O4.out _).mono ?_); rintro e u ⟨rfl, B⟩; replace HBc := Lib.hid (below_call HBc.out B); replace HXc := Lib.hid (at4_next HXc.out B); clear B; clear a1 a2 b1 b2 c1 c2 d1 d2; obtain ⟨⟨_, a1, a2⟩, ⟨_, b1, b2⟩, ⟨_, c1, c2⟩, ⟨_, d1, d2⟩⟩ := HXc.out)
        go_ret
        exact ⟨ret_bool (by rw [HV.out]; simp [hpq]), HBc.out⟩
      subst zp
      cases o1
      rotate_left
      · skip
        go_wp2_with (go_at_call 90; (first | with_reducible refine (O1.out _).mono ?_ | with_reducible refine (O2.out _).mono ?_ | with_reducible refine (O3.out _).mono ?_ | with_reducible refine (O4.out _).mono ?_); rintro e u ⟨rfl, B⟩; replace HBc := Lib.hid (below_call HBc.out B); replace HXc := Lib.hid (at4_next HXc.out B); clear B; clear a1 a2 b1 b2 c1 c2 d1 d2; obtain ⟨⟨_, a1, a2⟩, ⟨_, b1, b2⟩, ⟨_, c1, c2⟩, ⟨_, d1, d2⟩⟩ := HXc.out)
        go_ret
        exact ⟨ret_bool (by rw [HV.out]; simp [hpq]), HBc.out⟩
      by_cases zq : q = 0
      rotate_left
      · have nq : (q == 0) = false := by simpa using zq
        by_cases zr : r = 0
        rotate_left
        · have nr : (r == 0) = false := by simpa using zr
          go_wp2_with (go_at_call 90; (first | with_reducible refine (O1.out _).mono ?_ | with_reducible refine (O2.out _).mono ?_ | with_reducible refine (O3.out _).mono ?_ | with_reducible refine (O4.out _).mono ?_); rintro e u ⟨rfl, B⟩; replace HBc := Lib.hid (below_call HBc.out B); replace HXc := Lib.hid (at4_next HXc.out B); clear B; clear a1 a2 b1 b2 c1 c2 d1 d2; obtain ⟨⟨_, a1, a2⟩, ⟨_, b1, b2⟩, ⟨_, c1, c2⟩, ⟨_, d1, d2⟩⟩ := HXc.out)
          go_ret
          exact ⟨ret_bool (by rw [HV.out]; simp [hpq, zq, zr]), HBc.out⟩
        subst zr
        cases o3
        rotate_left
        · skip
          go_wp2_with (go_at_call 90; (first | with_reducible refine (O1.out _).mono ?_ | with_reducible refine (O2.out _).mono ?_ | with_reducible refine (O3.out _).mono ?_ | with_reducible refine (O4.out _).mono ?_); rintro e u ⟨rfl, B⟩; replace HBc := Lib.hid (below_call HBc.out B); replace HXc := Lib.hid (at4_next HXc.out B); clear B; clear a1 a2 b1 b2 c1 c2 d1 d2; obtain ⟨⟨_, a1, a2⟩, ⟨_, b1, b2⟩, ⟨_, c1, c2⟩, ⟨_, d1, d2⟩⟩ := HXc.out)
          go_ret
          exact ⟨ret_bool (by rw [HV.out]; simp [hpq, zq]), HBc.out⟩
        cases o4
        rotate_left
        · skip
          go_wp2_with (go_at_call 90; (first | with_reducible refine (O1.out _).mono ?_ | with_reducible refine (O2.out _).mono ?_ | with_reducible refine (O3.out _).mono ?_ | with_reducible refine (O4.out _).mono ?_); rintro e u ⟨rfl, B⟩; replace HBc := Lib.hid (below_call HBc.out B); replace HXc := Lib.hid (at4_next HXc.out B); clear B; clear a1 a2 b1 b2 c1 c2 d1 d2; obtain ⟨⟨_, a1, a2⟩, ⟨_, b1, b2⟩, ⟨_, c1, c2⟩, ⟨_, d1, d2⟩⟩ := HXc.out)
          go_ret
          exact ⟨ret_bool (by rw [HV.out]; simp [hpq, zq]), HBc.out⟩
        go_wp2_with (go_at_call 90; (first | with_reducible refine (O1.out _).mono ?_ | with_reducible refine (O2.out _).mono ?_ | with_reducible refine (O3.out _).mono ?_ | with_reducible refine (O4.out _).mono ?_); rintro e u ⟨rfl, B⟩; replace HBc := Lib.hid (below_call HBc.out B); replace HXc := Lib.hid (at4_next HXc.out B); clear B; clear a1 a2 b1 b2 c1 c2 d1 d2; obtain ⟨⟨_, a1, a2⟩, ⟨_, b1, b2⟩, ⟨_, c1, c2⟩, ⟨_, d1, d2⟩⟩ := HXc.out)
        go_ret
        exact ⟨ret_bool (by rw [HV.out]; simp [hpq, zq]), HBc.out⟩
      exact absurd zq.symm hpq
    · have ers : (r != s) = true := by simpa using hrs
      go_wp2_with (go_at_call 90; (first | with_reducible refine (O1.out _).mono ?_ | with_reducible refine (O2.out _).mono ?_ | with_reducible refine (O3.out _).mono ?_ | with_reducible refine (O4.out _).mono ?_); rintro e u ⟨rfl, B⟩; replace HBc := Lib.hid (below_call HBc.out B); replace HXc := Lib.hid (at4_next HXc.out B); clear B; clear a1 a2 b1 b2 c1 c2 d1 d2; obtain ⟨⟨_, a1, a2⟩, ⟨_, b1, b2⟩, ⟨_, c1, c2⟩, ⟨_, d1, d2⟩⟩ := HXc.out)
      go_ret
      exact ⟨ret_bool (by rw [HV.out]; simp [hpq, hrs]), HBc.out⟩
end Go.Proofs.YtkogoflcacameaaDoor
namespace Go.Proofs.YtkogoflcacameaaDoor
set_option maxRecDepth 100000
open Go.RowKit
attribute [local go_sem ↓] Go.wp_at_zero Go.wp_at_succ
set_option maxHeartbeats 2000000 in
theorem l8InsideC (a : Option Addr) (len cap : Nat) (ps : List P2) (p : P2) (w : World) (hp : PL w a len ps) (hl : len ≤ 1000) (hk : okPts ps) (hq : okQ p) :
    Calls Tryd.prog 75 #[.slice a len cap, pt p.1 p.2] w fun e w' => e = .returned (.bool (decide (Ins ps p))) ∧ Below w.heap.size w w' := by
  have HLE := Lib.hid hp.1
  have HOK := Lib.hid hk
  have HOQ := Lib.hid hq
  have HB := Lib.hid (below_box w (.cells #[.int .i64 p.1, .int .i64 p.2] 89))
  have HX := Lib.hid (AtP.box w p.1 p.2 89)
  have HP := Lib.hid (hp.next HB.out)
  clear hp hk hq
  go_enter Tryd.func75, Tryd.ntmps75
  go_wp2
  generalize w.alloc (.cells #[.int .i64 p.1, .int .i64 p.2] 89) = w0 at *
  go_loopw [5] (fun i wr => ∃ j : Nat, j ≤ len ∧ i = .int .i64 (j : Int) ∧ Hid (∀ k, k < j → 0 ≤ cr (cor ps k) (cor ps (nx ps k)) p) ∧ Hid (Below w0.heap.size w0 wr)) (fun i _ => len - (intOf i).toNat)
  case atStart => exact ⟨0, Nat.zero_le _, rfl, Lib.hid (fun k hk => absurd hk (by omega)), Lib.hid (Below.refl _ _)⟩
  case round =>
    obtain ⟨j, hj, rfl, HI, HW⟩ := hrel
    by_cases hlt : j < len
    · have HP1 := Lib.hid (HP.out.next HW.out)
      have HX1 := Lib.hid (HX.out.next HW.out)
      obtain ⟨b, o, rfl, lt, hc⟩ := HP1.out.somes (by omega)
      have HMD := Lib.hid (show ((j : Int) + 1).tmod (len : Int) = (nx ps j : Nat) ∧ nx ps j < len by
        rw [HLE.out] at hlt ⊢; exact ⟨tmod_nx ps j, nx_lt hlt⟩)
      have j1 : (0 : Int) ≤ (j : Int) := by omega
      have j2 : (j : Int) < (len : Int) := by omega
      have u1 := keptCell (b := b) (o := o + j * 2) lt (hc j hlt).1
      have u2 := keptCell (b := b) (o := o + j * 2 + 1) lt (hc j hlt).2
      have u3 := keptCell (b := b) (o := o + nx ps j * 2) lt (hc (nx ps j) HMD.out.2).1
      have u4 := keptCell (b := b) (o := o + nx ps j * 2 + 1) lt (hc (nx ps j) HMD.out.2).2
      obtain ⟨u5, u6⟩ := HX1.out.kepts
      have HC := Lib.hid (fun (q : Kept wr) => keptCall (crossC (cor ps j) (cor ps (nx ps j)) p q.u (HOK.out.cor (by rw [← HLE.out]; exact hlt)) (HOK.out.cor (by rw [← HLE.out]; exact HMD.out.2)) HOQ.out))
      have hmd := HMD.out.1
      have m1 : (0 : Int) ≤ (nx ps j : Int) := by omega
      have m2 : (nx ps j : Int) < (len : Int) := by have := HMD.out.2; omega
      have hne : ¬ len = 0 := by omega
      have hne2 : ¬ (len : Int) = 0 := by omega
      clear hc
      by_cases hs : cr (cor ps j) (cor ps (nx ps j)) p < 0
      · have HV := Lib.hid (show false = decide (Ins ps p) from (decide_eq_false fun k => by have := k j (by rw [← HLE.out]; exact hlt); exact absurd hs (by unfold nx; omega)).symm)
        have hd : decide (cr (cor ps j) (cor ps (nx ps j)) p < 0) = true := decide_eq_true hs
        clear hs
        go_upto_region 4 with fail
        refine wp_region_ktail 14 (by kernel_rfl) (by kernel_rfl) ?_
        simp only [List.take_succ_cons, List.take_zero, List.drop_succ_cons, List.drop_zero]
        repeat (go_big_quiet_step ((go_at_call 78; with_reducible exact HC.out _)))
        refine wpQuiet_nil ?_
        rintro w2 ⟨⟨_, K2⟩, rfl⟩
        have HB2 := Lib.hid (below_call HB.out (below_call HW.out K2))
        clear u1 u2 u3 u4 u5 u6 HC
        go_wp2
        go_ret
        exact ⟨ret_bool HV.out, HB2.out⟩
      · have HN := Lib.hid (show ∀ k, k < j + 1 → 0 ≤ cr (cor ps k) (cor ps (nx ps k)) p from fun k hk => by
          by_cases e : k = j
          · subst e; omega
          · exact HI.out k (by omega))
        have hd : decide (cr (cor ps j) (cor ps (nx ps j)) p < 0) = false := decide_eq_false hs
        clear hs
        go_upto_region 4 with fail
        refine wp_region_ktail 14 (by kernel_rfl) (by kernel_rfl) ?_
        simp only [List.take_succ_cons, List.take_zero, List.drop_succ_cons, List.drop_zero]
        repeat (go_big_quiet_step ((go_at_call 78; with_reducible exact HC.out _)))
        refine wpQuiet_nil ?_
        rintro w2 ⟨⟨_, K2⟩, rfl⟩
        have HW2 := Lib.hid (below_call HW.out K2)
        clear u1 u2 u3 u4 u5 u6 HC
        go_wp2
        go_roundw
        case rel => exact ⟨j + 1, by omega, by congr 1, HN, HW2⟩
        case measure => simp [intOf]; omega
    · obtain rfl : j = len := by omega
      have HV := Lib.hid (show true = decide (Ins ps p) from (decide_eq_true (p := Ins ps p) (fun k hk => HI.out k (by rw [HLE.out]; exact hk))).symm)
      go_wp2
      go_ret
      exact ⟨ret_bool HV.out, below_call HB.out HW.out⟩
end Go.Proofs.YtkogoflcacameaaDoor
namespace Go.Proofs.YtkogoflcacameaaDoor
set_option maxRecDepth 100000
open Go.RowKit
attribute [local go_sem ↓] Go.wp_at_zero Go.wp_at_succ
set_option maxHeartbeats 2000000 in
theorem l8HitC (a : Option Addr) (len cap : Nat) (ps : List P2) (p q : P2) (w : World) (hp : PL w a len ps) (hl : len ≤ 1000) (hk : okPts ps) (h1 : okQ p) (h2 : okQ q) :
    Calls Tryd.prog 60 #[.slice a len cap, pt p.1 p.2, pt q.1 q.2] w fun e w' => e = .returned (.bool (decide (Hit ps p q))) ∧ Below w.heap.size w w' := by
  have HLE := Lib.hid hp.1
  have HOK := Lib.hid hk
  have HO1 := Lib.hid h1
  have HO2 := Lib.hid h2
  have HB := Lib.hid (below_box2 w (.cells #[.int .i64 p.1, .int .i64 p.2] 89) (.cells #[.int .i64 q.1, .int .i64 q.2] 89))
  have K0 := (AtP.box w p.1 p.2 89).next (below_box _ (.cells #[.int .i64 q.1, .int .i64 q.2] 89))
  have K1 := AtP.box (w.alloc (.cells #[.int .i64 p.1, .int .i64 p.2] 89)) q.1 q.2 89
  simp only [World.size_alloc] at K1
  have HX := Lib.hid (And.intro K0 K1)
  have HP := Lib.hid (hp.next HB.out)
  have HC1 := Lib.hid (l8InsideC a len cap ps p _ HP.out hl hk h1)
  have HC2 := Lib.hid (fun (u : World) (hu : Below ((w.alloc (.cells #[.int .i64 p.1, .int .i64 p.2] 89)).alloc (.cells #[.int .i64 q.1, .int .i64 q.2] 89)).heap.size ((w.alloc (.cells #[.int .i64 p.1, .int .i64 p.2] 89)).alloc (.cells #[.int .i64 q.1, .int .i64 q.2] 89)) u) => l8InsideC a len cap ps q u (HP.out.next hu) hl hk h2)
  clear hp hk h1 h2 K0 K1
  by_cases i1 : Ins ps p
  · have HV := Lib.hid (show true = decide (Hit ps p q) from (decide_eq_true (p := Hit ps p q) (.inl (.inl i1))).symm)
    rw [decide_eq_true i1] at HC1
    clear i1
    go_enter Tryd.func60, Tryd.ntmps60
    go_wp2_with fail
    refine HC1.out.mono ?_
    rintro e w1 ⟨rfl, B⟩
    have HB1 := Lib.hid (below_call HB.out B)
    clear B
    go_wp2
    go_ret
    exact ⟨ret_bool HV.out, HB1.out⟩
  rw [decide_eq_false i1] at HC1
  by_cases i2 : Ins ps q
  · have HV := Lib.hid (show true = decide (Hit ps p q) from (decide_eq_true (p := Hit ps p q) (.inl (.inr i2))).symm)
    rw [decide_eq_true i2] at HC2
    clear i1 i2
    go_enter Tryd.func60, Tryd.ntmps60
    go_wp2_with fail
    refine HC1.out.mono ?_
    rintro e w1 ⟨rfl, B⟩
    have HB1 := Lib.hid (below_call HB.out B)
    have HC3 := Lib.hid (HC2.out w1 B)
    obtain ⟨_, a1, a2⟩ := HX.out.1.next B
    obtain ⟨_, b1, b2⟩ := HX.out.2.next B
    clear B
    go_wp2_with fail
    refine HC3.out.mono ?_
    rintro e w2 ⟨rfl, B⟩
    have HB2 := Lib.hid (below_call HB1.out B)
    clear B a1 a2 b1 b2
    go_wp2
    go_ret
    exact ⟨ret_bool HV.out, HB2.out⟩
  rw [decide_eq_false i2] at HC2
  have HN := Lib.hid (And.intro i1 i2)
  clear i1 i2
  go_enter Tryd.func60, Tryd.ntmps60
  go_wp2_with fail
  refine HC1.out.mono ?_
  rintro e w1 ⟨rfl, B⟩
  have HB1 := Lib.hid (below_call HB.out B)
  have HP1 := Lib.hid (HP.out.next B)
  have HX1 := Lib.hid (And.intro (HX.out.1.next B) (HX.out.2.next B))
  have HC3 := Lib.hid (HC2.out w1 B)
  obtain ⟨_, a1, a2⟩ := HX1.out.1
  obtain ⟨_, b1, b2⟩ := HX1.out.2
  clear B
  go_wp2_with fail
  refine HC3.out.mono ?_
  rintro e w2 ⟨rfl, B⟩
  have HB2 := Lib.hid (below_call HB1.out B)
  have HP2 := Lib.hid (HP1.out.next B)
  have HX2 := Lib.hid (And.intro (HX1.out.1.next B) (HX1.out.2.next B))
  clear B a1 a2 b1 b2 HC1 HC2 HC3 HP HP1 HX HX1 HB HB1
  go_wp2
  go_loopw [7] (fun i wr => ∃ j : Nat, j ≤ len ∧ i = .int .i64 (j : Int) ∧ Hid (∀ k, k < j → ¬ Meet p q (cor ps k) (cor ps (nx ps k))) ∧ Hid (Below w2.heap.size w2 wr)) (fun i _ => len - (intOf i).toNat)
  case atStart => exact ⟨0, Nat.zero_le _, rfl, Lib.hid (fun k hk => absurd hk (by omega)), Lib.hid (Below.refl _ _)⟩
  case round =>
    obtain ⟨j, hj, rfl, HI, HW⟩ := hrel
    by_cases hlt : j < len
    · have HP3 := Lib.hid (HP2.out.next HW.out)
      obtain ⟨b, o, rfl, lt, hc⟩ := HP3.out.somes (by omega)
      have HMD := Lib.hid (show ((j : Int) + 1).tmod (len : Int) = (nx ps j : Nat) ∧ nx ps j < len by
        rw [HLE.out] at hlt ⊢; exact ⟨tmod_nx ps j, nx_lt hlt⟩)
      have j1 : (0 : Int) ≤ (j : Int) := by omega
      have j2 : (j : Int) < (len : Int) := by omega
      have u1 := keptCell (b := b) (o := o + j * 2) lt (hc j hlt).1
      have u2 := keptCell (b := b) (o := o + j * 2 + 1) lt (hc j hlt).2
      have u3 := keptCell (b := b) (o := o + nx ps j * 2) lt (hc (nx ps j) HMD.out.2).1
      have u4 := keptCell (b := b) (o := o + nx ps j * 2 + 1) lt (hc (nx ps j) HMD.out.2).2
      obtain ⟨u5, u6⟩ := (HX2.out.1.next HW.out).kepts
      obtain ⟨u7, u8⟩ := (HX2.out.2.next HW.out).kepts
      have HC := Lib.hid (fun (u : World) => l8MeetC p q (cor ps j) (cor ps (nx ps j)) u HO1.out HO2.out (HOK.out.cor (by rw [← HLE.out]; exact hlt)) (HOK.out.cor (by rw [← HLE.out]; exact HMD.out.2)))
      have hmd := HMD.out.1
      have m1 : (0 : Int) ≤ (nx ps j : Int) := by omega
      have m2 : (nx ps j : Int) < (len : Int) := by have := HMD.out.2; omega
      have hne : ¬ len = 0 := by omega
      have hne2 : ¬ (len : Int) = 0 := by omega
      clear hc
      by_cases hs : Meet p q (cor ps j) (cor ps (nx ps j))
      · have HV := Lib.hid (show true = decide (Hit ps p q) from (decide_eq_true (p := Hit ps p q) (.inr ⟨j, by rw [← HLE.out]; exact hlt, hs⟩)).symm)
        rw [decide_eq_true hs] at HC
        clear hs
        go_upto_region 6 with fail
        refine wp_region_ktail 14 (by kernel_rfl) (by kernel_rfl) ?_
        simp only [List.take_succ_cons, List.take_zero, List.drop_succ_cons, List.drop_zero]
        repeat (go_big_quiet_want; go_big_quiet_op; go_big_quiet_on)
        refine wpQuiet_nil ?_
        rintro w5 ⟨⟨_, K2⟩, rfl⟩
        have HB5 := Lib.hid (below_call HB2.out (below_call HW.out K2))
        clear u1 u2 u3 u4 u5 u6 u7 u8
        go_wp2_with fail
        refine (HC.out _).mono ?_
        rintro e w6 ⟨rfl, B⟩
        have HB6 := Lib.hid (below_call HB5.out B)
        clear B
        go_wp2
        go_ret
        exact ⟨ret_bool HV.out, HB6.out⟩
      · have HI2 := Lib.hid (show ∀ k, k < j + 1 → ¬ Meet p q (cor ps k) (cor ps (nx ps k)) from fun k hk => by
          by_cases e : k = j
          · subst e; exact hs
          · exact HI.out k (by omega))
        rw [decide_eq_false hs] at HC
        clear hs
        go_upto_region 6 with fail
        refine wp_region_ktail 14 (by kernel_rfl) (by kernel_rfl) ?_
        simp only [List.take_succ_cons, List.take_zero, List.drop_succ_cons, List.drop_zero]
        repeat (go_big_quiet_want; go_big_quiet_op; go_big_quiet_on)
        refine wpQuiet_nil ?_
        rintro w5 ⟨⟨_, K2⟩, rfl⟩
        have HW5 := Lib.hid (below_call HW.out K2)
        clear u1 u2 u3 u4 u5 u6 u7 u8
        go_wp2_with fail
        refine (HC.out _).mono ?_
        rintro e w6 ⟨rfl, B⟩
        have HW6 := Lib.hid (below_call HW5.out B)
        clear B
        go_wp2
        go_roundw
        case rel => exact ⟨j + 1, by omega, by congr 1, HI2, HW6⟩
        case measure => simp [intOf]; omega
    · obtain rfl : j = len := by omega
      have HV := Lib.hid (show false = decide (Hit ps p q) from (decide_eq_false (fun k => by
        rcases k with (k | k) | ⟨i, hi, hm⟩
        · exact HN.out.1 k
        · exact HN.out.2 k
        · exact HI.out i (by rw [HLE.out]; exact hi) hm)).symm)
      go_wp2
      go_ret
      exact ⟨ret_bool HV.out, below_call HB2.out HW.out⟩
theorem sOriC (a b c : P2) (w : World) : Calls Tryd.prog 73 #[pt a.1 a.2, pt b.1 b.2, pt c.1 c.2] w fun e w' => e = .returned (.int .i64 (ori a b c)) ∧ Below w.heap.size w w' :=
  specOrientation a.1 a.2 b.1 b.2 c.1 c.2 w
set_option maxHeartbeats 4000000 in
theorem specConvexValid (a : Option Addr) (len cap : Nat) (ps : List P2) (w : World) (hp : PL w a len ps) (hl : len ≤ 9223372036854775807) :
    Calls Tryd.prog 58 #[.slice a len cap] w fun e w' => e = .returned (.bool (decide (okCvx ps))) ∧ Below w.heap.size w w' := by
  have HLE := Lib.hid hp.1
  have HP := Lib.hid hp
  by_cases h38 : 3 ≤ len ∧ len ≤ 8
  · have HCV := Lib.hid (cvx_each (ps := ps) (by rw [← hp.1]; exact h38.1) (by rw [← hp.1]; exact h38.2))
    obtain ⟨h3, h8⟩ := h38
    clear hp
    go_enter Tryd.func58, Tryd.ntmps58
    go_wp2_with fail
    refine (l1In_yes (len : Int) 3 8 _ (by omega) (by omega)).mono ?_
    rintro e w' ⟨rfl, rfl⟩
    go_wp2
    go_loopw [4, 5] (fun i _ wr => ∃ k : Nat, k ≤ len ∧ i = .int .i64 (k : Int) ∧ Hid (∀ i, i < k → ∀ j, j < ps.length → j ≠ i → j ≠ nx ps i → ori (cor ps i) (cor ps (nx ps i)) (cor ps j) = 1) ∧ Hid (Below w.heap.size w wr)) (fun i _ _ => len - (intOf i).toNat)
    case atStart => exact ⟨0, Nat.zero_le _, rfl, Lib.hid (fun k hk => absurd hk (by omega)), Lib.hid (Below.refl _ _)⟩
    case round =>
      obtain ⟨k, hk, rfl, HI, HW⟩ := hrel
      by_cases hlt : k < len
      · have k1 : (0 : Int) ≤ (k : Int) := by omega
        have k2 : (k : Int) < (len : Int) := by omega
        have HMD := Lib.hid (show ((k : Int) + 1).tmod (len : Int) = (nx ps k : Nat) ∧ nx ps k < len by
          rw [HLE.out] at hlt ⊢; exact ⟨tmod_nx ps k, nx_lt hlt⟩)
        have hmd := HMD.out.1
        have m1 : (0 : Int) ≤ (nx ps k : Int) := by omega
        have m2 : (nx ps k : Int) < (len : Int) := by have := HMD.out.2; omega
        have hne : ¬ len = 0 := by omega
        have hne2 : ¬ (len : Int) = 0 := by omega
        go_wp2
        go_loopw [5] (fun i wr2 => ∃ j : Nat, j ≤ len ∧ i = .int .i64 (j : Int) ∧ Hid (∀ i, i < j → i ≠ k → i ≠ nx ps k → ori (cor ps k) (cor ps (nx ps k)) (cor ps i) = 1) ∧ Hid (Below w.heap.size w wr2)) (fun i _ => len - (intOf i).toNat)
        case atStart => exact ⟨0, Nat.zero_le _, rfl, Lib.hid (fun k hk => absurd hk (by omega)), HW⟩
        case round =>
          obtain ⟨j, hj, rfl, HJ, HW2⟩ := hrel
          by_cases hjl : j < len
          · have j1 : (0 : Int) ≤ (j : Int) := by omega
            have j2 : (j : Int) < (len : Int) := by omega
            by_cases e1 : j = k
            · have HJ2 := Lib.hid (show ∀ i, i < j + 1 → i ≠ k → i ≠ nx ps k → ori (cor ps k) (cor ps (nx ps k)) (cor ps i) = 1 from fun i hi z1 z2 => HJ.out i (by omega) z1 z2)
              have g1 : ((j : Int) != (k : Int)) = false := by subst e1; simp
              have g2 : decide (¬ (j : Int) = (k : Int)) = false := by subst e1; simp
              have g3 : ((j : Int) == (k : Int)) = true := by subst e1; simp
              clear e1
              go_upto_region 10 with fail
              refine wp_region_kept (by kernel_rfl) (by kernel_rfl) ?_
              repeat (go_big_quiet_step ((fail)))
              refine wpQuiet_nil ?_
              rintro w5 ⟨⟨_, K2⟩, rfl⟩
              have HW5 := Lib.hid (below_call HW2.out K2)
              go_wp2
              go_roundw
              case rel => exact ⟨j + 1, by omega, by congr 1, HJ2, HW5⟩
              case measure => simp [intOf]; omega
            · have g1 : ((j : Int) != (k : Int)) = true := by simp; omega
              have g2 : decide (¬ (j : Int) = (k : Int)) = true := by simp; omega
              have g3 : ((j : Int) == (k : Int)) = false := by simp; omega
              by_cases e2 : j = nx ps k
              · have HJ2 := Lib.hid (show ∀ i, i < j + 1 → i ≠ k → i ≠ nx ps k → ori (cor ps k) (cor ps (nx ps k)) (cor ps i) = 1 from fun i hi z1 z2 => HJ.out i (by omega) z1 z2)
                have g4 : ((j : Int) != (nx ps k : Int)) = false := by rw [e2]; simp
                have g5 : decide (¬ (j : Int) = (nx ps k : Int)) = false := by rw [e2]; simp
                have g6 : ((j : Int) == (nx ps k : Int)) = true := by rw [e2]; simp
                clear e1 e2
                go_upto_region 10 with fail
                refine wp_region_kept (by kernel_rfl) (by kernel_rfl) ?_
                repeat (go_big_quiet_step ((fail)))
                refine wpQuiet_nil ?_
                rintro w5 ⟨⟨_, K2⟩, rfl⟩
                have HW5 := Lib.hid (below_call HW2.out K2)
                go_wp2
                go_roundw
                case rel => exact ⟨j + 1, by omega, by congr 1, HJ2, HW5⟩
                case measure => simp [intOf]; omega
              · have g4 : ((j : Int) != (nx ps k : Int)) = true := by simp; omega
                have g5 : decide (¬ (j : Int) = (nx ps k : Int)) = true := by simp; omega
                have g6 : ((j : Int) == (nx ps k : Int)) = false := by simp; omega
                have HP3 := Lib.hid (HP.out.next HW2.out)
                obtain ⟨b, o, rfl, lt, hc⟩ := HP3.out.somes (by omega)
                have u1 := keptCell (b := b) (o := o + k * 2) lt (hc k hlt).1
                have u2 := keptCell (b := b) (o := o + k * 2 + 1) lt (hc k hlt).2
                have u3 := keptCell (b := b) (o := o + nx ps k * 2) lt (hc (nx ps k) HMD.out.2).1
                have u4 := keptCell (b := b) (o := o + nx ps k * 2 + 1) lt (hc (nx ps k) HMD.out.2).2
                have u5 := keptCell (b := b) (o := o + j * 2) lt (hc j hjl).1
                have u6 := keptCell (b := b) (o := o + j * 2 + 1) lt (hc j hjl).2
                have HC := Lib.hid (fun (q : Kept wr) => keptCall (sOriC (cor ps k) (cor ps (nx ps k)) (cor ps j) q.u))
                clear hc
                by_cases hs : ori (cor ps k) (cor ps (nx ps k)) (cor ps j) = 1
                · have HJ2 := Lib.hid (show ∀ i, i < j + 1 → i ≠ k → i ≠ nx ps k → ori (cor ps k) (cor ps (nx ps k)) (cor ps i) = 1 from fun i hi z1 z2 => by
                    by_cases e : i = j
                    · subst e; exact hs
                    · exact HJ.out i (by omega) z1 z2)
                  rw [hs] at HC
                  clear e1 e2 hs
                  go_upto_region 10 with fail
                  refine wp_region_kept (by kernel_rfl) (by kernel_rfl) ?_
                  repeat (go_big_quiet_step ((go_at_call 73; with_reducible exact HC.out _)))
                  refine wpQuiet_nil ?_
                  rintro w5 ⟨⟨_, K2⟩, rfl⟩
                  have HW5 := Lib.hid (below_call HW2.out K2)
                  clear u1 u2 u3 u4 u5 u6 HC
                  go_wp2
                  go_roundw
                  case rel => exact ⟨j + 1, by omega, by congr 1, HJ2, HW5⟩
                  case measure => simp [intOf]; omega
                · have HV := Lib.hid (show false = decide (okCvx ps) from (decide_eq_false fun ok => hs (HCV.out.2 ok k (by rw [← HLE.out]; exact hlt) j (by rw [← HLE.out]; exact hjl) e1 e2)).symm)
                  have g7 : (ori (cor ps k) (cor ps (nx ps k)) (cor ps j) != 1) = true := by simpa using hs
                  have g8 : (ori (cor ps k) (cor ps (nx ps k)) (cor ps j) == 1) = false := by simpa using hs
                  clear e1 e2
                  go_upto_region 10 with fail
                  refine wp_region_kept (by kernel_rfl) (by kernel_rfl) ?_
                  repeat (go_big_quiet_step ((go_at_call 73; with_reducible exact HC.out _)))
                  refine wpQuiet_nil ?_
                  rintro w5 ⟨⟨_, K2⟩, rfl⟩
                  have HW5 := Lib.hid (below_call HW2.out K2)
                  clear u1 u2 u3 u4 u5 u6 HC
                  go_wp2
                  go_ret
                  exact ⟨ret_bool HV.out, HW5.out⟩
          · obtain rfl : j = len := by omega
            have HI2 := Lib.hid (show ∀ i, i < k + 1 → ∀ j, j < ps.length → j ≠ i → j ≠ nx ps i → ori (cor ps i) (cor ps (nx ps i)) (cor ps j) = 1 from fun i hi q z0 z1 z2 => by
              by_cases e : i = k
              · subst e; exact HJ.out q (by rw [HLE.out]; exact z0) z1 z2
              · exact HI.out i (by omega) q z0 z1 z2)
            go_wp2
            go_roundw
            case rel => exact ⟨k + 1, by omega, by congr 1, HI2, HW2⟩
            case measure => simp [intOf]; omega
      · obtain rfl : k = len := by omega
        have HV := Lib.hid (show true = decide (okCvx ps) from (decide_eq_true (HCV.out.1 (fun i hi j hj z1 z2 => HI.out i (by rw [HLE.out]; exact hi) j hj z1 z2))).symm)
        go_wp2
        go_ret
        exact ⟨ret_bool HV.out, HW.out⟩
  · have HV := Lib.hid (show false = decide (okCvx ps) from (decide_eq_false fun ok => h38 (by have := HLE.out; exact ⟨by have := ok.1; omega, by have := ok.2.1; omega⟩)).symm)
    clear hp
    go_enter Tryd.func58, Tryd.ntmps58
    go_wp2_with fail
    refine (l1In_no (len : Int) 3 8 _ (by omega)).mono ?_
    rintro e w' ⟨rfl, rfl⟩
    go_wp2
    go_ret
    exact ⟨ret_bool HV.out, Below.refl _ _⟩
end Go.Proofs.YtkogoflcacameaaDoor
