/- The walk of the law FnSegmentsMeet: it returns true at every code. -/
import Derived.Test.YtkmopgdnaohcdaaLk8
import Derived.Test.YtkmopgdnaohcdaaDs8
namespace Go.Proofs.Ytkmopgdnaohcdaa
set_option maxRecDepth 100000
open Go.RowKit
attribute [local go_sem ↓] Go.wp_at_zero Go.wp_at_succ
theorem segV_symm (a b c d : P2) : decide (segV c d a b) = decide (segV a b c d) := same_dec _ _ (by unfold segV; rw [meet_symm c d a b]; constructor <;> (rintro ⟨h1, h2, h3, h4, h5⟩; exact ⟨h3, h4, h1, h2, h5⟩))
theorem segV_swap (a b c d : P2) : decide (segV b a c d) = decide (segV a b c d) := same_dec _ _ (by unfold segV; rw [meet_swap b a c d]; constructor <;> (rintro ⟨h1, h2, h3, h4, h5⟩; exact ⟨h2, h1, h3, h4, h5⟩))
theorem segV_end {a b c : P2} (ha : okQ a) (hb : okQ b) (hc : okQ c) : decide (segV a b b c) = true := decide_eq_true ⟨ha, hb, hb, hc, meet_end a b c⟩
theorem flo_half {x : Int} (h : x.tmod 2 = 0) : flo x 2 + flo x 2 = x := by
  obtain ⟨h1, h2⟩ := flo2 x
  obtain ⟨k, hk⟩ := Int.dvd_of_tmod_eq_zero h
  omega
theorem segV_mid {a b : P2} (ha : okQ a) (hb : okQ b) (h1 : (a.1 + b.1).tmod 2 = 0) (h2 : (a.2 + b.2).tmod 2 = 0) :
    decide (segV a b (midX a.1 a.2 b.1 b.2, midY a.1 a.2 b.1 b.2) (midX a.1 a.2 b.1 b.2, midY a.1 a.2 b.1 b.2)) = true := by
  have e1 := flo_half h1
  have e2 := flo_half h2
  rw [midX_in ⟨ha, hb⟩, midY_in ⟨ha, hb⟩]
  have hm : okQ (flo (a.1 + b.1) 2, flo (a.2 + b.2) 2) := by
    unfold okQ okP at *
    simp only
    omega
  exact decide_eq_true ⟨ha, hb, hm, hm, meet_mid e1 e2⟩
theorem iSegsY (a b c d : P2) (w : World) (v : Bool) (hv : decide (segV a b c d) = v) :
    Calls Try.prog 31 #[pt a.1 a.2, pt b.1 b.2, pt c.1 c.2, pt d.1 d.2] w fun e w' => e = .returned (.bool v) ∧ Below w.heap.size w w' := by
  have := iSegs a b c d w; rw [hv] at this; exact this
theorem at4_box {w : World} {x1 x2 x3 x4 : Nat} {a b c d : P2} (h : AtP w x1 a.1 a.2 ∧ AtP w x2 b.1 b.2 ∧ AtP w x3 c.1 c.2 ∧ AtP w x4 d.1 d.2) (o : Obj) : AtP (w.alloc o) x1 a.1 a.2 ∧ AtP (w.alloc o) x2 b.1 b.2 ∧ AtP (w.alloc o) x3 c.1 c.2 ∧ AtP (w.alloc o) x4 d.1 d.2 := at4_next h (below_box w o)
set_option maxHeartbeats 8000000 in
theorem walkFnSegmentsMeet (w : World) (a : Option Addr) (len cap : Nat) (zs : List Int) (h : Bytes w a len cap zs) :
    Calls Try.prog 5 #[.slice a len cap] w fun e w' => e = .returned (.bool true) ∧ Below w.heap.size w w' := by
  have hle := h.len_le
  obtain ⟨hl, hm⟩ := hle
  unfold maxLen at hm
  by_cases hbig : 1048576 < len
  · go_enter Try.func5, Try.ntmps5
    go_wp2
    go_ret
    exact ⟨rfl, Below.refl _ _⟩
  · go_enter Try.func5, Try.ntmps5
    go_wp2_with fail
    refine (drawSegmentsMeet w a len cap zs h).mono ?_
    rintro e w0 ⟨p, q, r, s, hsm, rfl, hb⟩
    obtain ⟨m1, m2, m3, m4⟩ := hsm
    unfold small at m1 m2 m3 m4
    clear h hl hm hbig
    have HB := Lib.hid (below_call hb (below_box4 w0 (.cells #[.int .i64 p.1, .int .i64 p.2] 28) (.cells #[.int .i64 q.1, .int .i64 q.2] 28) (.cells #[.int .i64 r.1, .int .i64 r.2] 28) (.cells #[.int .i64 s.1, .int .i64 s.2] 28)))
    have HX := Lib.hid (box4 w0 p q r s)
    have H1 := Lib.hid (fun u => iSegs p q r s u)
    have H2 := Lib.hid (fun u => sSegs p q r s u)
    have H3 := Lib.hid (fun u => iSegsY r s p q u _ (segV_symm p q r s))
    have H4 := Lib.hid (fun u => iSegsY q p r s u _ (segV_swap p q r s))
    have HNO := Lib.hid (show ¬ (okQ p ∧ okQ q ∧ okQ r ∧ okQ s) → decide (segV p q r s) = false from fun h => decide_eq_false fun k => h ⟨k.1, k.2.1, k.2.2.1, k.2.2.2.1⟩)
    generalize decide (segV p q r s) = v at *
    have e0 : (v != v) = false := by simp
    clear hb
    go_upto_region 4 with fail
    generalize (((w0.alloc (.cells #[.int .i64 p.1, .int .i64 p.2] 28)).alloc (.cells #[.int .i64 q.1, .int .i64 q.2] 28)).alloc (.cells #[.int .i64 r.1, .int .i64 r.2] 28)).alloc (.cells #[.int .i64 s.1, .int .i64 s.2] 28) = w1 at *
    obtain ⟨⟨_, a1, a2⟩, ⟨_, b1, b2⟩, ⟨_, c1, c2⟩, ⟨_, d1, d2⟩⟩ := HX.out
    have G1 := Lib.hid (fun u => specPointValidC p u)
    have G2 := Lib.hid (fun u => specPointValidC q u)
    have G3 := Lib.hid (fun u => specPointValidC r u)
    have G4 := Lib.hid (fun u => specPointValidC s u)
    go_upto_region 7 with (first | (go_at_call 31; (first | with_reducible refine (H1.out _).mono ?_ | with_reducible refine (H3.out _).mono ?_ | with_reducible refine (H4.out _).mono ?_ | with_reducible refine (H5.out _).mono ?_ | with_reducible refine (H6.out _).mono ?_); rintro e u ⟨rfl, B⟩; replace HB := Lib.hid (below_call HB.out B); replace HX := Lib.hid (at4_next HX.out B); clear B a1 a2 b1 b2 c1 c2 d1 d2; obtain ⟨⟨_, a1, a2⟩, ⟨_, b1, b2⟩, ⟨_, c1, c2⟩, ⟨_, d1, d2⟩⟩ := HX.out) | (go_at_call 32; with_reducible refine (H2.out _).mono ?_; rintro e u ⟨rfl, B⟩; replace HB := Lib.hid (below_call HB.out B); replace HX := Lib.hid (at4_next HX.out B); clear B a1 a2 b1 b2 c1 c2 d1 d2; obtain ⟨⟨_, a1, a2⟩, ⟨_, b1, b2⟩, ⟨_, c1, c2⟩, ⟨_, d1, d2⟩⟩ := HX.out) | (go_at_call 27; (first | with_reducible refine (G1.out _).mono ?_ | with_reducible refine (G2.out _).mono ?_ | with_reducible refine (G3.out _).mono ?_ | with_reducible refine (G4.out _).mono ?_); rintro e u ⟨rfl, B⟩; replace HB := Lib.hid (below_call HB.out B); replace HX := Lib.hid (at4_next HX.out B); clear B a1 a2 b1 b2 c1 c2 d1 d2; obtain ⟨⟨_, a1, a2⟩, ⟨_, b1, b2⟩, ⟨_, c1, c2⟩, ⟨_, d1, d2⟩⟩ := HX.out))
    clear H1 H2 H3 H4
    by_cases hv : okQ p ∧ okQ q ∧ okQ r ∧ okQ s
    · obtain ⟨k1, k2, k3, k4⟩ := hv
      rw [decide_eq_true k1] at G1
      rw [decide_eq_true k2] at G2
      rw [decide_eq_true k3] at G3
      rw [decide_eq_true k4] at G4
      have H5 := Lib.hid (fun u => iSegsY p q q r u true (segV_end k1 k2 k3))
      have HM := Lib.hid (fun h1 h2 u => iSegsY p q (midX p.1 p.2 q.1 q.2, midY p.1 p.2 q.1 q.2) (midX p.1 p.2 q.1 q.2, midY p.1 p.2 q.1 q.2) u true (segV_mid k1 k2 h1 h2))
      clear k1 k2 k3 k4 HNO
      go_upto_region 9 with (first | (go_at_call 31; (first | with_reducible refine (H1.out _).mono ?_ | with_reducible refine (H3.out _).mono ?_ | with_reducible refine (H4.out _).mono ?_ | with_reducible refine (H5.out _).mono ?_ | with_reducible refine (H6.out _).mono ?_); rintro e u ⟨rfl, B⟩; replace HB := Lib.hid (below_call HB.out B); replace HX := Lib.hid (at4_next HX.out B); clear B a1 a2 b1 b2 c1 c2 d1 d2; obtain ⟨⟨_, a1, a2⟩, ⟨_, b1, b2⟩, ⟨_, c1, c2⟩, ⟨_, d1, d2⟩⟩ := HX.out) | (go_at_call 32; with_reducible refine (H2.out _).mono ?_; rintro e u ⟨rfl, B⟩; replace HB := Lib.hid (below_call HB.out B); replace HX := Lib.hid (at4_next HX.out B); clear B a1 a2 b1 b2 c1 c2 d1 d2; obtain ⟨⟨_, a1, a2⟩, ⟨_, b1, b2⟩, ⟨_, c1, c2⟩, ⟨_, d1, d2⟩⟩ := HX.out) | (go_at_call 27; (first | with_reducible refine (G1.out _).mono ?_ | with_reducible refine (G2.out _).mono ?_ | with_reducible refine (G3.out _).mono ?_ | with_reducible refine (G4.out _).mono ?_); rintro e u ⟨rfl, B⟩; replace HB := Lib.hid (below_call HB.out B); replace HX := Lib.hid (at4_next HX.out B); clear B a1 a2 b1 b2 c1 c2 d1 d2; obtain ⟨⟨_, a1, a2⟩, ⟨_, b1, b2⟩, ⟨_, c1, c2⟩, ⟨_, d1, d2⟩⟩ := HX.out))
      clear G1 G2 G3 G4
      have t1 : (2 : Int) ≠ 0 := by omega
      by_cases he1 : (p.1 + q.1).tmod 2 = 0
      · have f1 : ((p.1 + q.1).tmod 2 == 0) = true := by simpa using he1
        by_cases he2 : (p.2 + q.2).tmod 2 = 0
        · have f2 : ((p.2 + q.2).tmod 2 == 0) = true := by simpa using he2
          have H6 := Lib.hid (HM.out he1 he2)
          clear he1 he2 HM
          go_upto_region 10 with fail
          go_wp2_with fail
          refine (implMidpoint p.1 p.2 q.1 q.2 _).mono ?_
          rintro e u ⟨rfl, B⟩
          replace HB := Lib.hid (below_call HB.out B)
          replace HX := Lib.hid (at4_next HX.out B)
          clear B a1 a2 b1 b2 c1 c2 d1 d2
          obtain ⟨m, hm⟩ : ∃ m : P2, m = (midX p.1 p.2 q.1 q.2, midY p.1 p.2 q.1 q.2) := ⟨_, rfl⟩
          have hm1 : midX p.1 p.2 q.1 q.2 = m.1 := by rw [hm]
          have hm2 : midY p.1 p.2 q.1 q.2 = m.2 := by rw [hm]
          rw [hm1, hm2] at H6
          rw [hm1, hm2]
          clear hm hm1 hm2
          have HMB := Lib.hid (AtP.box u m.1 m.2 28)
          replace HB := Lib.hid (below_call HB.out (below_box u (.cells #[.int .i64 m.1, .int .i64 m.2] 28)))
          replace HX := Lib.hid (at4_box HX.out (.cells #[.int .i64 m.1, .int .i64 m.2] 28))
          go_upto_region 11 with fail
          generalize u.alloc (.cells #[.int .i64 m.1, .int .i64 m.2] 28) = u2 at *
          obtain ⟨⟨_, a1, a2⟩, ⟨_, b1, b2⟩, ⟨_, c1, c2⟩, ⟨_, d1, d2⟩⟩ := HX.out
          go_wp2_with fail
          refine (H5.out _).mono ?_
          rintro e u3 ⟨rfl, B⟩
          replace HB := Lib.hid (below_call HB.out B)
          replace HX := Lib.hid (at4_next HX.out B)
          replace HMB := Lib.hid (HMB.out.next B)
          clear B a1 a2 b1 b2 c1 c2 d1 d2
          obtain ⟨⟨_, a1, a2⟩, ⟨_, b1, b2⟩, ⟨_, c1, c2⟩, ⟨_, d1, d2⟩⟩ := HX.out
          obtain ⟨_, n1, n2⟩ := HMB.out
          go_wp2_with fail
          refine (H6.out _).mono ?_
          rintro e u4 ⟨rfl, B⟩
          replace HB := Lib.hid (below_call HB.out B)
          clear B
          go_wp2
          go_ret
          exact ⟨rfl, HB.out⟩
        · have f2 : ((p.2 + q.2).tmod 2 == 0) = false := by simpa using he2
          clear he1 he2 HM
          go_upto_region 10 with fail
          go_wp2_with fail
          refine (implMidpoint p.1 p.2 q.1 q.2 _).mono ?_
          rintro e u ⟨rfl, B⟩
          replace HB := Lib.hid (below_call HB.out B)
          replace HX := Lib.hid (at4_next HX.out B)
          clear B a1 a2 b1 b2 c1 c2 d1 d2
          obtain ⟨m, hm⟩ : ∃ m : P2, m = (midX p.1 p.2 q.1 q.2, midY p.1 p.2 q.1 q.2) := ⟨_, rfl⟩
          have hm1 : midX p.1 p.2 q.1 q.2 = m.1 := by rw [hm]
          have hm2 : midY p.1 p.2 q.1 q.2 = m.2 := by rw [hm]
          rw [hm1, hm2]
          clear hm hm1 hm2
          have HMB := Lib.hid (AtP.box u m.1 m.2 28)
          replace HB := Lib.hid (below_call HB.out (below_box u (.cells #[.int .i64 m.1, .int .i64 m.2] 28)))
          replace HX := Lib.hid (at4_box HX.out (.cells #[.int .i64 m.1, .int .i64 m.2] 28))
          go_upto_region 11 with fail
          generalize u.alloc (.cells #[.int .i64 m.1, .int .i64 m.2] 28) = u2 at *
          obtain ⟨⟨_, a1, a2⟩, ⟨_, b1, b2⟩, ⟨_, c1, c2⟩, ⟨_, d1, d2⟩⟩ := HX.out
          go_wp2_with fail
          refine (H5.out _).mono ?_
          rintro e u3 ⟨rfl, B⟩
          replace HB := Lib.hid (below_call HB.out B)
          replace HX := Lib.hid (at4_next HX.out B)
          replace HMB := Lib.hid (HMB.out.next B)
          clear B a1 a2 b1 b2 c1 c2 d1 d2
          go_wp2
          go_ret
          exact ⟨rfl, HB.out⟩
      · have f1 : ((p.1 + q.1).tmod 2 == 0) = false := by simpa using he1
        clear he1 HM
        go_upto_region 10 with fail
        go_wp2_with fail
        refine (implMidpoint p.1 p.2 q.1 q.2 _).mono ?_
        rintro e u ⟨rfl, B⟩
        replace HB := Lib.hid (below_call HB.out B)
        replace HX := Lib.hid (at4_next HX.out B)
        clear B a1 a2 b1 b2 c1 c2 d1 d2
        obtain ⟨m, hm⟩ : ∃ m : P2, m = (midX p.1 p.2 q.1 q.2, midY p.1 p.2 q.1 q.2) := ⟨_, rfl⟩
        have hm1 : midX p.1 p.2 q.1 q.2 = m.1 := by rw [hm]
        have hm2 : midY p.1 p.2 q.1 q.2 = m.2 := by rw [hm]
        rw [hm1, hm2]
        clear hm hm1 hm2
        have HMB := Lib.hid (AtP.box u m.1 m.2 28)
        replace HB := Lib.hid (below_call HB.out (below_box u (.cells #[.int .i64 m.1, .int .i64 m.2] 28)))
        replace HX := Lib.hid (at4_box HX.out (.cells #[.int .i64 m.1, .int .i64 m.2] 28))
        go_upto_region 11 with fail
        generalize u.alloc (.cells #[.int .i64 m.1, .int .i64 m.2] 28) = u2 at *
        obtain ⟨⟨_, a1, a2⟩, ⟨_, b1, b2⟩, ⟨_, c1, c2⟩, ⟨_, d1, d2⟩⟩ := HX.out
        go_wp2_with fail
        refine (H5.out _).mono ?_
        rintro e u3 ⟨rfl, B⟩
        replace HB := Lib.hid (below_call HB.out B)
        replace HX := Lib.hid (at4_next HX.out B)
        replace HMB := Lib.hid (HMB.out.next B)
        clear B a1 a2 b1 b2 c1 c2 d1 d2
        go_wp2
        go_ret
        exact ⟨rfl, HB.out⟩
    · by_cases k1 : okQ p
      · rw [decide_eq_true k1] at G1
        by_cases k2 : okQ q
        · rw [decide_eq_true k2] at G2
          by_cases k3 : okQ r
          · rw [decide_eq_true k3] at G3
            have k4 : ¬ okQ s := fun k => hv ⟨k1, k2, k3, k⟩
            rw [decide_eq_false k4] at G4
            have hv0 := HNO.out hv
            subst hv0
            clear HNO hv
            go_upto_region 8 with (first | (go_at_call 31; (first | with_reducible refine (H1.out _).mono ?_ | with_reducible refine (H3.out _).mono ?_ | with_reducible refine (H4.out _).mono ?_ | with_reducible refine (H5.out _).mono ?_ | with_reducible refine (H6.out _).mono ?_); rintro e u ⟨rfl, B⟩; replace HB := Lib.hid (below_call HB.out B); replace HX := Lib.hid (at4_next HX.out B); clear B a1 a2 b1 b2 c1 c2 d1 d2; obtain ⟨⟨_, a1, a2⟩, ⟨_, b1, b2⟩, ⟨_, c1, c2⟩, ⟨_, d1, d2⟩⟩ := HX.out) | (go_at_call 32; with_reducible refine (H2.out _).mono ?_; rintro e u ⟨rfl, B⟩; replace HB := Lib.hid (below_call HB.out B); replace HX := Lib.hid (at4_next HX.out B); clear B a1 a2 b1 b2 c1 c2 d1 d2; obtain ⟨⟨_, a1, a2⟩, ⟨_, b1, b2⟩, ⟨_, c1, c2⟩, ⟨_, d1, d2⟩⟩ := HX.out) | (go_at_call 27; (first | with_reducible refine (G1.out _).mono ?_ | with_reducible refine (G2.out _).mono ?_ | with_reducible refine (G3.out _).mono ?_ | with_reducible refine (G4.out _).mono ?_); rintro e u ⟨rfl, B⟩; replace HB := Lib.hid (below_call HB.out B); replace HX := Lib.hid (at4_next HX.out B); clear B a1 a2 b1 b2 c1 c2 d1 d2; obtain ⟨⟨_, a1, a2⟩, ⟨_, b1, b2⟩, ⟨_, c1, c2⟩, ⟨_, d1, d2⟩⟩ := HX.out))
            go_wp2_with fail
            refine (alive _).mono ?_
            rintro e w' ⟨rfl, rfl⟩
            go_wp2
            go_ret
            exact ⟨rfl, HB.out⟩
          · rw [decide_eq_false k3] at G3
            have hv0 := HNO.out hv
            subst hv0
            clear HNO hv
            go_upto_region 8 with (first | (go_at_call 31; (first | with_reducible refine (H1.out _).mono ?_ | with_reducible refine (H3.out _).mono ?_ | with_reducible refine (H4.out _).mono ?_ | with_reducible refine (H5.out _).mono ?_ | with_reducible refine (H6.out _).mono ?_); rintro e u ⟨rfl, B⟩; replace HB := Lib.hid (below_call HB.out B); replace HX := Lib.hid (at4_next HX.out B); clear B a1 a2 b1 b2 c1 c2 d1 d2; obtain ⟨⟨_, a1, a2⟩, ⟨_, b1, b2⟩, ⟨_, c1, c2⟩, ⟨_, d1, d2⟩⟩ := HX.out) | (go_at_call 32; with_reducible refine (H2.out _).mono ?_; rintro e u ⟨rfl, B⟩; replace HB := Lib.hid (below_call HB.out B); replace HX := Lib.hid (at4_next HX.out B); clear B a1 a2 b1 b2 c1 c2 d1 d2; obtain ⟨⟨_, a1, a2⟩, ⟨_, b1, b2⟩, ⟨_, c1, c2⟩, ⟨_, d1, d2⟩⟩ := HX.out) | (go_at_call 27; (first | with_reducible refine (G1.out _).mono ?_ | with_reducible refine (G2.out _).mono ?_ | with_reducible refine (G3.out _).mono ?_ | with_reducible refine (G4.out _).mono ?_); rintro e u ⟨rfl, B⟩; replace HB := Lib.hid (below_call HB.out B); replace HX := Lib.hid (at4_next HX.out B); clear B a1 a2 b1 b2 c1 c2 d1 d2; obtain ⟨⟨_, a1, a2⟩, ⟨_, b1, b2⟩, ⟨_, c1, c2⟩, ⟨_, d1, d2⟩⟩ := HX.out))
            go_wp2_with fail
            refine (alive _).mono ?_
            rintro e w' ⟨rfl, rfl⟩
            go_wp2
            go_ret
            exact ⟨rfl, HB.out⟩
        · rw [decide_eq_false k2] at G2
          have hv0 := HNO.out hv
          subst hv0
          clear HNO hv
          go_upto_region 8 with (first | (go_at_call 31; (first | with_reducible refine (H1.out _).mono ?_ | with_reducible refine (H3.out _).mono ?_ | with_reducible refine (H4.out _).mono ?_ | with_reducible refine (H5.out _).mono ?_ | with_reducible refine (H6.out _).mono ?_); rintro e u ⟨rfl, B⟩; replace HB := Lib.hid (below_call HB.out B); replace HX := Lib.hid (at4_next HX.out B); clear B a1 a2 b1 b2 c1 c2 d1 d2; obtain ⟨⟨_, a1, a2⟩, ⟨_, b1, b2⟩, ⟨_, c1, c2⟩, ⟨_, d1, d2⟩⟩ := HX.out) | (go_at_call 32; with_reducible refine (H2.out _).mono ?_; rintro e u ⟨rfl, B⟩; replace HB := Lib.hid (below_call HB.out B); replace HX := Lib.hid (at4_next HX.out B); clear B a1 a2 b1 b2 c1 c2 d1 d2; obtain ⟨⟨_, a1, a2⟩, ⟨_, b1, b2⟩, ⟨_, c1, c2⟩, ⟨_, d1, d2⟩⟩ := HX.out) | (go_at_call 27; (first | with_reducible refine (G1.out _).mono ?_ | with_reducible refine (G2.out _).mono ?_ | with_reducible refine (G3.out _).mono ?_ | with_reducible refine (G4.out _).mono ?_); rintro e u ⟨rfl, B⟩; replace HB := Lib.hid (below_call HB.out B); replace HX := Lib.hid (at4_next HX.out B); clear B a1 a2 b1 b2 c1 c2 d1 d2; obtain ⟨⟨_, a1, a2⟩, ⟨_, b1, b2⟩, ⟨_, c1, c2⟩, ⟨_, d1, d2⟩⟩ := HX.out))
          go_wp2_with fail
          refine (alive _).mono ?_
          rintro e w' ⟨rfl, rfl⟩
          go_wp2
          go_ret
          exact ⟨rfl, HB.out⟩
      · rw [decide_eq_false k1] at G1
        have hv0 := HNO.out hv
        subst hv0
        clear HNO hv
        go_upto_region 8 with (first | (go_at_call 31; (first | with_reducible refine (H1.out _).mono ?_ | with_reducible refine (H3.out _).mono ?_ | with_reducible refine (H4.out _).mono ?_ | with_reducible refine (H5.out _).mono ?_ | with_reducible refine (H6.out _).mono ?_); rintro e u ⟨rfl, B⟩; replace HB := Lib.hid (below_call HB.out B); replace HX := Lib.hid (at4_next HX.out B); clear B a1 a2 b1 b2 c1 c2 d1 d2; obtain ⟨⟨_, a1, a2⟩, ⟨_, b1, b2⟩, ⟨_, c1, c2⟩, ⟨_, d1, d2⟩⟩ := HX.out) | (go_at_call 32; with_reducible refine (H2.out _).mono ?_; rintro e u ⟨rfl, B⟩; replace HB := Lib.hid (below_call HB.out B); replace HX := Lib.hid (at4_next HX.out B); clear B a1 a2 b1 b2 c1 c2 d1 d2; obtain ⟨⟨_, a1, a2⟩, ⟨_, b1, b2⟩, ⟨_, c1, c2⟩, ⟨_, d1, d2⟩⟩ := HX.out) | (go_at_call 27; (first | with_reducible refine (G1.out _).mono ?_ | with_reducible refine (G2.out _).mono ?_ | with_reducible refine (G3.out _).mono ?_ | with_reducible refine (G4.out _).mono ?_); rintro e u ⟨rfl, B⟩; replace HB := Lib.hid (below_call HB.out B); replace HX := Lib.hid (at4_next HX.out B); clear B a1 a2 b1 b2 c1 c2 d1 d2; obtain ⟨⟨_, a1, a2⟩, ⟨_, b1, b2⟩, ⟨_, c1, c2⟩, ⟨_, d1, d2⟩⟩ := HX.out))
        go_wp2_with fail
        refine (alive _).mono ?_
        rintro e w' ⟨rfl, rfl⟩
        go_wp2
        go_ret
        exact ⟨rfl, HB.out⟩
end Go.Proofs.Ytkmopgdnaohcdaa
