/- The walks of the laws on stop distances and next speeds. -/
import Derived.Test.YtcamnkoiddighaaDn5
import Derived.Test.YtcamnkoiddighaaDw5
namespace Go.Proofs.Ytcamnkoiddighaa
set_option maxRecDepth 100000
open Go.RowKit
theorem walkFnExactStopDistance (v r : Int) (w : World) :
    Calls Try.prog 9 #[.int .i64 v, .int .i64 r] w fun e w' => e = .returned (.bool true) ∧ Below w.heap.size w w' := by
  have hb : (stopV v r != stopV v r) = false := by simp
  go_enter Try.func9, Try.ntmps9
  go_wp2_with fail
  refine (specStopDistance v r _).mono ?_
  rintro e w' ⟨rfl, rfl⟩
  go_wp2_with fail
  refine (implStopDistance v r _).mono ?_
  rintro e w' ⟨rfl, B⟩
  go_wp2
  go_ret
  exact ⟨rfl, B⟩
theorem walkFnExactNextSpeed (v d t r : Int) (w : World) :
    Calls Try.prog 10 #[.int .i64 v, .int .i64 d, .int .i64 t, .int .i64 r] w fun e w' => e = .returned (.bool true) ∧ Below w.heap.size w w' := by
  have hb : (nextV v d t r != nextV v d t r) = false := by simp
  go_enter Try.func10, Try.ntmps10
  go_wp2_with fail
  refine (specNextSpeed v d t r _).mono ?_
  rintro e w' ⟨rfl, rfl⟩
  go_wp2_with fail
  refine (implNextSpeed v d t r _).mono ?_
  rintro e w' ⟨rfl, B⟩
  go_wp2
  go_ret
  exact ⟨rfl, B⟩
theorem implStopIn (v r : Int) (w : World) (v0 : 0 ≤ v) (v1 : v ≤ 200) (r0 : 1 ≤ r) (r1 : r ≤ 50) :
    Calls Try.prog 15 #[.int .i64 v, .int .i64 r] w fun e w' => e = .returned (.int .i64 (stopD v r)) ∧ Below w.heap.size w w' := by
  have := implStopDistance v r w
  rw [stopV_in v r v0 v1 r0 r1] at this
  exact this
theorem implStopE (v r n : Int) (w : World) (v0 : 0 ≤ v) (v1 : v ≤ 200) (r0 : 1 ≤ r) (r1 : r ≤ 50) (hn : stopD v r = n) :
    Calls Try.prog 15 #[.int .i64 v, .int .i64 r] w fun e w' => e = .returned (.int .i64 n) ∧ Below w.heap.size w w' := hn ▸ implStopIn v r w v0 v1 r0 r1
theorem specStopE (v r n : Int) (w : World) (v0 : 0 ≤ v) (v1 : v ≤ 200) (r0 : 1 ≤ r) (r1 : r ≤ 50) (hn : stopD v r = n) :
    Calls Try.prog 16 #[.int .i64 v, .int .i64 r] w fun e w' => e = .returned (.int .i64 n) ∧ w = w' := hn ▸ specStopIn v r w v0 v1 r0 r1
set_option maxHeartbeats 2000000 in
theorem walkFnStopDistance (w : World) (a : Option Addr) (len cap : Nat) (zs : List Int) (h : Bytes w a len cap zs) :
    Calls Try.prog 3 #[.slice a len cap] w fun e w' => e = .returned (.bool true) ∧ Below w.heap.size w w' := by
  have hle := h.len_le
  obtain ⟨hl, hm⟩ := hle
  unfold maxLen at hm
  by_cases hbig : 1048576 < len
  · go_enter Try.func3, Try.ntmps3
    go_wp2
    go_ret
    exact ⟨rfl, Below.refl _ _⟩
  · go_enter Try.func3, Try.ntmps3
    go_wp2_with fail
    refine (drawStopDistance w a len cap zs h).mono ?_
    rintro e w1 ⟨v, r, v0, v1, r0, r1, rfl, hb⟩
    have HB := Lib.hid hb
    clear hb h
    by_cases hin : (0 ≤ v ∧ v ≤ 200) ∧ (1 ≤ r ∧ r ≤ 50)
    · obtain ⟨⟨p0, p1⟩, q0, q1⟩ := hin
      obtain ⟨n, hn⟩ : ∃ n, stopD v r = n := ⟨_, rfl⟩
      obtain ⟨n2, hn2⟩ : ∃ n, stopD (v + 1) r = n := ⟨_, rfl⟩
      obtain ⟨n3, hn3⟩ : ∃ n, stopD v (r + 1) = n := ⟨_, rfl⟩
      have s0 : 0 ≤ n := hn ▸ stopD_lo v r q0
      have s1 : n ≤ 200 * v := hn ▸ stopD_hi v r q0 p0 p1
      have t1 : n ≤ n2 := by rw [← hn, ← hn2]; exact stopD_succ v r q0
      have t2 : n3 ≤ n := by rw [← hn, ← hn3]; exact stopD_rise v r q0
      have e0 : (n != n) = false := by simp
      have HN := Lib.hid hn
      have H2 := Lib.hid hn2
      have H3 := Lib.hid hn3
      clear hn hn2 hn3
      go_wp2_with fail
      refine (implStopE v r n _ p0 p1 q0 q1 HN.out).mono ?_
      rintro e w2 ⟨rfl, B2⟩
      have HB2 := Lib.hid (below_call HB.out B2)
      clear B2 HB
      go_wp2_with fail
      refine (specStopE v r n _ p0 p1 q0 q1 HN.out).mono ?_
      rintro e w' ⟨rfl, rfl⟩
      by_cases hc : r < v
      · obtain ⟨y, hy⟩ : ∃ y, stopD (v - r) r = y := ⟨_, rfl⟩
        have e1 : (n == v - r + y) = true := by rw [← hy, ← stopD_step v r q0 hc, HN.out]; simp
        have u0 : 0 ≤ y := hy ▸ stopD_lo (v - r) r q0
        have u1 : y ≤ 200 * (v - r) := hy ▸ stopD_hi (v - r) r q0 (by omega) (by omega)
        have HY := Lib.hid hy
        clear hy
        go_wp2_with fail
        refine (implStopE (v - r) r y _ (by omega) (by omega) q0 q1 HY.out).mono ?_
        rintro e w3 ⟨rfl, B3⟩
        have HB3 := Lib.hid (below_call HB2.out B3)
        clear B3 HB2
        cases h5 : v == 200 with
        | true =>
          cases h6 : r == 50 with
          | true =>
            go_wp2
            go_ret
            exact ⟨rfl, HB3.out⟩
          | false =>
            have h7 : r < 50 := by simp at h6; omega
            go_wp2_with fail
            refine (implStopE v (r + 1) n3 _ (by omega) (by omega) (by omega) (by omega) H3.out).mono ?_
            rintro e w5 ⟨rfl, B5⟩
            have HB5 := Lib.hid (below_call HB3.out B5)
            clear B5
            go_wp2
            go_ret
            exact ⟨ret_bool (by first | rfl | (simp; done) | (simp; omega)), HB5.out⟩
        | false =>
          have h8 : v < 200 := by simp at h5; omega
          go_wp2_with fail
          refine (implStopE (v + 1) r n2 _ (by omega) (by omega) q0 q1 H2.out).mono ?_
          rintro e w4 ⟨rfl, B4⟩
          have HB4 := Lib.hid (below_call HB3.out B4)
          clear B4
          cases h6 : r == 50 with
          | true =>
            go_wp2
            go_ret
            exact ⟨ret_bool (by first | rfl | (simp; done) | (simp; omega)), HB4.out⟩
          | false =>
            have h7 : r < 50 := by simp at h6; omega
            go_wp2_with fail
            refine (implStopE v (r + 1) n3 _ (by omega) (by omega) (by omega) (by omega) H3.out).mono ?_
            rintro e w5 ⟨rfl, B5⟩
            have HB5 := Lib.hid (below_call HB4.out B5)
            clear B5
            go_wp2
            go_ret
            exact ⟨ret_bool (by first | rfl | (simp; done) | (simp; omega)), HB5.out⟩
      · obtain ⟨y, hy⟩ : ∃ y, stopD 0 r = y := ⟨_, rfl⟩
        have e1 : (n == y) = true := by rw [← hy, ← HN.out, stopD_zero v r (by omega), stopD_zero 0 r (by omega)]; rfl
        have u0 : 0 ≤ y := hy ▸ stopD_lo 0 r q0
        have u1 : y ≤ 200 * 0 := hy ▸ stopD_hi 0 r q0 (by omega) (by omega)
        have HY := Lib.hid hy
        clear hy
        go_wp2_with fail
        refine (implStopE (0) r y _ (by omega) (by omega) q0 q1 HY.out).mono ?_
        rintro e w3 ⟨rfl, B3⟩
        have HB3 := Lib.hid (below_call HB2.out B3)
        clear B3 HB2
        cases h5 : v == 200 with
        | true =>
          cases h6 : r == 50 with
          | true =>
            go_wp2
            go_ret
            exact ⟨rfl, HB3.out⟩
          | false =>
            have h7 : r < 50 := by simp at h6; omega
            go_wp2_with fail
            refine (implStopE v (r + 1) n3 _ (by omega) (by omega) (by omega) (by omega) H3.out).mono ?_
            rintro e w5 ⟨rfl, B5⟩
            have HB5 := Lib.hid (below_call HB3.out B5)
            clear B5
            go_wp2
            go_ret
            exact ⟨ret_bool (by first | rfl | (simp; done) | (simp; omega)), HB5.out⟩
        | false =>
          have h8 : v < 200 := by simp at h5; omega
          go_wp2_with fail
          refine (implStopE (v + 1) r n2 _ (by omega) (by omega) q0 q1 H2.out).mono ?_
          rintro e w4 ⟨rfl, B4⟩
          have HB4 := Lib.hid (below_call HB3.out B4)
          clear B4
          cases h6 : r == 50 with
          | true =>
            go_wp2
            go_ret
            exact ⟨ret_bool (by first | rfl | (simp; done) | (simp; omega)), HB4.out⟩
          | false =>
            have h7 : r < 50 := by simp at h6; omega
            go_wp2_with fail
            refine (implStopE v (r + 1) n3 _ (by omega) (by omega) (by omega) (by omega) H3.out).mono ?_
            rintro e w5 ⟨rfl, B5⟩
            have HB5 := Lib.hid (below_call HB4.out B5)
            clear B5
            go_wp2
            go_ret
            exact ⟨ret_bool (by first | rfl | (simp; done) | (simp; omega)), HB5.out⟩
    · have HE := Lib.hid (stopV_out v r hin)
      have e0 : ((-1 : Int) != -1) = false := by decide
      clear hin
      go_wp2_with fail
      refine (implStopDistance v r _).mono ?_
      rw [HE.out]
      rintro e w2 ⟨rfl, B2⟩
      have HB2 := Lib.hid (below_call HB.out B2)
      clear B2 HB
      go_wp2_with fail
      refine (specStopDistance v r _).mono ?_
      rw [HE.out]
      rintro e w' ⟨rfl, rfl⟩
      go_wp2_with fail
      refine (alive _).mono ?_
      rintro e w' ⟨rfl, rfl⟩
      go_wp2
      go_ret
      exact ⟨rfl, HB2.out⟩
theorem specNextE (v d t r n : Int) (w : World) (v0 : 0 ≤ v) (v1 : v ≤ 200) (d0 : 0 ≤ d) (d1 : d ≤ 5000) (t0 : 1 ≤ t) (t1 : t ≤ 200) (r0 : 1 ≤ r) (r1 : r ≤ 50) (hn : nextI v d t r = n) :
    Calls Try.prog 20 #[.int .i64 v, .int .i64 d, .int .i64 t, .int .i64 r] w fun e w' => e = .returned (.int .i64 n) ∧ w = w' := hn ▸ specNextIn v d t r w v0 v1 d0 d1 t0 t1 r0 r1
theorem implNextE (v d t r n : Int) (w : World) (v0 : 0 ≤ v) (v1 : v ≤ 200) (d0 : 0 ≤ d) (d1 : d ≤ 5000) (t0 : 1 ≤ t) (t1 : t ≤ 200) (r0 : 1 ≤ r) (r1 : r ≤ 50) (hn : nextI v d t r = n) :
    Calls Try.prog 19 #[.int .i64 v, .int .i64 d, .int .i64 t, .int .i64 r] w fun e w' => e = .returned (.int .i64 n) ∧ Below w.heap.size w w' := by
  have := implNextSpeed v d t r w
  rw [nextV_in v d t r ⟨⟨⟨v0, v1⟩, d0, d1⟩, ⟨t0, t1⟩, r0, r1⟩, hn] at this
  exact this
set_option maxHeartbeats 2000000 in
theorem walkFnNextSpeed (w : World) (a : Option Addr) (len cap : Nat) (zs : List Int) (h : Bytes w a len cap zs) :
    Calls Try.prog 4 #[.slice a len cap] w fun e w' => e = .returned (.bool true) ∧ Below w.heap.size w w' := by
  have hle := h.len_le
  obtain ⟨hl, hm⟩ := hle
  unfold maxLen at hm
  by_cases hbig : 1048576 < len
  · go_enter Try.func4, Try.ntmps4
    go_wp2
    go_ret
    exact ⟨rfl, Below.refl _ _⟩
  · go_enter Try.func4, Try.ntmps4
    go_wp2_with fail
    refine (drawNextSpeed w a len cap zs h).mono ?_
    rintro e w1 ⟨v, d, t, r, v0, v1, d0, d1, t0, t1, r0, r1, rfl, hb⟩
    have HB := Lib.hid hb
    clear hb h
    by_cases hin : ((0 ≤ v ∧ v ≤ 200) ∧ (0 ≤ d ∧ d ≤ 5000)) ∧ ((1 ≤ t ∧ t ≤ 200) ∧ (1 ≤ r ∧ r ≤ 50))
    · obtain ⟨⟨⟨p0, p1⟩, p2, p3⟩, ⟨p4, p5⟩, q0, q1⟩ := hin
      obtain ⟨n, hn⟩ : ∃ n, nextI v d t r = n := ⟨_, rfl⟩
      obtain ⟨y, hy⟩ : ∃ y, stopD n r = y := ⟨_, rfl⟩
      obtain ⟨y2, hy2⟩ : ∃ y, stopD (n + 1) r = y := ⟨_, rfl⟩
      have n0 : 0 ≤ n := hn ▸ nextI_lo v d t r
      have n1 : n ≤ min t (v + r) := hn ▸ nextI_hi v d t r p4 q0 p0
      have n2 : n + y ≤ d := by rw [← hy, ← hn]; exact nextI_safe v d t r p2 q0
      have HM := Lib.hid (show n = min t (v + r) ∨ d < n + 1 + y2 by rw [← hy2, ← hn]; exact nextI_most v d t r p4 q0 p0)
      have n3 : n ≤ 200 := by omega
      have s0 : 0 ≤ y := hy ▸ stopD_lo n r q0
      have s1 : y ≤ 200 * n := hy ▸ stopD_hi n r q0 n0 n3
      have e0 : (n != n) = false := by simp
      have HN := Lib.hid hn
      have HY := Lib.hid hy
      clear hn hy
      go_wp2_with fail
      refine (implNextE v d t r n _ p0 p1 p2 p3 p4 p5 q0 q1 HN.out).mono ?_
      rintro e w2 ⟨rfl, B2⟩
      have HB2 := Lib.hid (below_call HB.out B2)
      clear B2 HB
      go_wp2_with fail
      refine (specNextE v d t r n _ p0 p1 p2 p3 p4 p5 q0 q1 HN.out).mono ?_
      rintro e w' ⟨rfl, rfl⟩
      by_cases hc : t ≤ v + r
      · have hc2 : ¬ v + r < t := by omega
        have HY2 := Lib.hid (fun (_ : n < t) => hy2)
        have HYB := Lib.hid (fun (h : n < t) => show 0 ≤ y2 ∧ y2 ≤ 200 * (n + 1) from ⟨hy2 ▸ stopD_lo (n + 1) r q0, hy2 ▸ stopD_hi (n + 1) r q0 (by omega) (by omega)⟩)
        clear hy2
        have m1 : n ≤ t := by omega
        have hmost : n = t ∨ d < n + 1 + y2 := by rcases HM.out with h | h; exact .inl (by omega); exact .inr h
        have HQM := Lib.hid hmost
        clear hmost
        cases h5 : n == 0 with
        | true =>
          cases h6 : n == t with
          | true =>
            go_wp2
            go_ret
            exact ⟨ret_bool (by first | rfl | (simp; done) | (simp; omega)), HB2.out⟩
          | false =>
            have h7 : n < t := by simp at h6; omega
            have h8 : d < n + 1 + y2 := by rcases HQM.out with h | h; omega; exact h
            go_wp2_with fail
            refine (implStopE (n + 1) r y2 _ (by omega) (by omega) q0 q1 (HY2.out h7)).mono ?_
            rintro e w5 ⟨rfl, B5⟩
            have HB5 := Lib.hid (below_call HB2.out B5)
            have b5 := HYB.out h7
            obtain ⟨b5, b6⟩ := b5
            clear B5
            go_wp2
            go_ret
            exact ⟨ret_bool (by first | rfl | (simp; done) | (simp; omega)), HB5.out⟩
        | false =>
          go_wp2_with fail
          refine (implStopE n r y _ (by omega) (by omega) q0 q1 HY.out).mono ?_
          rintro e w4 ⟨rfl, B4⟩
          have HB4 := Lib.hid (below_call HB2.out B4)
          clear B4
          cases h6 : n == t with
          | true =>
            go_wp2
            go_ret
            exact ⟨ret_bool (by first | rfl | (simp; done) | (simp; omega)), HB4.out⟩
          | false =>
            have h7 : n < t := by simp at h6; omega
            have h8 : d < n + 1 + y2 := by rcases HQM.out with h | h; omega; exact h
            go_wp2_with fail
            refine (implStopE (n + 1) r y2 _ (by omega) (by omega) q0 q1 (HY2.out h7)).mono ?_
            rintro e w5 ⟨rfl, B5⟩
            have HB5 := Lib.hid (below_call HB4.out B5)
            have b5 := HYB.out h7
            obtain ⟨b5, b6⟩ := b5
            clear B5
            go_wp2
            go_ret
            exact ⟨ret_bool (by first | rfl | (simp; done) | (simp; omega)), HB5.out⟩
      · have hc2 : v + r < t := by omega
        have HY2 := Lib.hid (fun (_ : n < v + r) => hy2)
        have HYB := Lib.hid (fun (h : n < v + r) => show 0 ≤ y2 ∧ y2 ≤ 200 * (n + 1) from ⟨hy2 ▸ stopD_lo (n + 1) r q0, hy2 ▸ stopD_hi (n + 1) r q0 (by omega) (by omega)⟩)
        clear hy2
        have m1 : n ≤ v + r := by omega
        have hmost : n = v + r ∨ d < n + 1 + y2 := by rcases HM.out with h | h; exact .inl (by omega); exact .inr h
        have HQM := Lib.hid hmost
        clear hmost
        cases h5 : n == 0 with
        | true =>
          cases h6 : n == v + r with
          | true =>
            go_wp2
            go_ret
            exact ⟨ret_bool (by first | rfl | (simp; done) | (simp; omega)), HB2.out⟩
          | false =>
            have h7 : n < v + r := by simp at h6; omega
            have h8 : d < n + 1 + y2 := by rcases HQM.out with h | h; omega; exact h
            go_wp2_with fail
            refine (implStopE (n + 1) r y2 _ (by omega) (by omega) q0 q1 (HY2.out h7)).mono ?_
            rintro e w5 ⟨rfl, B5⟩
            have HB5 := Lib.hid (below_call HB2.out B5)
            have b5 := HYB.out h7
            obtain ⟨b5, b6⟩ := b5
            clear B5
            go_wp2
            go_ret
            exact ⟨ret_bool (by first | rfl | (simp; done) | (simp; omega)), HB5.out⟩
        | false =>
          go_wp2_with fail
          refine (implStopE n r y _ (by omega) (by omega) q0 q1 HY.out).mono ?_
          rintro e w4 ⟨rfl, B4⟩
          have HB4 := Lib.hid (below_call HB2.out B4)
          clear B4
          cases h6 : n == v + r with
          | true =>
            go_wp2
            go_ret
            exact ⟨ret_bool (by first | rfl | (simp; done) | (simp; omega)), HB4.out⟩
          | false =>
            have h7 : n < v + r := by simp at h6; omega
            have h8 : d < n + 1 + y2 := by rcases HQM.out with h | h; omega; exact h
            go_wp2_with fail
            refine (implStopE (n + 1) r y2 _ (by omega) (by omega) q0 q1 (HY2.out h7)).mono ?_
            rintro e w5 ⟨rfl, B5⟩
            have HB5 := Lib.hid (below_call HB4.out B5)
            have b5 := HYB.out h7
            obtain ⟨b5, b6⟩ := b5
            clear B5
            go_wp2
            go_ret
            exact ⟨ret_bool (by first | rfl | (simp; done) | (simp; omega)), HB5.out⟩
    · have HE := Lib.hid (nextV_out v d t r hin)
      have e0 : ((-1 : Int) != -1) = false := by decide
      clear hin
      go_wp2_with fail
      refine (implNextSpeed v d t r _).mono ?_
      rw [HE.out]
      rintro e w2 ⟨rfl, B2⟩
      have HB2 := Lib.hid (below_call HB.out B2)
      clear B2 HB
      go_wp2_with fail
      refine (specNextSpeed v d t r _).mono ?_
      rw [HE.out]
      rintro e w' ⟨rfl, rfl⟩
      go_wp2_with fail
      refine (alive _).mono ?_
      rintro e w' ⟨rfl, rfl⟩
      go_wp2
      go_ret
      exact ⟨rfl, HB2.out⟩
end Go.Proofs.Ytcamnkoiddighaa
