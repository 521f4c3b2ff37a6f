/- The walks of the laws on the speeds of a motion. -/
import Derived.Test.YtcamnkoiddighaaPt5
import Derived.Test.YtcamnkoiddighaaPv5
import Derived.Test.YtcamnkoiddighaaLa5
namespace Go.Proofs.Ytcamnkoiddighaa
set_option maxRecDepth 100000
open Go.RowKit
attribute [local go_sem ↓] Go.wp_at_zero Go.wp_at_succ

theorem rows_apart {w1 w2 : World} {B : Nat} {v1 v2 : Value} {xs ys : List Int} (h1 : OwnI w1 B v1 xs) (h2 : OwnI w2 w1.heap.size v2 ys) : v1.ownBlock = none ∨ v1.ownBlock ≠ v2.ownBlock := by
  rcases e1 : v1.ownBlock with _ | g
  · exact .inl rfl
  · refine .inr fun e => ?_
    have k1 := (World.ownsRow.lt h1 g e1).2
    have k2 := (World.ownsRow.lt h2 g e.symm).1
    omega
theorem take_sum (zs : List Int) (k : Nat) (h : k < zs.length) : sumL (zs.take (k + 1)) = sumL (zs.take k) + zs.getD k 0 := by
  rw [List.take_succ_eq_append_getElem h, sumL_snoc, List.getD_eq_getElem?_getD, List.getElem?_eq_getElem h]; rfl
theorem okProf_bd (t r : Int) : ∀ (b : Int) (xs : List Int), okProf t r b xs → ∀ j, j < xs.length → 1 ≤ xs.getD j 0 ∧ xs.getD j 0 ≤ t
  | _, [], _, j, hj => by simp at hj
  | _, x :: xs, h, 0, _ => ⟨h.1, h.2.1⟩
  | _, x :: xs, h, j + 1, hj => by
    have := okProf_bd t r x xs h.2.2.2.2 j (by simpa using hj)
    simpa using this
theorem profV_bd (d t r : Int) (j : Nat) (hj : j < (profV d t r).length) : 1 ≤ (profV d t r).getD j 0 ∧ (profV d t r).getD j 0 ≤ 200 := by
  by_cases h : okMove d t r
  · rw [profV_in h] at *
    have := okProf_bd t r 0 _ (prof_ok t r 0 d h.2.1.1 h.2.2.1 (by omega) (by have := h.2.1.1; omega) (by rw [stopD_zero 0 r (by have := h.2.2.1; omega)]; exact h.1.1)) j hj
    have := h.2.1.2
    omega
  · rw [profV_out h] at hj; simp at hj
theorem profV_valid {d t r : Int} (h : okMove d t r) : decide (validP t r (profV d t r)) = true := by
  rw [profV_in h]; exact decide_eq_true (valid_prof t r d h.2.1.1 h.2.1.2 h.2.2.1 h.2.2.2 h.1.1 h.1.2)
theorem profV_sum {d t r : Int} (h : okMove d t r) : sumL (profV d t r) = d := by
  rw [profV_in h]; exact prof_sum t r 0 d h.2.1.1 h.2.2.1 (by omega) h.1.1
theorem walkFnExactProfileTime (d t r : Int) (w : World) :
    Calls Try.prog 12 #[.int .i64 d, .int .i64 t, .int .i64 r] w fun e w' => e = .returned (.bool true) ∧ Below w.heap.size w w' := by
  have hb : (timeV d t r != timeV d t r) = false := by simp
  go_enter Try.func12, Try.ntmps12
  go_wp2_with fail
  refine (specProfileTime d t r _).mono ?_
  rintro e w1 ⟨rfl, B1⟩
  go_wp2_with fail
  refine (implProfileTime d t r _).mono ?_
  rintro e w2 ⟨rfl, B2⟩
  go_wp2
  go_ret
  exact ⟨rfl, below_call B1 B2⟩
set_option maxHeartbeats 1000000 in
theorem walkFnExactMotionProfile (d t r : Int) (w : World) :
    Calls Try.prog 11 #[.int .i64 d, .int .i64 t, .int .i64 r] w fun e w' => e = .returned (.bool true) ∧ Below w.heap.size w w' := by
  have HL := Lib.hid (profV_len d t r)
  go_enter Try.func11, Try.ntmps11
  go_wp2_with fail
  refine (specMotionProfile d t r _).mono ?_
  rintro e w1 ⟨⟨a1, l1, c1⟩, rfl, s1, O1, B1⟩
  have HB1 := Lib.hid B1
  have HO1 := Lib.hid O1
  clear O1 B1 s1
  go_wp2_with fail
  refine (implMotionProfile d t r _).mono ?_
  rintro e w2 ⟨⟨a2, l2, c2⟩, rfl, s2, O2, B2⟩
  have hl2 : l2 ≤ 5000 := by have := HL.out; simp only at s2; omega
  have HO2 := Lib.hid O2
  have HA := Lib.hid (rows_apart HO1.out O2)
  have HO1b := Lib.hid (HO1.out.next B2)
  have HB2 := Lib.hid (below_call HB1.out B2)
  clear O2 B2 s2
  go_wp2_with fail
  refine (eqIntS a2 a1 l2 l1 c2 c1 (profV d t r) _ HO2.out.ints HO1b.out.ints (by omega)).mono ?_
  rintro e w3 ⟨rfl, B3⟩
  have HO1c := Lib.hid (HO1b.out.next B3)
  have HO2c := Lib.hid (HO2.out.next B3)
  have HB3 := Lib.hid (below_call HB2.out B3)
  clear B3
  go_wp2_with fail
  refine (markIntS a2 l2 c2 w1.heap.size (profV d t r) 1 _ HO2c.out (by omega) (by omega) (by omega)).mono ?_
  rintro e w4 ⟨rfl, O4, G4, S4⟩
  have HO4 := Lib.hid O4
  have HO1d := Lib.hid (HO1c.out.row G4 HA.out)
  have HB4 := Lib.hid (show Below w.heap.size w w4 from HB3.out.grown G4 HB3.out.size (fun k hk => by have := (World.ownsRow.lt HO2c.out k hk).1; have := HB1.out.size; omega))
  have e5 : (1 + (l2 : Int) != 1 + (l2 : Int)) = false := by simp
  have e6 : ¬ 1 + (l2 : Int) < 0 := by omega
  clear O4 G4 S4
  go_wp2_with fail
  refine (heldIntS a2 l2 c2 1 _ HO4.out.ints (by omega) (by omega) (by omega)).mono ?_
  rintro e w' ⟨rfl, rfl⟩
  go_wp2_with fail
  refine (implMotionProfile d t r _).mono ?_
  rintro e w5 ⟨⟨a5, l5, c5⟩, rfl, s5, O5, B5⟩
  have hl5 : l5 ≤ 5000 := by have := HL.out; simp only at s5; omega
  have HO5 := Lib.hid O5
  have HO1e := Lib.hid (HO1d.out.next B5)
  have HO4e := Lib.hid (HO4.out.next B5)
  have HB5 := Lib.hid (below_call HB4.out B5)
  clear O5 B5 s5
  go_wp2_with fail
  refine (eqIntS a5 a1 l5 l1 c5 c1 (profV d t r) _ HO5.out.ints HO1e.out.ints (by omega)).mono ?_
  rintro e w6 ⟨rfl, B6⟩
  have HO4f := Lib.hid (HO4e.out.next B6)
  have HB6 := Lib.hid (below_call HB5.out B6)
  clear B6
  go_wp2_with fail
  refine (heldIntS a2 l2 c2 1 _ HO4f.out.ints (by omega) (by omega) (by omega)).mono ?_
  rintro e w' ⟨rfl, rfl⟩
  go_wp2
  go_ret
  exact ⟨rfl, HB6.out⟩
set_option maxHeartbeats 1000000 in
theorem walkFnProfileTime (w : World) (a : Option Addr) (len cap : Nat) (zs : List Int) (h : Bytes w a len cap zs) :
    Calls Try.prog 6 #[.slice a len cap] w fun e w' => e = .returned (.bool true) ∧ Below w.heap.size w w' := by
  have hle := h.len_le
  obtain ⟨hl, hm⟩ := hle
  unfold maxLen at hm
  by_cases hbig : 1048576 < len
  · go_enter Try.func6, Try.ntmps6
    go_wp2
    go_ret
    exact ⟨rfl, Below.refl _ _⟩
  · go_enter Try.func6, Try.ntmps6
    go_wp2_with fail
    refine (drawProfileTime w a len cap zs h).mono ?_
    rintro e w1 ⟨d, t, r, d0, d1, t0, t1, r0, r1, rfl, hb⟩
    have HB := Lib.hid hb
    clear hb h
    by_cases hin : okMove d t r
    · obtain ⟨n, hn⟩ : ∃ n : Nat, (profL t r 0 d).length = n := ⟨_, rfl⟩
      have HE := Lib.hid (show timeV d t r = (n : Int) by rw [timeV_in hin, hn])
      have HPV := Lib.hid (show (profV d t r).length = n by rw [profV_in hin, hn])
      have HZ := Lib.hid (show timeV 0 t r = 0 by rw [timeV_in ⟨⟨by omega, by omega⟩, hin.2⟩, profL_nil t r 0 0 (by omega)]; rfl)
      have n1 : (n : Int) ≤ d := by rw [← hn]; exact prof_len t r 0 d hin.2.1.1 hin.2.2.1 (by omega) hin.1.1
      have n2 : d ≤ (n : Int) * t := by rw [← hn]; exact prof_far t r 0 d hin.2.1.1 hin.2.2.1 (by omega) hin.1.1
      have p1 := hin.1.2
      have p2 := hin.2.1.1
      have p3 := hin.2.1.2
      have n3 : (n : Int) * t ≤ 5000 * 200 := Int.mul_le_mul (by omega) p3 (by omega) (by omega)
      have n4 : 0 ≤ (n : Int) * t := Int.mul_nonneg (by omega) (by omega)
      have e0 : ((n : Int) != (n : Int)) = false := by simp
      have e1 : ((n : Int) == (n : Int)) = true := by simp
      clear hn hin
      go_wp2_with fail
      refine (implProfileTime d t r _).mono ?_
      rw [HE.out]
      rintro e w2 ⟨rfl, B2⟩
      have HB2 := Lib.hid (below_call HB.out B2)
      clear B2 HB
      go_wp2_with fail
      refine (specProfileTime d t r _).mono ?_
      rw [HE.out]
      rintro e w3 ⟨rfl, B3⟩
      have HB3 := Lib.hid (below_call HB2.out B3)
      clear B3 HB2
      go_wp2_with fail
      refine (implProfileTime 0 t r _).mono ?_
      rw [HZ.out]
      rintro e w4 ⟨rfl, B4⟩
      have HB4 := Lib.hid (below_call HB3.out B4)
      clear B4 HB3
      go_wp2_with fail
      refine (implMotionProfile d t r _).mono ?_
      rintro e w5 ⟨⟨a5, l5, c5⟩, rfl, s5, O5, B5⟩
      obtain rfl : l5 = n := by have := HPV.out; simp only at s5; omega
      have HB5 := Lib.hid (below_call HB4.out B5)
      clear B5 O5 s5
      go_wp2
      go_ret
      exact ⟨ret_bool (by first | rfl | (simp; done) | (simp; omega)), HB5.out⟩
    · have HE := Lib.hid (timeV_out hin)
      have e0 : ((-1 : Int) != -1) = false := by decide
      clear hin
      go_wp2_with fail
      refine (implProfileTime d t r _).mono ?_
      rw [HE.out]
      rintro e w2 ⟨rfl, B2⟩
      have HB2 := Lib.hid (below_call HB.out B2)
      clear B2 HB
      go_wp2_with fail
      refine (specProfileTime d t r _).mono ?_
      rw [HE.out]
      rintro e w3 ⟨rfl, B3⟩
      have HB3 := Lib.hid (below_call HB2.out B3)
      clear B3 HB2
      go_wp2_with fail
      refine (alive _).mono ?_
      rintro e w' ⟨rfl, rfl⟩
      go_wp2
      go_ret
      exact ⟨rfl, HB3.out⟩
set_option maxHeartbeats 2000000 in
theorem walkFnMotionProfile (w : World) (a : Option Addr) (len cap : Nat) (zs : List Int) (h : Bytes w a len cap zs) :
    Calls Try.prog 5 #[.slice a len cap] w fun e w' => e = .returned (.bool true) ∧ Below w.heap.size w w' := by
  have hle := h.len_le
  obtain ⟨hl, hm⟩ := hle
  unfold maxLen at hm
  by_cases hbig : 1048576 < len
  · go_enter Try.func5, Try.ntmps5
    go_wp2
    go_ret
    exact ⟨rfl, Below.refl _ _⟩
  · go_enter Try.func5, Try.ntmps5
    go_wp2_with fail
    refine (drawMotionProfile w a len cap zs h).mono ?_
    rintro e w1 ⟨d, t, r, d0, d1, t0, t1, r0, r1, rfl, hb⟩
    have HB := Lib.hid hb
    have HPL := Lib.hid (profV_len d t r)
    clear hb h
    go_wp2_with fail
    refine (implMotionProfile d t r _).mono ?_
    rintro e w2 ⟨⟨a2, l2, c2⟩, rfl, s2, O2, B2⟩
    have hl2 : l2 ≤ 5000 := by have := HPL.out; simp only at s2; omega
    have HO2 := Lib.hid O2
    have HB2 := Lib.hid (below_call HB.out B2)
    have HS2 := Lib.hid (show l2 = (profV d t r).length from s2)
    clear O2 B2 s2 HB
    go_wp2_with fail
    refine (specMotionProfile d t r _).mono ?_
    rintro e w3 ⟨⟨a3, l3, c3⟩, rfl, s3, O3, B3⟩
    have HO3 := Lib.hid O3
    have HO2b := Lib.hid (HO2.out.next B3)
    have HB3 := Lib.hid (below_call HB2.out B3)
    clear O3 B3 s3 HB2 HO2
    go_wp2_with fail
    refine (sameInts a2 a3 l2 l3 c2 c3 (profV d t r) _ HO2b.out.ints HO3.out.ints (by omega)).mono ?_
    rintro e w4 ⟨rfl, B4⟩
    have HI := Lib.hid (show IntsAt w4 a2 l2 (profV d t r) from (HO2b.out.next B4).ints)
    have HB4 := Lib.hid (below_call HB3.out B4)
    clear B4 HB3 HO2b HO3
    have HBD := Lib.hid (fun (j : Nat) (hj : j < l2) => profV_bd d t r j (by rw [← HS2.out]; exact hj))
    have HC := Lib.hid (fun (j : Nat) (hj : j < l2) => show ∃ b off, a2 = some ⟨b, off, none⟩ ∧ w4.cell? ⟨b, off + j, none⟩ = some (.int .i64 ((profV d t r).getD j 0)) by
      rcases HI.out.2 with h3 | ⟨b, off, e, _, c⟩
      · have := HI.out.1; rw [h3] at this; simp at this; omega
      · exact ⟨b, off, e, c j (by rw [← HS2.out]; exact hj)⟩)
    have HTS := Lib.hid (fun (j : Nat) (hj : j < l2) => take_sum (profV d t r) j (by rw [← HS2.out]; exact hj))
    have HFI := Lib.hid (show sumL ((profV d t r).take l2) = sumL (profV d t r) by rw [HS2.out, List.take_length])
    go_wp2
    go_loop [7, 8] (fun s i => ∃ (j : Nat) (q : Int), j ≤ l2 ∧ i = .int .i64 (j : Int) ∧ s = .int .i64 q ∧ 0 ≤ q ∧ q ≤ 200 * (j : Int) ∧ Hid (q = sumL ((profV d t r).take j))) (fun _ i => l2 - (intOf i).toNat)
    case atStart => exact ⟨0, 0, Nat.zero_le _, rfl, rfl, by omega, by omega, Lib.hid rfl⟩
    case round =>
      obtain ⟨j, q, hj, rfl, rfl, q0, q1, HQ⟩ := hrel
      by_cases hlt : j < l2
      · obtain ⟨b1, o1, rfl, cj⟩ := HC.out j hlt
        have hbd := HBD.out j hlt
        have HQ2 := Lib.hid (show q + (profV d t r).getD j 0 = sumL ((profV d t r).take (j + 1)) by rw [HTS.out j hlt, HQ.out])
        have i0 : (0 : Int) ≤ (j : Int) := by omega
        have i1 : (j : Int) < (l2 : Int) := by omega
        obtain ⟨z0, z1⟩ := hbd
        clear HC
        generalize (profV d t r).getD j 0 = z at *
        go_wp2
        go_round
        case rel => exact ⟨j + 1, q + z, by omega, by congr 1, rfl, by omega, by omega, HQ2⟩
        case measure => simp [intOf]; omega
      · obtain rfl : j = l2 := by omega
        clear HC
        by_cases hin : okMove d t r
        · have HSD := Lib.hid (show q = d by rw [HQ.out, HFI.out, profV_sum hin])
          obtain rfl : q = d := HSD.out
          have HVA := Lib.hid (profV_valid hin)
          obtain ⟨⟨k0, k1⟩, ⟨k2, k3⟩, k4, k5⟩ := hin
          have e1 : (q == q) = true := by simp
          go_wp2_with fail
          refine (implProfileValid a2 j c2 (profV q t r) t r _ HI.out (by omega)).mono ?_
          rw [HVA.out]
          rintro e w' ⟨rfl, rfl⟩
          go_wp2
          go_ret
          exact ⟨rfl, HB4.out⟩
        · obtain rfl : j = 0 := by have h1 := HS2.out; rw [profV_out hin] at h1; exact h1
          have e1 : (((0 : Nat) : Int) == 0) = true := rfl
          by_cases m0 : d < 0
          · clear hin
            go_wp2_with fail
            refine (alive _).mono ?_
            rintro e w' ⟨rfl, rfl⟩
            go_wp2
            go_ret
            exact ⟨rfl, HB4.out⟩
          · by_cases m1 : 5000 < d
            · clear hin
              go_wp2_with fail
              refine (alive _).mono ?_
              rintro e w' ⟨rfl, rfl⟩
              go_wp2
              go_ret
              exact ⟨rfl, HB4.out⟩
            · by_cases m2 : t < 1
              · clear hin
                go_wp2_with fail
                refine (alive _).mono ?_
                rintro e w' ⟨rfl, rfl⟩
                go_wp2
                go_ret
                exact ⟨rfl, HB4.out⟩
              · by_cases m3 : 200 < t
                · clear hin
                  go_wp2_with fail
                  refine (alive _).mono ?_
                  rintro e w' ⟨rfl, rfl⟩
                  go_wp2
                  go_ret
                  exact ⟨rfl, HB4.out⟩
                · by_cases m4 : r < 1
                  · clear hin
                    go_wp2_with fail
                    refine (alive _).mono ?_
                    rintro e w' ⟨rfl, rfl⟩
                    go_wp2
                    go_ret
                    exact ⟨rfl, HB4.out⟩
                  · have m5 : 50 < r := by
                      rcases Int.lt_or_le 50 r with h | h
                      · exact h
                      · exact absurd ⟨⟨by omega, by omega⟩, ⟨by omega, by omega⟩, by omega, by omega⟩ hin
                    clear hin
                    go_wp2_with fail
                    refine (alive _).mono ?_
                    rintro e w' ⟨rfl, rfl⟩
                    go_wp2
                    go_ret
                    exact ⟨rfl, HB4.out⟩
set_option maxHeartbeats 2000000 in
theorem walkFnProfileDistance (w : World) (a : Option Addr) (len cap : Nat) (zs : List Int) (h : Bytes w a len cap zs) :
    Calls Try.prog 8 #[.slice a len cap] w fun e w' => e = .returned (.bool true) ∧ Below w.heap.size w w' := by
  have hle := h.len_le
  obtain ⟨hl, hm⟩ := hle
  unfold maxLen at hm
  by_cases hbig : 1048576 < len
  · go_enter Try.func8, Try.ntmps8
    go_wp2
    go_ret
    exact ⟨rfl, Below.refl _ _⟩
  · go_enter Try.func8, Try.ntmps8
    go_wp2_with fail
    refine (drawMotionProfile w a len cap zs h).mono ?_
    rintro e w1 ⟨d, t, r, d0, d1, t0, t1, r0, r1, rfl, hb⟩
    have HB := Lib.hid hb
    have HPL := Lib.hid (profV_len d t r)
    clear hb h
    go_wp2_with fail
    refine (implMotionProfile d t r _).mono ?_
    rintro e w2 ⟨⟨a2, l2, c2⟩, rfl, s2, O2, B2⟩
    have hl2 : l2 ≤ 5000 := by have := HPL.out; simp only at s2; omega
    have HO2 := Lib.hid O2
    have HB2 := Lib.hid (below_call HB.out B2)
    have HS2 := Lib.hid (show l2 = (profV d t r).length from s2)
    clear O2 B2 s2 HB
    go_wp2_with fail
    refine (specMotionProfile d t r _).mono ?_
    rintro e w3 ⟨⟨a3, l3, c3⟩, rfl, s3, O3, B3⟩
    have HO3 := Lib.hid O3
    have HO2b := Lib.hid (HO2.out.next B3)
    have HB3 := Lib.hid (below_call HB2.out B3)
    clear O3 B3 s3 HB2 HO2
    go_wp2_with fail
    refine (sameInts a2 a3 l2 l3 c2 c3 (profV d t r) _ HO2b.out.ints HO3.out.ints (by omega)).mono ?_
    rintro e w4 ⟨rfl, B4⟩
    have HI := Lib.hid (show IntsAt w4 a2 l2 (profV d t r) from (HO2b.out.next B4).ints)
    have HB4 := Lib.hid (below_call HB3.out B4)
    clear B4 HB3 HO2b HO3
    have HC := Lib.hid (fun (u : World) (hu : Below w4.heap.size w4 u) (j : Nat) (hj : j < l2) => show ∃ b off, a2 = some ⟨b, off, none⟩ ∧ b < u.heap.size ∧ u.cell? ⟨b, off + j, none⟩ = some (.int .i64 ((profV d t r).getD j 0)) by
      have HI2 := HI.out.next hu
      rcases HI2.2 with h3 | ⟨b, off, e, lt, c⟩
      · have := HI2.1; rw [h3] at this; simp at this; omega
      · exact ⟨b, off, e, lt, c j (by rw [← HS2.out]; exact hj)⟩)
    by_cases hin : okMove d t r
    · have HPE := Lib.hid (profV_in hin)
      obtain ⟨⟨k0, k1⟩, ⟨k2, k3⟩, k4, k5⟩ := hin
      go_wp2
      go_loopw [7, 8] (fun s i wr => ∃ (j : Nat) (d2 v2 : Int), j ≤ l2 ∧ i = .int .i64 (j : Int) ∧ s = .int .i64 d2 ∧ 0 ≤ d2 ∧ d2 ≤ 5000 ∧ 0 ≤ v2 ∧ v2 ≤ 200 ∧ Hid ((profV d t r).drop j = profL t r v2 d2) ∧ Hid (Below w4.heap.size w4 wr)) (fun _ i _ => l2 - (intOf i).toNat)
      case atStart => exact ⟨0, d, 0, Nat.zero_le _, rfl, rfl, k0, k1, by omega, by omega, Lib.hid (by rw [List.drop_zero, HPE.out]), Lib.hid (Below.refl _ _)⟩
      case round =>
        obtain ⟨j, d2, v2, hj, rfl, rfl, p0, p1, p2, p3, HD, HW⟩ := hrel
        by_cases hlt : j < l2
        · have HDA := Lib.hid (drop_at (profV d t r) j (by rw [← HS2.out]; exact hlt))
          have hpos : 0 < d2 := by
            rcases Int.lt_or_le 0 d2 with h | h
            · exact h
            · have h1 := HD.out; rw [HDA.out, profL_nil t r v2 d2 h] at h1; cases h1
          have HPS := Lib.hid (profL_step t r v2 d2 k2 k4 p2 hpos)
          have HX := Lib.hid (show (profV d t r).getD j 0 = nextI v2 d2 t r ∧ (profV d t r).drop (j + 1) = profL t r (nextI v2 d2 t r) (d2 - nextI v2 d2 t r) by
            have h1 := HD.out; rw [HDA.out, HPS.out] at h1; injection h1 with h1 h2; exact ⟨h1, h2⟩)
          have n0 := nextI_pos v2 d2 t r (by omega) k2 k4 p2
          have n1 := nextI_hi v2 d2 t r k2 k4 p2
          have n2 := nextI_safe v2 d2 t r p0 k4
          obtain ⟨b1, o1, rfl, ltb, cj⟩ := HC.out wr HW.out j hlt
          rw [HX.out.1] at cj
          have n5 : nextI v2 d2 t r ≤ 200 := by omega
          have n6 := stopD_lo (nextI v2 d2 t r) r k4
          have HSD := Lib.hid (fun (n : Kept wr) => keptCall (implStopIn (nextI v2 d2 t r) r n.u (by omega) n5 k4 k5))
          have HX2 := Lib.hid HX.out.2
          have i0 : (0 : Int) ≤ (j : Int) := by omega
          have i1 : (j : Int) < (l2 : Int) := by omega
          have cjk := keptCell ltb cj
          clear n1 HPS HX HDA HC
          generalize nextI v2 d2 t r = x at *
          generalize stopD x r = y at *
          have o2 : IntKind.i64.wrap (x + y) = x + y := IntWalk.i64_in _ (by omega)
          have c9 : ¬ d2 < x + y := by omega
          have c8 : decide (d2 < x + y) = false := decide_eq_false c9
          go_wp2
          refine wp_region_kept (by kernel_rfl) (by kernel_rfl) ?_
          repeat (go_big_quiet_step ((go_at_call 15; exact HSD.out _)))
          refine wpQuiet_nil ?_
          rintro wq ⟨⟨_, Bq⟩, rfl⟩
          have HWq := Lib.hid (below_call HW.out Bq)
          have cq := (Bq.cell (p := ⟨b1, o1 + j, none⟩) ltb).trans cj
          clear cjk HSD Bq
          go_wp2
          go_roundw
          case rel => exact ⟨j + 1, d2 - x, x, by omega, by congr 1, rfl, by omega, by omega, by omega, n5, HX2, HWq⟩
          case measure => simp [intOf]; omega
        · obtain rfl : j = l2 := by omega
          have hz : d2 = 0 := by
            rcases Int.lt_or_le 0 d2 with h | h
            · have h1 := HD.out; rw [HS2.out, drop_all, profL_step t r v2 d2 k2 k4 p2 h] at h1; cases h1
            · omega
          subst hz
          clear HC
          cases h5 : ((j : Int) == 0) with
          | true =>
            go_wp2_with fail
            refine (alive _).mono ?_
            rintro e w' ⟨rfl, rfl⟩
            go_wp2
            go_ret
            exact ⟨rfl, below_call HB4.out HW.out⟩
          | false =>
            go_wp2_with fail
            refine (alive _).mono ?_
            rintro e w' ⟨rfl, rfl⟩
            go_wp2
            go_ret
            exact ⟨rfl, below_call HB4.out HW.out⟩
    · obtain rfl : l2 = 0 := by have h1 := HS2.out; rw [profV_out hin] at h1; exact h1
      clear HC
      go_wp2
      go_loop [7, 8] (fun s i => i = .int .i64 0 ∧ s = .int .i64 d) (fun _ _ => 0)
      case atStart => exact ⟨rfl, rfl⟩
      case round =>
        obtain ⟨rfl, rfl⟩ := hrel
        go_wp2_with fail
        refine (alive _).mono ?_
        rintro e w' ⟨rfl, rfl⟩
        go_wp2
        go_ret
        exact ⟨rfl, HB4.out⟩
end Go.Proofs.Ytcamnkoiddighaa
