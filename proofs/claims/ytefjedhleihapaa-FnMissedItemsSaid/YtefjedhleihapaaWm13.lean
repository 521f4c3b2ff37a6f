/- The walk of the law on MissedItems. -/
import Derived.Test.YtefjedhleihapaaDj13
import Derived.Test.YtefjedhleihapaaCk13
import Derived.Test.YtefjedhleihapaaZbKt
namespace Go.Proofs.Ytefjedhleihapaa
set_option maxRecDepth 100000
open Go.RowKit
attribute [local go_sem ↓] Go.wp_at_zero Go.wp_at_succ
set_option maxHeartbeats 4000000 in
theorem walkFnMissedItems (w : World) (a : Option Addr) (len cap : Nat) (zs : List Int) (h : Bytes w a len cap zs) :
    Calls Try.prog 6 #[.slice a len cap] w fun e w' => e = .returned (.bool true) ∧ Below w.heap.size w w' := by
  have hle := h.len_le
  obtain ⟨hl, hm⟩ := hle
  unfold maxLen at hm
  by_cases hbig : 1048576 < len
  · go_enter Try.func6, Try.ntmps6
    go_wp2
    go_ret
    exact ⟨rfl, Below.refl _ _⟩
  · go_enter Try.func6, Try.ntmps6
    go_wp2_with fail
    refine (drawMissedItems w a len cap zs h).mono ?_
    rintro e w1 ⟨⟨sa, sl, sc⟩, L, s, lo, hi, rfl, hsl, hn, hlo, hhi, ho, hb⟩
    have HB := Lib.hid hb
    have HO := Lib.hid (Itm.OwnPt.ints ho)
    have HN := Lib.hid (show sl = L.length from hsl)
    have hsl16 : sl ≤ 16 := by rw [HN.out]; exact hn
    clear h hb ho hsl hn
    have HIM := Lib.hid (implMissedItems sa sl sc L s lo hi _ HO.out (by omega))
    have HSM := Lib.hid (fun u q => specMissedItems sa sl sc L s lo hi u (HO.out.next q) (by omega))
    by_cases hok : okItems L ∧ okConv s lo hi
    rotate_left
    · have e0 : missV L s lo hi = -1 := if_neg hok
      rw [e0] at HIM HSM
      clear hok e0
      go_wp2_with fail
      refine HIM.out.mono ?_
      rintro e w2 ⟨rfl, B2⟩
      have HB2 := Lib.hid (below_call HB.out B2)
      go_wp2_with fail
      refine (HSM.out _ B2).mono ?_
      rintro e w3 ⟨rfl, B3⟩
      have HB3 := Lib.hid (below_call HB2.out B3)
      clear B2 B3
      go_wp2_with fail
      refine (alive _).mono ?_
      rintro e w' ⟨rfl, rfl⟩
      go_wp2
      go_ret
      exact ⟨rfl, HB3.out⟩
    · obtain ⟨hI, hC⟩ := hok
      have hC2 : okConv s lo (hi + 1) := ⟨hC.1, hC.2.1, by have := hC.2.2.1; omega, by omega⟩
      have e0 : missV L s lo hi = (negs (planR s lo hi L 0) : Int) := if_pos ⟨hI, hC⟩
      have e1 : planV13 L s lo hi = planR s lo hi L 0 := if_pos ⟨hI, hC⟩
      have e2 : planV13 L s lo (hi + 1) = planR s lo (hi + 1) L 0 := if_pos ⟨hI, hC2⟩
      have hg0 := negs_le (planR s lo hi L 0)
      rw [planR_len, ← HN.out] at hg0
      have HW0 := Lib.hid (fun (q : 0 < sl) => show 0 ≤ (planR s lo hi L 0).getD 0 0 → 0 ≤ (planR s lo (hi + 1) L 0).getD 0 0 ∧ (planR s lo (hi + 1) L 0).getD 0 0 ≤ (planR s lo hi L 0).getD 0 0 from by
        rw [planR_at s lo hi L 0 0 (by rw [← HN.out]; exact q), planR_at s lo (hi + 1) L 0 0 (by rw [← HN.out]; exact q)]
        have r1 : rdyR s lo hi L 0 0 = 0 := by cases L <;> rfl
        have r2 : rdyR s lo (hi + 1) L 0 0 = 0 := by cases L <;> rfl
        rw [r1, r2]
        exact fun k => pick_wide (Int.le_refl _) k)
      have HP1 := Lib.hid (fun u q => implPickPlan sa sl sc L s lo hi u (HO.out.next q) (by omega))
      have HP2 := Lib.hid (fun u q => implPickPlan sa sl sc L s lo (hi + 1) u (HO.out.next q) (by omega))
      rw [e0] at HIM HSM
      rw [e1] at HP1
      rw [e2] at HP2
      have HZL := Lib.hid (show (planR s lo hi L 0).length = sl by rw [planR_len, HN.out])
      have HYL := Lib.hid (show (planR s lo (hi + 1) L 0).length = sl by rw [planR_len, HN.out])
      have oh : IntKind.i64.wrap (hi + 1) = hi + 1 := wrap_in (by omega) (by omega)
      clear hI hC hC2 e0 e1 e2 hlo HN
      generalize planR s lo hi L 0 = xs at *
      generalize planR s lo (hi + 1) L 0 = ys at *
      obtain ⟨n, hn⟩ : ∃ n, negs xs = n := ⟨_, rfl⟩
      rw [hn] at hg0 HIM HSM
      have HNE := Lib.hid hn
      have n0 : ¬ ((n : Int) < 0) := by omega
      have n1 : ((n : Int) != (n : Int)) = false := by simp
      have n2 : ((n : Int) == (n : Int)) = true := by simp
      have n3 : (n : Int) ≤ (sl : Int) := by omega
      clear hn
      go_wp2_with fail
      refine HIM.out.mono ?_
      rintro e w2 ⟨rfl, B2⟩
      have HB2 := Lib.hid (below_call HB.out B2)
      go_wp2_with fail
      refine (HSM.out _ B2).mono ?_
      rintro e w3 ⟨rfl, B3⟩
      have HB3 := Lib.hid (below_call HB2.out B3)
      have K3 := Lib.hid (below_call B2 B3)
      clear B2 B3 HIM HSM
      go_wp2_with fail
      refine (HP1.out _ K3.out).mono ?_
      rintro e w4 ⟨⟨pa, pl, pc⟩, rfl, hpl, O4, B4⟩
      have HB4 := Lib.hid (below_call HB3.out B4)
      have K4 := Lib.hid (below_call K3.out B4)
      have HI4 := Lib.hid (OwnI.ints O4)
      obtain rfl : pl = sl := by have := HZL.out; simp only at hpl; omega
      clear O4 B4 hpl HP1 K3
      go_wp2
      go_loop [9, 10] (fun mv iv => ∃ k : Nat, k ≤ pl ∧ mv = .int .i64 (negs (xs.take k) : Int) ∧ iv = .int .i64 (k : Int)) (fun _ iv => pl - (intOf iv).toNat)
      case atStart => exact ⟨0, Nat.zero_le _, rfl, rfl⟩
      case round =>
        obtain ⟨k, hk, rfl, rfl⟩ := hrel
        have HT0 := Lib.hid (show negs (xs.take k) ≤ 16 by have h1 := negs_le (xs.take k); rw [List.length_take] at h1; omega)
        by_cases hlt : k < pl
        · obtain ⟨g, off, rfl, ltg, hc⟩ := HI4.out.some (by omega)
          have d0 := hc k (by have := HZL.out; omega)
          have j1 : (0 : Int) ≤ (k : Int) := by omega
          have j2 : (k : Int) < (pl : Int) := by omega
          have HT := Lib.hid (negs_take (l := xs) (k := k) (by have := HZL.out; omega))
          obtain ⟨m, hm⟩ : ∃ m, negs (xs.take k) = m := ⟨_, rfl⟩
          rw [hm] at HT HT0
          rw [hm]
          have m8 := HT0.out
          have ow : IntKind.i64.wrap ((m : Int) + 1) = (m : Int) + 1 := wrap_in (by omega) (by omega)
          clear hc ltg hm
          generalize xs.getD k 0 = v at *
          by_cases hv : v < 0
          · have HT1 := HT.out
            rw [if_pos hv] at HT1
            replace HT1 := Lib.hid HT1
            clear HT
            go_wp2
            go_round
            case rel => exact ⟨k + 1, by omega, by rw [HT1.out]; congr 1, by congr 1⟩
            case measure => simp [intOf]; omega
          · have HT1 := HT.out
            rw [if_neg hv] at HT1
            replace HT1 := Lib.hid HT1
            clear HT
            go_wp2
            go_round
            case rel => exact ⟨k + 1, by omega, by rw [HT1.out]; rfl, by congr 1⟩
            case measure => simp [intOf]; omega
        · obtain rfl : k = pl := by omega
          have HTK := Lib.hid (show negs (xs.take k) = n by rw [List.take_of_length_le (by have := HZL.out; omega), HNE.out])
          rw [HTK.out]
          clear HT0 HTK
          go_wp2_with fail
          refine (HP2.out _ K4.out).mono ?_
          rintro e w5 ⟨⟨qa, ql, qc⟩, rfl, hql, O5, B5⟩
          have HB5 := Lib.hid (below_call HB4.out B5)
          have HI5 := Lib.hid (HI4.out.next B5)
          have HJ5 := Lib.hid (OwnI.ints O5)
          obtain rfl : ql = k := by have := HYL.out; simp only at hql; omega
          clear O5 B5 hql HP2 K4 HI4
          go_upto_region 17 with fail
          by_cases h0 : ql = 0
          · have e4 : ((ql : Int) == 0) = true := by rw [h0]; rfl
            clear h0
            refine wp_region_kept (by kernel_rfl) (by kernel_rfl) ?_
            repeat (go_big_quiet_step (fail))
            refine wpQuiet_nil ?_
            rintro w6 ⟨⟨_, K6⟩, rfl⟩
            have HW6 := Lib.hid (below_call HB5.out K6)
            clear K6
            go_wp2
            go_ret
            exact ⟨rfl, HW6.out⟩
          · have e4 : ((ql : Int) == 0) = false := by simp; omega
            obtain ⟨g, off, rfl, ltg, hc⟩ := HI5.out.some (by omega)
            obtain ⟨g2, off2, rfl, ltg2, hc2⟩ := HJ5.out.some (by omega)
            have d0 := hc 0 (by have := HZL.out; omega)
            have d1 := hc2 0 (by have := HYL.out; omega)
            have HX := Lib.hid (HW0.out (by omega))
            rw [Nat.add_zero] at d0 d1
            have D0 := keptCell ltg d0
            have D1 := keptCell ltg2 d1
            have j2 : (0 : Int) < (ql : Int) := by omega
            clear hc hc2 d0 d1
            generalize xs.getD 0 0 = v at *
            generalize ys.getD 0 0 = y at *
            by_cases hv : v < 0
            · clear HX
              refine wp_region_kept (by kernel_rfl) (by kernel_rfl) ?_
              repeat (go_big_quiet_step (fail))
              refine wpQuiet_nil ?_
              rintro w6 ⟨⟨_, K6⟩, rfl⟩
              have HW6 := Lib.hid (below_call HB5.out K6)
              clear K6
              go_wp2
              go_ret
              exact ⟨rfl, HW6.out⟩
            · obtain ⟨y0, y1⟩ := HX.out (by omega)
              clear HX
              refine wp_region_kept (by kernel_rfl) (by kernel_rfl) ?_
              repeat (go_big_quiet_step (fail))
              refine wpQuiet_nil ?_
              rintro w6 ⟨⟨_, K6⟩, rfl⟩
              have HW6 := Lib.hid (below_call HB5.out K6)
              clear K6
              go_wp2
              go_ret
              exact ⟨rfl, HW6.out⟩
end Go.Proofs.Ytefjedhleihapaa
