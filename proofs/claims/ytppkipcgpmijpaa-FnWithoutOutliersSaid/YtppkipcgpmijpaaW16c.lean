/- The walks of the laws on pairs without outliers. -/
import Derived.Test.YtppkipcgpmijpaaD16
import Derived.Test.YtppkipcgpmijpaaW16a
import Derived.Test.YtppkipcgpmijpaaKApp
namespace Go.Proofs.Ytppkipcgpmijpaa
set_option maxRecDepth 100000
open Go.RowKit
attribute [local go_sem ↓] Go.wp_at_zero Go.wp_at_succ
theorem abs16 (n : Int) (w : World) (h0 : -1000000 ≤ n) (h1 : n ≤ 1000000) :
    Calls Try.prog 29 #[.int .i64 n] w fun e w' => e = .returned (.int .i64 (max n (-n))) ∧ w = w' := by
  have o1 : IntKind.i64.wrap (-n) = -n := IntWalk.i64_in _ (by omega)
  obtain ⟨m, hm⟩ : ∃ m : Int, max n (-n) = m := ⟨_, rfl⟩
  have HM := Lib.hid hm
  rw [hm]
  clear hm
  by_cases hn : n < 0
  · have HE := Lib.hid (show -n = m by have := HM.out; omega)
    go_enter Try.func29, Try.ntmps29
    go_wp2
    go_ret
    exact ⟨ret_int HE.out, rfl⟩
  · have HE := Lib.hid (show n = m by have := HM.out; omega)
    go_enter Try.func29, Try.ntmps29
    go_wp2
    go_ret
    exact ⟨ret_int HE.out, rfl⟩
set_option maxHeartbeats 4000000 in
theorem walkFnWithoutOutliers (w : World) (a : Option Addr) (len cap : Nat) (zs : List Int) (h : Bytes w a len cap zs) :
    Calls Try.prog 7 #[.slice a len cap] w fun e w' => e = .returned (.bool true) ∧ Below w.heap.size w w' := by
  have hle := h.len_le
  obtain ⟨hl, hm⟩ := hle
  unfold maxLen at hm
  obtain ⟨i0, hi0, hz0, hz1, hz2⟩ := info_parts Prr.infoPt6
  by_cases hbig : 1048576 < len
  · go_enter Try.func7, Try.ntmps7
    go_wp2
    go_ret
    exact ⟨rfl, Below.refl _ _⟩
  · go_enter Try.func7, Try.ntmps7
    go_wp2_with fail
    refine (drawWithoutOutliers w a len cap zs h).mono ?_
    rintro e w1 ⟨⟨sa, sl, sc⟩, L, lim, rfl, hsl, hn, hsm, hli, O, hb⟩
    have HB := Lib.hid hb
    have HN := Lib.hid (show sl = L.length from hsl)
    have HSM := Lib.hid hsm
    have hsl21 : sl ≤ 21 := by rw [HN.out]; exact hn
    have hcap : sl ≤ sc := by
      rcases O.2 with ⟨hv, _⟩ | ⟨g, c, cur, hv, _, _, hc, _⟩
      · simp only [Value.slice.injEq] at hv; omega
      · simp only [Value.slice.injEq] at hv; obtain ⟨_, e1, e2⟩ := hv; omega
    clear h hb hsl hn hsm
    have HI := Lib.hid (fun u (q : Prr.OwnPt u w.heap.size (.slice sa sl sc) L) => implWithoutOutliers sa sl sc L u lim q.ints (by omega) (by omega))
    have HS := Lib.hid (fun u (q : Prr.OwnPt u w.heap.size (.slice sa sl sc) L) => specWithoutOutliers sa sl sc L lim u q.ints (by omega))
    have HV := Lib.hid (fun u (q : Prr.OwnPt u w.heap.size (.slice sa sl sc) L) => specPairsValid sa sl sc L u q.ints (by omega))
    have hRl := outV_len L lim
    obtain ⟨R, hR⟩ : ∃ R, outV L lim = R := ⟨_, rfl⟩
    rw [hR] at HI HS hRl
    have HR := Lib.hid hR
    clear hR
    go_wp2_with fail
    refine (HI.out _ O).mono ?_
    rintro e u1 ⟨⟨oa, on, oc⟩, rfl, lo, OO, B1⟩
    replace O := O.next B1
    replace HB := Lib.hid (below_call HB.out B1)
    clear B1
    have HON := Lib.hid (show on = R.length from lo)
    clear lo
    have hon : on ≤ 20 := by rw [HON.out]; exact hRl
    go_wp2_with fail
    refine (HS.out _ O).mono ?_
    rintro e u2 ⟨⟨wa, wn, wc⟩, rfl, lw, OW, B2⟩
    replace O := O.next B2
    replace OO := OO.next B2
    replace HB := Lib.hid (below_call HB.out B2)
    clear B2
    obtain rfl : wn = on := by rw [show wn = R.length from lw, HON.out]
    clear HI HS lw
    have e1 : ((wn : Int) != (wn : Int)) = false := by simp
    by_cases hok : okPairs L
    rotate_left
    · rw [decide_eq_false hok] at HV
      have hz : wn = 0 := by rw [HON.out, ← HR.out, show outV L lim = [] from if_neg (fun q => hok q.1)]; rfl
      have e2 : ((wn : Int) == 0) = true := by rw [hz]; rfl
      clear hz
      clear hok
      go_wp2_with fail
      refine (HV.out _ O).mono ?_
      rintro e w' ⟨rfl, rfl⟩
      go_wp2_with fail
      refine (alive _).mono ?_
      rintro e w' ⟨rfl, rfl⟩
      go_wp2
      go_ret
      exact ⟨rfl, HB.out⟩
    rw [decide_eq_true hok] at HV
    by_cases hl0 : lim < 0
    · have hz : wn = 0 := by rw [HON.out, ← HR.out, show outV L lim = [] from if_neg (fun q => by have := q.2; omega)]; rfl
      have e2 : ((wn : Int) == 0) = true := by rw [hz]; rfl
      clear hz
      clear hok
      go_wp2_with fail
      refine (HV.out _ O).mono ?_
      rintro e w' ⟨rfl, rfl⟩
      go_wp2_with fail
      refine (alive _).mono ?_
      rintro e w' ⟨rfl, rfl⟩
      go_wp2
      go_ret
      exact ⟨rfl, HB.out⟩
    have hR2 : R = outR L (offN L) lim := by rw [← HR.out]; exact if_pos ⟨hok, by omega⟩
    have HF := Lib.hid (fun u (q : Prr.OwnPt u w.heap.size (.slice sa sl sc) L) => implFitOffset sa sl sc L u q.ints (by omega))
    rw [show offV L = offN L from if_pos hok] at HF
    have HI2 := Lib.hid (fun u (q : Prr.PtsAt u sa sl L) => implWithoutOutliers sa sl sc L u (lim + 1) q (by omega) (by omega))
    rw [show outV L (lim + 1) = outR L (offN L) (lim + 1) from if_pos ⟨hok, by omega⟩] at HI2
    have hob := offN_bd hok
    have hmore := outR_more L (offN L) lim
    have hml := outR_len L (offN L) (lim + 1)
    obtain ⟨o, ho⟩ : ∃ o, offN L = o := ⟨_, rfl⟩
    rw [ho] at hR2 HF HI2 hob hmore hml
    have HMO := Lib.hid (show R.length ≤ (outR L o (lim + 1)).length by rw [hR2]; exact hmore)
    have HML := Lib.hid (show (outR L o (lim + 1)).length ≤ 21 by have := HN.out; omega)
    have HRE := Lib.hid hR2
    have HOK := Lib.hid hok
    generalize outR L o (lim + 1) = R2 at *
    have o1 : IntKind.i64.wrap (lim + 1) = lim + 1 := wrap_in (by omega) (by omega)
    clear hR2 ho hmore hml hok hli
    go_wp2_with fail
    refine (HV.out _ O).mono ?_
    rintro e w' ⟨rfl, rfl⟩
    go_wp2_with fail
    refine (HF.out _ O).mono ?_
    rintro e u31 ⟨rfl, B31⟩
    replace O := O.next B31
    replace OO := OO.next B31
    replace OW := OW.next B31
    replace HB := Lib.hid (below_call HB.out B31)
    clear B31
    clear HV HF
    have PL := Lib.hid O.ints
    have PO := Lib.hid (Prr.OwnPt.ints OO)
    have PW := Lib.hid (Prr.OwnPt.ints OW)
    clear O OO OW
    go_wp2
    go_loopw [8, 9] (fun v iv wr => ∃ k : Nat, k ≤ sl ∧ iv = .int .i64 (k : Int) ∧ v = .int .i64 (((outR (L.take k) o lim).length : Nat) : Int) ∧ Hid (Prr.PtsAt wr sa sl L) ∧ Hid (Prr.PtsAt wr oa wn R) ∧ Hid (Prr.PtsAt wr wa wn R) ∧ Hid (Below w.heap.size w wr)) (fun _ iv _ => sl - (intOf iv).toNat)
    case atStart => exact ⟨0, Nat.zero_le _, rfl, rfl, PL, PO, PW, HB⟩
    case round =>
      obtain ⟨k, hk, rfl, rfl, HA, HO, HW, HBW⟩ := hrel
      clear PL PO PW HB
      by_cases hlt : k < sl
      · have hkL : k < L.length := by rw [← HN.out]; exact hlt
        have HNX := Lib.hid (outR_next (L := L) (o := o) (lim := lim) hkL)
        have HAT := Lib.hid (fun q => outR_at (L := L) (o := o) (lim := lim) hkL q)
        rw [← HRE.out] at HAT
        have hcx := okAt16 HOK.out hkL
        have hdb := dif_bd hcx
        obtain ⟨b, rfl, ltb, hc⟩ := HA.out.some (by omega)
        obtain ⟨d0, d1⟩ := hc k hlt
        have j1 : (0 : Int) ≤ (k : Int) := by omega
        have j2 : (k : Int) < (sl : Int) := by omega
        obtain ⟨c, hc2⟩ : ∃ c, L.getD k (0, 0) = c := ⟨_, rfl⟩
        rw [hc2] at d0 d1 hcx hdb HNX HAT
        have HC := Lib.hid hc2
        clear hc2
        obtain ⟨x, y⟩ := c
        simp only at d0 d1
        unfold okPair at hcx
        simp only at hcx
        rw [show dif (x, y) = y - x from rfl] at hdb
        obtain ⟨d, hd⟩ : ∃ d, y - x - o = d := ⟨_, rfl⟩
        have p1 : IntKind.i64.wrap (y - x) = y - x := wrap_in (by omega) (by omega)
        have p2 : IntKind.i64.wrap (y - x - o) = d := by rw [hd]; exact wrap_in (by omega) (by omega)
        have HKP := Lib.hid (show kpt o lim (x, y) = decide (max d (-d) ≤ lim) by unfold kpt; rw [show dif (x, y) - o = d from hd])
        have HAB := Lib.hid (fun (q : Kept wr) => keptSame (abs16 d q.u (by omega) (by omega)))
        generalize max d (-d) = ab at *
        obtain ⟨m, hm⟩ : ∃ m, (outR (L.take k) o lim).length = m := ⟨_, rfl⟩
        rw [hm] at HAT
        have HM := Lib.hid hm
        rw [hm]
        have kc0 := keptCell ltb d0
        have kc1 := keptCell ltb d1
        clear hc hdb hcx hd hkL hm
        go_upto_region 15 with fail
        refine wp_region_kept (by kernel_rfl) (by kernel_rfl) ?_
        repeat (go_big_quiet_step ((go_at_call 29; with_reducible exact HAB.out _)))
        refine wpQuiet_nil ?_
        rintro wx ⟨⟨_, K2⟩, rfl⟩
        have HA2 := Lib.hid (HA.out.next K2)
        have HO2 := Lib.hid (HO.out.next K2)
        have HW2 := Lib.hid (HW.out.next K2)
        have HB2 := Lib.hid (below_call HBW.out K2)
        clear K2 HA HO HW HBW kc0 kc1 d0 d1 HAB p1 p2
        by_cases hq : lim < ab
        · have HTK := Lib.hid (show (outR (L.take (k + 1)) o lim).length = m by rw [HNX.out, if_neg (by rw [HKP.out]; simp; omega), List.append_nil, HM.out])
          clear HNX HAT HKP HM
          go_wp2
          go_roundw
          case rel => exact ⟨k + 1, by omega, by congr 1, by rw [HTK.out], HA2, HO2, HW2, HB2⟩
          case measure => simp [intOf]; omega
        · have hkt : kpt o lim (x, y) = true := by rw [HKP.out]; simp; omega
          have HTK := Lib.hid (show (outR (L.take (k + 1)) o lim).length = m + 1 by rw [HNX.out, if_pos hkt, List.length_append, HM.out]; rfl)
          have hat := HAT.out hkt
          have hmR : m < wn := by rw [HON.out]; exact (List.getElem?_eq_some_iff.1 hat).1
          obtain ⟨bo, rfl, ltbo, hco⟩ := HO2.out.some (by omega)
          obtain ⟨bw, rfl, ltbw, hcw⟩ := HW2.out.some (by omega)
          obtain ⟨f0, f1⟩ := hco m hmR
          obtain ⟨g0, g1⟩ := hcw m hmR
          obtain ⟨b', hb', ltb2, hcl⟩ := HA2.out.some (by omega)
          injection hb' with hb'
          injection hb' with hb' _ _
          subst hb'
          obtain ⟨h0, h1⟩ := hcl k hlt
          have hg : R.getD m (0, 0) = (x, y) := by rw [List.getD_eq_getElem?_getD, hat]; rfl
          have hl : L.getD k (0, 0) = (x, y) := HC.out
          rw [hg] at f0 f1 g0 g1
          rw [hl] at h0 h1
          simp only at f0 f1 g0 g1 h0 h1
          have j3 : (0 : Int) ≤ (m : Int) := by omega
          have j4 : (m : Int) < (wn : Int) := by omega
          have j5 : ¬ ((wn : Int) ≤ (m : Int)) := by omega
          have j6 : decide ((wn : Int) ≤ (m : Int)) = false := decide_eq_false j5
          have p4 : (x != x) = false := by simp
          have p5 : (y != y) = false := by simp
          have hq2 : ab ≤ lim := by omega
          clear hq hkt hat hmR hco hcw hcl hg hl HC HKP HNX HAT HM
          go_upto_region 16 with fail
          have kc0 := keptCell ltb2 h0
          have kc1 := keptCell ltb2 h1
          have kc2 := keptCell ltbo f0
          have kc3 := keptCell ltbo f1
          have kc4 := keptCell ltbw g0
          have kc5 := keptCell ltbw g1
          refine wp_region_kept (by kernel_rfl) (by kernel_rfl) ?_
          repeat (go_big_quiet_step (fail))
          refine wpQuiet_nil ?_
          rintro wy ⟨⟨_, K3⟩, rfl⟩
          have HA3 := Lib.hid (HA2.out.next K3)
          have HO3 := Lib.hid (HO2.out.next K3)
          have HW3 := Lib.hid (HW2.out.next K3)
          have HB3 := Lib.hid (below_call HB2.out K3)
          clear K3 HA2 HO2 HW2 HB2 kc0 kc1 kc2 kc3 kc4 kc5 f0 f1 g0 g1 h0 h1
          go_wp2
          go_roundw
          case rel => exact ⟨k + 1, by omega, by congr 1, by rw [HTK.out]; congr 1, HA3, HO3, HW3, HB3⟩
          case measure => simp [intOf]; omega
      · obtain rfl : k = sl := by omega
        have hall : (outR (L.take k) o lim).length = wn := by rw [HON.out, HRE.out, show L.take k = L by rw [HN.out, List.take_length]]
        rw [hall]
        have e5 : ((wn : Int) == (wn : Int)) = true := by simp
        clear hall
        go_wp2_with fail
        refine (HI2.out _ HA.out).mono ?_
        rintro e v9 ⟨⟨ra, rn, rc⟩, rfl, lr, _, B9⟩
        have hr1 : wn ≤ rn := by rw [HON.out, show rn = R2.length from lr]; exact HMO.out
        have hr2 : rn ≤ 21 := by rw [show rn = R2.length from lr]; exact HML.out
        have j7 : (wn : Int) ≤ (rn : Int) := by omega
        have HB9 := Lib.hid (below_call HBW.out B9)
        clear B9 lr
        go_wp2
        go_ret
        exact ⟨rfl, HB9.out⟩
end Go.Proofs.Ytppkipcgpmijpaa
