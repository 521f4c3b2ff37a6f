/- The walk of the law FnHullOf: it returns true at every code. -/
import Derived.Test.YtkmopgdnaohcdaaWr8
import Derived.Test.YtkmopgdnaohcdaaWm8
namespace Go.Proofs.Ytkmopgdnaohcdaa
set_option maxRecDepth 100000
open Go.RowKit
attribute [local go_sem ↓] Go.wp_at_zero Go.wp_at_succ
/-- Whether the corner at m has come up among the first j points. -/
def Amg8 (m j : Nat) (v : Value) : Prop := ∃ c : Bool, v = .bool c ∧ (m < j → c = true)
theorem Amg8.any {m j : Nat} {v : Value} (h : Amg8 m j v) : ∃ c : Bool, v = .bool c ∧ (m < j → c = true) := h
theorem amg_yes (m j : Nat) : Amg8 m j (.bool true) := ⟨true, rfl, fun _ => rfl⟩
theorem amg_zero (m : Nat) : Amg8 m 0 (.bool false) := ⟨false, rfl, fun h => absurd h (by omega)⟩
theorem amg_no {m j : Nat} (h : m < j → false = true) (hne : m ≠ j) : Amg8 m (j + 1) (.bool false) := ⟨false, rfl, fun k => h (by omega)⟩
theorem hul_at {ps : List P2} {k : Nat} (hk : k < (hulV ps).length) : ∃ m, m < ps.length ∧ cor ps m = cor (hulV ps) k := mem_cor (hulV_sub _ (cor_mem hk))
set_option maxHeartbeats 4000000 in
theorem walkFnHullOf (w : World) (a : Option Addr) (len cap : Nat) (zs : List Int) (h : Bytes w a len cap zs) :
    Calls Try.prog 9 #[.slice a len cap] w fun e w' => e = .returned (.bool true) ∧ Below w.heap.size w w' := by
  have hle := h.len_le
  obtain ⟨hl, hm⟩ := hle
  unfold maxLen at hm
  by_cases hbig : 1048576 < len
  · go_enter Try.func9, Try.ntmps9
    go_wp2
    go_ret
    exact ⟨rfl, Below.refl _ _⟩
  · go_enter Try.func9, Try.ntmps9
    go_wp2_with fail
    refine (drawHullOf w a len cap zs h).mono ?_
    rintro e w1 ⟨⟨sa, sl, sc⟩, ps, rfl, P, hn, B1, hc⟩
    simp only at P hc
    have hsl : sl ≤ 16 := by have := P.1; omega
    have HB := Lib.hid B1
    have HP := Lib.hid P
    clear B1 P h hl hm hbig hc
    have HLN := Lib.hid (hulLen ps hn)
    go_wp2_with fail
    refine (implHullOf sa sl sc ps _ HP.out (by omega)).mono ?_
    rintro e w2 ⟨⟨ha, hl, hc⟩, rfl, hhl, O2, B2⟩
    replace HP := Lib.hid (HP.out.next B2)
    replace HB := Lib.hid (below_call HB.out B2)
    have HH : Hid (PtsAt w2 ha hl (hulV ps)) := Lib.hid (OwnPt.ints O2)
    have HHL : Hid (hl = (hulV ps).length) := Lib.hid hhl
    clear B2 O2 hhl
    go_wp2_with fail
    refine (specHullOf sa sl sc ps _ HP.out (by omega)).mono ?_
    rintro e w3 ⟨⟨ga, gl, gc⟩, rfl, hq3, O3, B3⟩
    replace HP := Lib.hid (HP.out.next B3)
    replace HB := Lib.hid (below_call HB.out B3)
    replace HH := Lib.hid (HH.out.next B3)
    have HG : Hid (PtsAt w3 ga gl (hulV ps)) := Lib.hid (OwnPt.ints O3)
    clear B3 O3 hq3
    have hl32 : hl ≤ 32 := by have := HHL.out; have := HLN.out; omega
    go_wp2_with fail
    refine (samePoints ha ga hl gl hc gc (hulV ps) _ HH.out HG.out (by omega)).mono ?_
    rintro e w4 ⟨rfl, B4⟩
    replace HP := Lib.hid (HP.out.next B4)
    replace HB := Lib.hid (below_call HB.out B4)
    replace HH := Lib.hid (HH.out.next B4)
    clear B4 HG
    by_cases h0 : hl = 0
    · have g0 : ((hl : Int) == 0) = true := by rw [h0]; rfl
      replace h0 := Lib.hid h0
      go_wp2_with fail
      refine (alive _).mono ?_
      rintro e w' ⟨rfl, rfl⟩
      go_wp2
      go_ret
      exact ⟨rfl, HB.out⟩
    · have g0 : ((hl : Int) == 0) = false := by simpa using h0
      by_cases h8 : hl ≤ 8
      · have g8 : decide ((hl : Int) > 8) = false := decide_eq_false (by omega)
        have HNE := Lib.hid (show hulV ps ≠ [] from fun e => h0 (by rw [HHL.out, e]; rfl))
        have HL8 := Lib.hid (show (hulV ps).length ≤ 8 by have := HHL.out; omega)
        have HCV := Lib.hid (hul_cvx HNE.out HL8.out)
        have HHH := Lib.hid (hul_hul HNE.out HL8.out)
        have HIN := Lib.hid (show ∀ j, j < ps.length → decide (insV (hulV ps) (cor ps j)) = true from fun j hj => decide_eq_true ⟨HCV.out, (hul_cases HNE.out).1.2 _ (cor_mem hj), hul_ins HNE.out (cor_mem hj)⟩)
        have HAT := Lib.hid (fun k (hk : k < (hulV ps).length) => hul_at hk)
        have s1 : 1 ≤ sl := by
          have := HP.out.1
          rcases Nat.lt_or_ge 0 ps.length with k | k
          · omega
          · exact absurd (show hulV ps = [] by rw [List.eq_nil_of_length_eq_zero (by omega : ps.length = 0), hulV_nil]) HNE.out
        obtain ⟨L, hL⟩ : ∃ L, hulV ps = L := ⟨_, rfl⟩
        rw [hL] at HCV HHH HIN HAT HH HHL HL8
        replace hL := Lib.hid hL
        have HHP : Hid (PtsAt w4 ha hl L) := Lib.hid HH.out
        obtain ⟨b, o, rfl, lt, hcell⟩ := HP.out.somes s1
        have HCL := Lib.hid hcell
        obtain ⟨b2, rfl, lt2, hcell2⟩ := HHP.out.some (by omega)
        have HCH := Lib.hid (show ∀ i, i < hl → w4.cell? ⟨b2, i * 2, none⟩ = some (.int .i64 (cor L i).1) ∧ w4.cell? ⟨b2, i * 2 + 1, none⟩ = some (.int .i64 (cor L i).2) from hcell2)
        have HLE := Lib.hid HP.out.1
        clear hcell hcell2 hn HNE HLN HH
        go_wp2
        go_loopw [5] (fun i wr => ∃ k : Nat, k ≤ hl ∧ i = .int .i64 (k : Int) ∧ Hid (Below w4.heap.size w4 wr)) (fun i _ => hl - (intOf i).toNat)
        case atStart => exact ⟨0, Nat.zero_le _, rfl, Lib.hid (Below.refl _ _)⟩
        case round =>
          obtain ⟨k, hk, rfl, HW⟩ := hrel
          by_cases hlt : k < hl
          · have j0 : (0 : Int) ≤ (k : Int) := by omega
            have j1 : (k : Int) < (hl : Int) := by omega
            obtain ⟨m, hm, hcm⟩ := HAT.out k (by rw [← HHL.out]; exact hlt)
            have HM := Lib.hid (And.intro hm hcm)
            clear hm hcm
            have HA0 := Lib.hid (amg_zero m)
            go_wp2
            go_loopw [6, 7] (fun y i wr2 => ∃ j : Nat, j ≤ sl ∧ i = .int .i64 (j : Int) ∧ Hid (Amg8 m j y) ∧ Hid (Below w4.heap.size w4 wr2)) (fun _ i _ => sl - (intOf i).toNat)
            case atStart => exact ⟨0, Nat.zero_le _, rfl, HA0, HW⟩
            case round =>
              obtain ⟨j, hj, rfl, HA, HV⟩ := hrel
              clear HA0 HW
              obtain ⟨c, rfl, HC⟩ := HA.out.any
              clear HA
              replace HC := Lib.hid HC
              by_cases hjt : j < sl
              · have i0 : (0 : Int) ≤ (j : Int) := by omega
                have i1 : (j : Int) < (sl : Int) := by omega
                have hb1 := Nat.lt_of_lt_of_le lt HV.out.size
                have hb2 := Nat.lt_of_lt_of_le lt2 HV.out.size
                have u1 := keptCell (b := b) (o := o + j * 2) hb1 ((HV.out.cell (p := ⟨b, o + j * 2, none⟩) lt).trans (HCL.out j hjt).1)
                have u2 := keptCell (b := b) (o := o + j * 2 + 1) hb1 ((HV.out.cell (p := ⟨b, o + j * 2 + 1, none⟩) lt).trans (HCL.out j hjt).2)
                have u3 := keptCell (b := b2) (o := k * 2) hb2 ((HV.out.cell (p := ⟨b2, k * 2, none⟩) lt2).trans (HCH.out k hlt).1)
                have u4 := keptCell (b := b2) (o := k * 2 + 1) hb2 ((HV.out.cell (p := ⟨b2, k * 2 + 1, none⟩) lt2).trans (HCH.out k hlt).2)
                clear hb1 hb2
                cases c
                · by_cases he : cor ps j = cor L k
                  · have hb := eqT8 he
                    have HN := Lib.hid (amg_yes m (j + 1))
                    clear he HC
                    generalize cor ps j = x at *
                    generalize cor L k = y at *
                    go_upto_region 16 with fail
                    refine wp_region_kept (by kernel_rfl) (by kernel_rfl) ?_
                    repeat (go_big_quiet_step (fail))
                    refine wpQuiet_nil ?_
                    rintro w9 ⟨⟨_, K9⟩, rfl⟩
                    replace HV := Lib.hid (below_call HV.out K9)
                    clear u1 u2 u3 u4 K9 hb
                    go_wp2
                    go_roundw
                    case rel => exact ⟨j + 1, by omega, by congr 1, HN, HV⟩
                    case measure => simp [intOf]; omega
                  · have hb := eqF8 he
                    have HN := Lib.hid (amg_no HC.out (fun e => he (by rw [← e]; exact HM.out.2)))
                    clear he HC
                    generalize cor ps j = x at *
                    generalize cor L k = y at *
                    go_upto_region 16 with fail
                    refine wp_region_kept (by kernel_rfl) (by kernel_rfl) ?_
                    repeat (go_big_quiet_step (fail))
                    refine wpQuiet_nil ?_
                    rintro w9 ⟨⟨_, K9⟩, rfl⟩
                    replace HV := Lib.hid (below_call HV.out K9)
                    clear u1 u2 u3 u4 K9 hb
                    go_wp2
                    go_roundw
                    case rel => exact ⟨j + 1, by omega, by congr 1, HN, HV⟩
                    case measure => simp [intOf]; omega
                · have HN := Lib.hid (amg_yes m (j + 1))
                  clear HC
                  go_upto_region 16 with fail
                  refine wp_region_kept (by kernel_rfl) (by kernel_rfl) ?_
                  repeat (go_big_quiet_step (fail))
                  refine wpQuiet_nil ?_
                  rintro w9 ⟨⟨_, K9⟩, rfl⟩
                  replace HV := Lib.hid (below_call HV.out K9)
                  clear u1 u2 u3 u4 K9
                  go_wp2
                  go_roundw
                  case rel => exact ⟨j + 1, by omega, by congr 1, HN, HV⟩
                  case measure => simp [intOf]; omega
              · obtain rfl : j = sl := by omega
                have hct : c = true := HC.out (by have := HM.out.1; have := HLE.out; omega)
                subst hct
                clear HC
                go_wp2
                go_roundw
                case rel => exact ⟨k + 1, by omega, by congr 1, HV⟩
                case measure => simp [intOf]; omega
          · obtain rfl : k = hl := by omega
            clear HAT
            have HP5 := Lib.hid (HP.out.next HW.out)
            have HH5 := Lib.hid (HHP.out.next HW.out)
            have HB5 := Lib.hid (below_call HB.out HW.out)
            clear HP HHP HB
            go_wp2
            go_loopw [8] (fun i wr2 => ∃ j : Nat, j ≤ sl ∧ i = .int .i64 (j : Int) ∧ Hid (Below w4.heap.size w4 wr2) ∧ Hid (Below wr.heap.size wr wr2)) (fun i _ => sl - (intOf i).toNat)
            case atStart => exact ⟨0, Nat.zero_le _, rfl, HW, Lib.hid (Below.refl _ _)⟩
            case round =>
              obtain ⟨j, hj, rfl, HV, HY⟩ := hrel
              by_cases hjt : j < sl
              · have i0 : (0 : Int) ≤ (j : Int) := by omega
                have i1 : (j : Int) < (sl : Int) := by omega
                have d0 := (HV.out.cell (p := ⟨b, o + j * 2, none⟩) lt).trans (HCL.out j hjt).1
                have d1 := (HV.out.cell (p := ⟨b, o + j * 2 + 1, none⟩) lt).trans (HCL.out j hjt).2
                have HI := Lib.hid (HIN.out j (by rw [← HLE.out]; exact hjt))
                generalize cor ps j = x at *
                go_wp2_with fail
                refine (iInsV _ k hc L x true HI.out _ (HH5.out.next HY.out).pl (by omega)).mono ?_
                rintro e w9 ⟨rfl, B⟩
                replace HV := Lib.hid (below_call HV.out B)
                replace HY := Lib.hid (below_call HY.out B)
                clear B d0 d1
                go_wp2
                go_roundw
                case rel => exact ⟨j + 1, by omega, by congr 1, HV, HY⟩
                case measure => simp [intOf]; omega
              · obtain rfl : j = sl := by omega
                have HH6 := Lib.hid (HH5.out.next HY.out)
                have HB6 := Lib.hid (below_call HB5.out HY.out)
                clear HH5 HB5 HP5 HCL HCH HV HY HW
                go_wp2_with fail
                refine (iCvxV _ k hc L true (decide_eq_true HCV.out) _ HH6.out.pl (by omega)).mono ?_
                rintro e w9 ⟨rfl, B⟩
                replace HH6 := Lib.hid (HH6.out.next B)
                replace HB6 := Lib.hid (below_call HB6.out B)
                clear B
                go_wp2_with fail
                refine (implHullOf _ k hc L _ HH6.out.pl (by omega)).mono ?_
                rw [HHH.out]
                rintro e w10 ⟨⟨ta, tl, tc⟩, rfl, hq, O, B⟩
                replace HH6 := Lib.hid (HH6.out.next B)
                replace HB6 := Lib.hid (below_call HB6.out B)
                have HT : Hid (PtsAt w10 ta tl L) := Lib.hid (OwnPt.ints O)
                have tl8 : tl ≤ 8 := by have := HT.out.1; have := HL8.out; omega
                clear O B hq
                go_wp2_with fail
                refine (samePoints _ _ tl k tc hc L _ HT.out HH6.out (by omega)).mono ?_
                rintro e w11 ⟨rfl, B⟩
                replace HB6 := Lib.hid (below_call HB6.out B)
                clear B
                go_wp2
                go_ret
                exact ⟨rfl, HB6.out⟩
      · have g8 : decide ((hl : Int) > 8) = true := decide_eq_true (by omega)
        go_wp2_with fail
        refine (alive _).mono ?_
        rintro e w' ⟨rfl, rfl⟩
        go_wp2
        go_ret
        exact ⟨rfl, HB.out⟩
end Go.Proofs.Ytkmopgdnaohcdaa
