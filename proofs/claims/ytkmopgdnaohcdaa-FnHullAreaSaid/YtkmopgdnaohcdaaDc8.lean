/- The document's ConvexMeet and DoubleArea. -/
import Derived.Test.YtkmopgdnaohcdaaZbDh
namespace Go.Proofs.Ytkmopgdnaohcdaa
set_option maxRecDepth 100000
open Go.RowKit
attribute [local go_sem ↓] Go.wp_at_zero Go.wp_at_succ
noncomputable instance decCM (ps qs : List P2) : Decidable (CMeet ps qs) := Classical.propDecidable _
/-- What the document's ConvexMeet asks. -/
def cmV (ps qs : List P2) : Prop := okCvx ps ∧ okCvx qs ∧ CMeet ps qs
noncomputable instance (ps qs : List P2) : Decidable (cmV ps qs) := Classical.propDecidable _
/-- Twice the area; 0 for other lists. -/
noncomputable def daV (ps : List P2) : Int := if okCvx ps then loopSum ps (0, 0) else 0
theorem daV_yes {ps : List P2} (h : okCvx ps) : daV ps = loopSum ps (0, 0) := if_pos h
theorem daV_no {ps : List P2} (h : ¬ okCvx ps) : daV ps = 0 := if_neg h
theorem fan_bd {ps : List P2} (hk : okPts ps) (h0 : 0 < ps.length) : ∀ m, m + 1 ≤ ps.length → -(800000000 * (m : Int)) ≤ fan ps (cor ps 0) m ∧ fan ps (cor ps 0) m ≤ 800000000 * (m : Int) := by
  intro m
  induction m with
  | zero => intro _; exact ⟨by simp [fan], by simp [fan]⟩
  | succ m ih =>
    intro h
    have i := ih (by omega)
    have c := cr_bd (hk.cor h0) (hk.cor (i := m) (by omega)) (hk.cor (i := m + 1) (by omega))
    unfold fan
    omega
theorem fan_full {ps : List P2} (_ : 2 ≤ ps.length) : fan ps (cor ps 0) (ps.length - 1) = loopSum ps (0, 0) := by
  rw [loopSum_move ps (0, 0) (cor ps 0)]
  unfold loopSum
  rw [cr_same3]; omega
theorem fan_one (ps : List P2) : fan ps (cor ps 0) 1 = 0 := by unfold fan; rw [cr_same]; simp [fan]
set_option maxHeartbeats 2000000 in
theorem specConvexMeet (a a2 : Option Addr) (len cap len2 cap2 : Nat) (ps qs : List P2) (w : World) (hp : PL w a len ps) (hl : len ≤ 9223372036854775807) (hq : PL w a2 len2 qs) (hl2 : len2 ≤ 9223372036854775807) :
    Calls Try.prog 39 #[.slice a len cap, .slice a2 len2 cap2] w fun e w' => e = .returned (.bool (decide (cmV ps qs))) ∧ Below w.heap.size w w' := by
  have HC1 := Lib.hid (specConvexValid a len cap ps w hp hl)
  have HP := Lib.hid hp
  have HQ := Lib.hid hq
  have HLE := Lib.hid hp.1
  have HLQ := Lib.hid hq.1
  have HC2 := Lib.hid (fun (u : World) (hu : Below w.heap.size w u) => specConvexValid a2 len2 cap2 qs u (HQ.out.next hu) hl2)
  clear hp hq
  by_cases k1 : okCvx ps
  rotate_left
  · have HV := Lib.hid (show false = decide (cmV ps qs) from (decide_eq_false fun h => k1 h.1).symm)
    rw [decide_eq_false k1] at HC1
    clear k1
    go_enter Try.func39, Try.ntmps39
    go_wp2_with fail
    refine HC1.out.mono ?_
    rintro e w1 ⟨rfl, B⟩
    have HB1 := Lib.hid B
    clear B
    go_wp2
    go_ret
    exact ⟨ret_bool HV.out, HB1.out⟩
  rw [decide_eq_true k1] at HC1
  by_cases k2 : okCvx qs
  rotate_left
  · have HV := Lib.hid (show false = decide (cmV ps qs) from (decide_eq_false fun h => k2 h.2.1).symm)
    rw [decide_eq_false k2] at HC2
    clear k1 k2
    go_enter Try.func39, Try.ntmps39
    go_wp2_with fail
    refine HC1.out.mono ?_
    rintro e w1 ⟨rfl, B⟩
    have HB1 := Lib.hid B
    clear B
    go_wp2_with fail
    refine (HC2.out _ HB1.out).mono ?_
    rintro e w2 ⟨rfl, B⟩
    have HB2 := Lib.hid (below_call HB1.out B)
    clear B
    go_wp2
    go_ret
    exact ⟨ret_bool HV.out, HB2.out⟩
  rw [decide_eq_true k2] at HC2
  have h3 : 3 ≤ len := by have := HLE.out; have := k1.1; omega
  have h8 : len ≤ 8 := by have := HLE.out; have := k1.2.1; omega
  have q3 : 3 ≤ len2 := by have := HLQ.out; have := k2.1; omega
  have q8 : len2 ≤ 8 := by have := HLQ.out; have := k2.2.1; omega
  have K1 := Lib.hid k1
  have K2 := Lib.hid k2
  clear k1 k2
  go_enter Try.func39, Try.ntmps39
  go_wp2_with fail
  refine HC1.out.mono ?_
  rintro e w1 ⟨rfl, B⟩
  have HB1 := Lib.hid B
  clear B
  go_wp2_with fail
  refine (HC2.out _ HB1.out).mono ?_
  rintro e w2 ⟨rfl, B⟩
  have HB2 := Lib.hid (below_call HB1.out B)
  clear B
  go_wp2
  go_loopw [5] (fun i wr => ∃ j : Nat, j ≤ len ∧ i = .int .i64 (j : Int) ∧ Hid (∀ k, k < j → ¬ Hit qs (cor ps k) (cor ps (nx ps k))) ∧ Hid (Below w.heap.size w wr)) (fun i _ => len - (intOf i).toNat)
  case atStart => exact ⟨0, Nat.zero_le _, rfl, Lib.hid (fun k hk => absurd hk (by omega)), HB2⟩
  case round =>
    obtain ⟨j, hj, rfl, HI, HW⟩ := hrel
    by_cases hlt : j < len
    · have HP3 := Lib.hid (HP.out.next HW.out)
      have HQ3 := Lib.hid (HQ.out.next HW.out)
      obtain ⟨b, o, rfl, lt, hc⟩ := HP3.out.somes (by omega)
      have HMD := Lib.hid (show ((j : Int) + 1).tmod (len : Int) = (nx ps j : Nat) ∧ nx ps j < len by
        rw [HLE.out] at hlt ⊢; exact ⟨tmod_nx ps j, nx_lt hlt⟩)
      have j1 : (0 : Int) ≤ (j : Int) := by omega
      have j2 : (j : Int) < (len : Int) := by omega
      have u1 := keptCell (b := b) (o := o + j * 2) lt (hc j hlt).1
      have u2 := keptCell (b := b) (o := o + j * 2 + 1) lt (hc j hlt).2
      have u3 := keptCell (b := b) (o := o + nx ps j * 2) lt (hc (nx ps j) HMD.out.2).1
      have u4 := keptCell (b := b) (o := o + nx ps j * 2 + 1) lt (hc (nx ps j) HMD.out.2).2
      have HC := Lib.hid (fun (u : World) (hu : Below wr.heap.size wr u) => l8HitC a2 len2 cap2 qs (cor ps j) (cor ps (nx ps j)) u (HQ3.out.next hu) (by omega) K2.out.2.2.1 (K1.out.2.2.1.cor (by rw [← HLE.out]; exact hlt)) (K1.out.2.2.1.cor (by rw [← HLE.out]; exact HMD.out.2)))
      have hmd := HMD.out.1
      have m1 : (0 : Int) ≤ (nx ps j : Int) := by omega
      have m2 : (nx ps j : Int) < (len : Int) := by have := HMD.out.2; omega
      have hne : ¬ len = 0 := by omega
      have hne2 : ¬ (len : Int) = 0 := by omega
      clear hc
      by_cases hs : Hit qs (cor ps j) (cor ps (nx ps j))
      · have HV := Lib.hid (show true = decide (cmV ps qs) from (decide_eq_true (p := cmV ps qs) ⟨K1.out, K2.out, .inl ⟨j, by rw [← HLE.out]; exact hlt, hs⟩⟩).symm)
        rw [decide_eq_true hs] at HC
        clear hs
        go_upto_region 6 with fail
        refine wp_region_ktail 13 (by kernel_rfl) (by kernel_rfl) ?_
        simp only [List.take_succ_cons, List.take_zero, List.drop_succ_cons, List.drop_zero]
        repeat (go_big_quiet_want; go_big_quiet_op; go_big_quiet_on)
        refine wpQuiet_nil ?_
        rintro w5 ⟨⟨_, K5⟩, rfl⟩
        have HB5 := Lib.hid (below_call HW.out K5)
        have HC5 := Lib.hid (HC.out w5 K5)
        clear u1 u2 u3 u4
        go_wp2_with fail
        refine HC5.out.mono ?_
        rintro e w6 ⟨rfl, B⟩
        have HB6 := Lib.hid (below_call HB5.out B)
        clear B
        go_wp2
        go_ret
        exact ⟨ret_bool HV.out, HB6.out⟩
      · have HI2 := Lib.hid (show ∀ k, k < j + 1 → ¬ Hit qs (cor ps k) (cor ps (nx ps k)) from fun k hk => by
          by_cases e : k = j
          · subst e; exact hs
          · exact HI.out k (by omega))
        rw [decide_eq_false hs] at HC
        clear hs
        go_upto_region 6 with fail
        refine wp_region_ktail 13 (by kernel_rfl) (by kernel_rfl) ?_
        simp only [List.take_succ_cons, List.take_zero, List.drop_succ_cons, List.drop_zero]
        repeat (go_big_quiet_want; go_big_quiet_op; go_big_quiet_on)
        refine wpQuiet_nil ?_
        rintro w5 ⟨⟨_, K5⟩, rfl⟩
        have HB5 := Lib.hid (below_call HW.out K5)
        have HC5 := Lib.hid (HC.out w5 K5)
        clear u1 u2 u3 u4
        go_wp2_with fail
        refine HC5.out.mono ?_
        rintro e w6 ⟨rfl, B⟩
        have HB6 := Lib.hid (below_call HB5.out B)
        clear B
        go_wp2
        go_roundw
        case rel => exact ⟨j + 1, by omega, by congr 1, HI2, HB6⟩
        case measure => simp [intOf]; omega
    · obtain rfl : j = len := by omega
      have HV := Lib.hid (show decide (Ins ps (cor qs 0)) = decide (cmV ps qs) from Bool.eq_iff_iff.2 (by
        simp only [decide_eq_true_eq]
        refine ⟨fun h => ⟨K1.out, K2.out, .inr h⟩, fun h => ?_⟩
        rcases h.2.2 with ⟨k, hk, hh⟩ | hh
        · exact absurd hh (HI.out k (by rw [HLE.out]; exact hk))
        · exact hh))
      have HQ3 := Lib.hid (HQ.out.next HW.out)
      obtain ⟨b, o, rfl, lt, hc⟩ := HQ3.out.somes (by omega)
      have d := hc 0 (by omega)
      rw [Nat.zero_mul, Nat.add_zero] at d
      obtain ⟨d1, d2⟩ := d
      have l0 : (0 : Int) < (len2 : Int) := by omega
      have HC := Lib.hid (l8InsideC a j cap ps (cor qs 0) wr (HP.out.next HW.out) (by omega) K1.out.2.2.1 (K2.out.2.2.1.cor (by have := K2.out.1; omega)))
      clear hc
      generalize decide (Ins ps (cor qs 0)) = bb at *
      generalize cor qs 0 = c at *
      go_wp2_with fail
      refine HC.out.mono ?_
      rintro e w6 ⟨rfl, B⟩
      have HB6 := Lib.hid (below_call HW.out B)
      clear B d1 d2
      go_wp2
      go_ret
      exact ⟨ret_bool HV.out, HB6.out⟩
set_option maxHeartbeats 2000000 in
theorem specDoubleArea (a : Option Addr) (len cap : Nat) (ps : List P2) (w : World) (hp : PL w a len ps) (hl : len ≤ 9223372036854775807) :
    Calls Try.prog 41 #[.slice a len cap] w fun e w' => e = .returned (.int .i64 (daV ps)) ∧ Below w.heap.size w w' := by
  have HC1 := Lib.hid (specConvexValid a len cap ps w hp hl)
  have HP := Lib.hid hp
  have HLE := Lib.hid hp.1
  clear hp
  by_cases k1 : okCvx ps
  rotate_left
  · have HV := Lib.hid (daV_no k1)
    rw [decide_eq_false k1] at HC1
    clear k1
    go_enter Try.func41, Try.ntmps41
    go_wp2_with fail
    refine HC1.out.mono ?_
    rintro e w1 ⟨rfl, B⟩
    have HB1 := Lib.hid B
    clear B
    go_wp2
    go_ret
    exact ⟨ret_int HV.out.symm, HB1.out⟩
  rw [decide_eq_true k1] at HC1
  have h3 : 3 ≤ len := by have := HLE.out; have := k1.1; omega
  have h8 : len ≤ 8 := by have := HLE.out; have := k1.2.1; omega
  have K1 := Lib.hid k1
  have HV := Lib.hid (show fan ps (cor ps 0) (len - 1) = daV ps by rw [daV_yes k1, HLE.out]; exact fan_full (by have := k1.1; omega))
  clear k1
  go_enter Try.func41, Try.ntmps41
  go_wp2_with fail
  refine HC1.out.mono ?_
  rintro e w1 ⟨rfl, B⟩
  have HB1 := Lib.hid B
  clear B
  go_wp2
  go_loopw [3, 4] (fun n i wr => ∃ j : Nat, 1 ≤ j ∧ j + 1 ≤ len ∧ i = .int .i64 (j : Int) ∧ n = .int .i64 (fan ps (cor ps 0) j) ∧ Hid (Below w.heap.size w wr)) (fun _ i _ => len - (intOf i).toNat)
  case atStart => exact ⟨1, Nat.le_refl _, by omega, rfl, by rw [fan_one], HB1⟩
  case round =>
    obtain ⟨j, hj1, hj, rfl, rfl, HW⟩ := hrel
    have hbd := fan_bd K1.out.2.2.1 (by have := K1.out.1; omega) j (by have := HLE.out; omega)
    have b1 : -8000000000 ≤ fan ps (cor ps 0) j := by omega
    have b2 : fan ps (cor ps 0) j ≤ 8000000000 := by omega
    clear hbd
    by_cases hlt : j + 1 < len
    · have HP3 := Lib.hid (HP.out.next HW.out)
      obtain ⟨b, o, rfl, lt, hc⟩ := HP3.out.somes (by omega)
      have j1 : (0 : Int) ≤ (j : Int) := by omega
      have j2 : (j : Int) + 1 < (len : Int) := by omega
      have j3 : (j : Int) < (len : Int) := by omega
      have j4 : (0 : Int) < (len : Int) := by omega
      have j5 : (0 : Int) ≤ (j : Int) + 1 := by omega
      have d := hc 0 (by omega)
      rw [Nat.zero_mul, Nat.add_zero] at d
      have u1 := keptCell (b := b) (o := o) lt d.1
      have u2 := keptCell (b := b) (o := o + 1) lt d.2
      have u3 := keptCell (b := b) (o := o + j * 2) lt (hc j (by omega)).1
      have u4 := keptCell (b := b) (o := o + j * 2 + 1) lt (hc j (by omega)).2
      have u5 := keptCell (b := b) (o := o + (j + 1) * 2) lt (hc (j + 1) hlt).1
      have u6 := keptCell (b := b) (o := o + (j + 1) * 2 + 1) lt (hc (j + 1) hlt).2
      have HC := Lib.hid (fun (q : Kept wr) => keptCall (crossC (cor ps 0) (cor ps j) (cor ps (j + 1)) q.u (K1.out.2.2.1.cor (by have := K1.out.1; omega)) (K1.out.2.2.1.cor (by have := HLE.out; omega)) (K1.out.2.2.1.cor (by have := HLE.out; omega))))
      have cb := cr_bd (K1.out.2.2.1.cor (i := 0) (by have := K1.out.1; omega)) (K1.out.2.2.1.cor (i := j) (by have := HLE.out; omega)) (K1.out.2.2.1.cor (i := j + 1) (by have := HLE.out; omega))
      obtain ⟨c1, c2⟩ := cb
      have HS := Lib.hid (show fan ps (cor ps 0) (j + 1) = fan ps (cor ps 0) j + cr (cor ps 0) (cor ps j) (cor ps (j + 1)) from rfl)
      clear hc d
      generalize cr (cor ps 0) (cor ps j) (cor ps (j + 1)) = c at *
      go_upto_region 7 with fail
      refine wp_region_kept (by kernel_rfl) (by kernel_rfl) ?_
      repeat (go_big_quiet_step ((go_at_call 75; with_reducible exact HC.out _)))
      refine wpQuiet_nil ?_
      rintro w5 ⟨⟨_, K2⟩, rfl⟩
      have HW5 := Lib.hid (below_call HW.out K2)
      clear u1 u2 u3 u4 u5 u6 HC
      go_wp2
      go_roundw
      case rel => exact ⟨j + 1, by omega, by omega, by congr 1, by rw [HS.out], HW5⟩
      case measure => simp [intOf]; omega
    · have e : j = len - 1 := by omega
      have j2 : ¬ (j : Int) + 1 < (len : Int) := by omega
      have HV2 := Lib.hid (show fan ps (cor ps 0) j = daV ps by rw [e]; exact HV.out)
      clear e
      go_wp2
      go_ret
      exact ⟨ret_int HV2.out, HW.out⟩
end Go.Proofs.Ytkmopgdnaohcdaa
