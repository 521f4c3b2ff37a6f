/- The conveyor: the program's arrival, pickTime, ItemsValid and PickTime. -/
import Derived.Test.YtddndafddleelaaCs13
namespace Go.Proofs.Ytddndafddleelaa
set_option maxRecDepth 100000
open Go.RowKit
attribute [local go_sem ↓] Go.wp_at_zero Go.wp_at_succ
/-- The one time that the program tries. -/
def firstT (p s lo r : Int) : Int := if 0 < s then max r (-(flo (p - lo) s)) else r
theorem pick_first {p s lo hi r : Int} (h : 0 ≤ r) (hs : 0 ≤ s) : pickV p s lo hi r = if firstT p s lo r ≤ 2000 ∧ inW p s lo hi (firstT p s lo r) then firstT p s lo r else -1 := by
  by_cases h0 : 0 < s
  · have e1 : flo (p - lo) s * s ≤ p - lo := Int.ediv_mul_le _ (by omega)
    have e2 : p - lo < (flo (p - lo) s + 1) * s := Int.lt_ediv_add_one_mul_self _ h0
    obtain ⟨f, hf⟩ : ∃ f, flo (p - lo) s = f := ⟨_, rfl⟩
    rw [hf] at e1 e2
    have a1 : lo ≤ p + s * (-f) := by rw [Int.mul_neg, Int.mul_comm]; omega
    have a2 : p + s * (-f - 1) < lo := by
      have : s * (-f - 1) = -((f + 1) * s) := by rw [show -f - 1 = -(f + 1) by omega, Int.mul_neg, Int.mul_comm]
      omega
    have e3 := pick_div (hi := hi) h h0 a1 a2
    simp only at e3
    rw [e3]
    unfold firstT
    rw [if_pos h0, hf]
    have em : max r (-f) = if r < -f then -f else r := by split <;> omega
    rw [em]
    obtain ⟨t, ht⟩ : ∃ t, (if r < -f then -f else r) = t := ⟨_, rfl⟩
    have hct : -f ≤ t := by rw [← ht]; split <;> omega
    rw [ht]
    have hm : s * (-f) ≤ s * t := Int.mul_le_mul_of_nonneg_left hct hs
    have hlo : lo ≤ p + s * t := by omega
    by_cases k : t ≤ 2000 ∧ p + s * t ≤ hi
    · rw [if_pos k, if_pos ⟨k.1, hlo, k.2⟩]
    · rw [if_neg k, if_neg (fun q => k ⟨q.1, q.2.2⟩)]
  · obtain rfl : s = 0 := by omega
    have e : firstT p 0 lo r = r := by unfold firstT; rw [if_neg h0]
    rw [e]
    by_cases h2 : r ≤ 2000
    · rw [pick_still h h2]
      unfold inW
      by_cases k : lo ≤ p ∧ p ≤ hi
      · rw [if_pos k, if_pos ⟨h2, by omega, by omega⟩]
      · rw [if_neg k, if_neg (fun q => k ⟨by have := q.2.1; omega, by have := q.2.2; omega⟩)]
    · rw [pick_over (by omega), if_neg (fun q => h2 q.1)]
theorem firstT_bd {p s lo r : Int} (hp : -10000 ≤ p ∧ p ≤ 10000) (hl : -10000 ≤ lo ∧ lo ≤ 10000) (hs : 0 ≤ s) (hr : 0 ≤ r ∧ r ≤ 2100) : 0 ≤ firstT p s lo r ∧ firstT p s lo r ≤ 20001 := by
  unfold firstT
  split
  · next h0 =>
    have e2 : p - lo < (flo (p - lo) s + 1) * s := Int.lt_ediv_add_one_mul_self _ h0
    rcases Int.lt_or_le (-20001) (flo (p - lo) s) with q | q
    · omega
    · have := Int.mul_le_mul_of_nonneg_left (show flo (p - lo) s + 1 ≤ -20000 by omega) hs
      rw [Int.mul_comm] at this
      omega
  · omega
theorem arrivalC (p s lo hi : Int) (w : World) (hp : -10000 ≤ p ∧ p ≤ 10000) (hl : -10000 ≤ lo ∧ lo ≤ 10000) (hs : 0 < s ∧ s ≤ 200) :
    Calls Try.prog 52 #[cv s lo hi, .int .i64 p] w fun e w' => e = .returned (.int .i64 (-(flo (p - lo) s))) ∧ Below w.heap.size w w' := by
  have HB := Lib.hid (below_box w (.cells #[.int .i64 s, .int .i64 lo, .int .i64 hi] 56))
  have o1 : IntKind.i64.wrap (p - lo) = p - lo := wrap_in (by omega) (by omega)
  obtain ⟨b0, b1⟩ := flo_bd (p - lo) s hs.1 (by omega) (by omega)
  have HF := Lib.hid (fun u => floorDivide (p - lo) s u hs.1 (by omega) (by omega) (by omega))
  generalize flo (p - lo) s = f at *
  have o2 : IntKind.i64.wrap (-f) = -f := wrap_in (by omega) (by omega)
  clear hp hl hs b0 b1
  go_enter Try.func52, Try.ntmps52
  go_wp2_with fail
  refine (HF.out _).mono ?_
  rintro e w' ⟨rfl, rfl⟩
  go_wp2
  go_ret
  exact ⟨rfl, HB.out⟩
set_option maxHeartbeats 1000000 in
theorem pickTimeC (p s lo hi r : Int) (w : World) (hp : -10000 ≤ p ∧ p ≤ 10000) (hC : okConv s lo hi) (hr : 0 ≤ r ∧ r ≤ 2100) :
    Calls Try.prog 43 #[cv s lo hi, .int .i64 p, .int .i64 r] w fun e w' => e = .returned (.int .i64 (pickV p s lo hi r)) ∧ Below w.heap.size w w' := by
  obtain ⟨v, hv⟩ : ∃ v, pickV p s lo hi r = v := ⟨_, rfl⟩
  have HV := Lib.hid (hv.symm.trans (pick_first hr.1 hC.1.1))
  rw [hv]
  clear hv
  have P1 := At3.new w s lo hi 56
  have HB1 := Lib.hid (below_box w (.cells #[.int .i64 s, .int .i64 lo, .int .i64 hi] 56))
  obtain ⟨t0, t1⟩ := firstT_bd hp hC.2.1 hC.1.1 hr (s := s)
  have HWH := Lib.hid (fun m u => windowHas s lo hi m u)
  have HS := Lib.hid hC.1
  by_cases hs : 0 < s
  · have HAR := Lib.hid (fun u => arrivalC p s lo hi u hp hC.2.1 ⟨hs, hC.1.2⟩)
    have HT := Lib.hid (show firstT p s lo r = max r (-(flo (p - lo) s)) from if_pos hs)
    generalize -(flo (p - lo) s) = c at *
    generalize firstT p s lo r = t at *
    go_enter Try.func43, Try.ntmps43
    go_wp2_with fail
    refine (HAR.out _).mono ?_
    rintro e w2 ⟨rfl, B2⟩
    have P2 := P1.next B2
    have HB2 := Lib.hid (below_call HB1.out B2)
    generalize w.alloc (.cells #[.int .i64 s, .int .i64 lo, .int .i64 hi] 56) = w1 at *
    clear P1 HB1 B2 HAR
    obtain ⟨lt, c0, c1, c2⟩ := P2
    have ht : t = if r < c then c else r := by rw [HT.out]; split <;> omega
    obtain ⟨m, hm⟩ : ∃ m, s * t = m := ⟨_, rfl⟩
    by_cases h2 : t ≤ 2000
    · have hb := place_small hp HS.out (t := t) ⟨by omega, by omega⟩
      rw [hm] at hb
      have o1 : IntKind.i64.wrap (s * t) = m := by rw [hm]; exact wrap_in (by omega) (by omega)
      have o2 : IntKind.i64.wrap (p + m) = p + m := wrap_in (by omega) (by omega)
      have HW := Lib.hid (HWH.out (p + m) w2)
      by_cases q : lo ≤ p + m ∧ p + m ≤ hi
      · have HE := Lib.hid (show t = v by rw [HV.out, if_pos ⟨h2, by unfold inW; rw [hm]; exact q⟩])
        rw [decide_eq_true q] at HW
        rcases Int.lt_or_le r c with k | k
        · obtain rfl : t = c := by rw [ht, if_pos k]
          clear ht HT HV hb hm hp hC hr q
          go_wp2_with fail
          refine HW.out.mono ?_
          rintro e w3 ⟨rfl, B3⟩
          have HB3 := Lib.hid (below_call HB2.out B3)
          clear B3
          go_wp2
          go_ret
          exact ⟨ret_int HE.out, HB3.out⟩
        · obtain rfl : t = r := by rw [ht, if_neg (by omega)]
          clear ht HT HV hb hm hp hC hr q
          go_wp2_with fail
          refine HW.out.mono ?_
          rintro e w3 ⟨rfl, B3⟩
          have HB3 := Lib.hid (below_call HB2.out B3)
          clear B3
          go_wp2
          go_ret
          exact ⟨ret_int HE.out, HB3.out⟩
      · have HE := Lib.hid (show -1 = v by rw [HV.out, if_neg (fun k => q (by have := k.2; unfold inW at this; rwa [hm] at this))])
        rw [decide_eq_false q] at HW
        rcases Int.lt_or_le r c with k | k
        · obtain rfl : t = c := by rw [ht, if_pos k]
          clear ht HT HV hb hm hp hC hr q
          go_wp2_with fail
          refine HW.out.mono ?_
          rintro e w3 ⟨rfl, B3⟩
          have HB3 := Lib.hid (below_call HB2.out B3)
          clear B3
          go_wp2
          go_ret
          exact ⟨ret_int HE.out, HB3.out⟩
        · obtain rfl : t = r := by rw [ht, if_neg (by omega)]
          clear ht HT HV hb hm hp hC hr q
          go_wp2_with fail
          refine HW.out.mono ?_
          rintro e w3 ⟨rfl, B3⟩
          have HB3 := Lib.hid (below_call HB2.out B3)
          clear B3
          go_wp2
          go_ret
          exact ⟨ret_int HE.out, HB3.out⟩
    · have HE := Lib.hid (show -1 = v by rw [HV.out, if_neg (fun k => h2 k.1)])
      rcases Int.lt_or_le r c with k | k
      · obtain rfl : t = c := by rw [ht, if_pos k]
        clear ht HT HV hm hp hC hr
        go_wp2
        go_ret
        exact ⟨ret_int HE.out, HB2.out⟩
      · obtain rfl : t = r := by rw [ht, if_neg (by omega)]
        clear ht HT HV hm hp hC hr
        go_wp2
        go_ret
        exact ⟨ret_int HE.out, HB2.out⟩
  · have HT := Lib.hid (show firstT p s lo r = r from if_neg hs)
    rw [HT.out] at HV
    clear HT t0 t1
    by_cases h2 : r ≤ 2000
    · obtain ⟨m, hm⟩ : ∃ m, s * r = m := ⟨_, rfl⟩
      have hb := place_small hp HS.out (t := r) ⟨by omega, by omega⟩
      rw [hm] at hb
      have o1 : IntKind.i64.wrap (s * r) = m := by rw [hm]; exact wrap_in (by omega) (by omega)
      have o2 : IntKind.i64.wrap (p + m) = p + m := wrap_in (by omega) (by omega)
      have HW := Lib.hid (HWH.out (p + m) (w.alloc (.cells #[.int .i64 s, .int .i64 lo, .int .i64 hi] 56)))
      clear hb
      by_cases q : lo ≤ p + m ∧ p + m ≤ hi
      · have HE := Lib.hid (show r = v by rw [HV.out, if_pos ⟨h2, by unfold inW; rw [hm]; exact q⟩])
        rw [decide_eq_true q] at HW
        clear HV hm hp hC hr q
        go_enter Try.func43, Try.ntmps43
        go_wp2_with fail
        refine HW.out.mono ?_
        rintro e w3 ⟨rfl, B3⟩
        have HB3 := Lib.hid (below_call HB1.out B3)
        clear B3
        go_wp2
        go_ret
        exact ⟨ret_int HE.out, HB3.out⟩
      · have HE := Lib.hid (show -1 = v by rw [HV.out, if_neg (fun k => q (by have := k.2; unfold inW at this; rwa [hm] at this))])
        rw [decide_eq_false q] at HW
        clear HV hm hp hC hr q
        go_enter Try.func43, Try.ntmps43
        go_wp2_with fail
        refine HW.out.mono ?_
        rintro e w3 ⟨rfl, B3⟩
        have HB3 := Lib.hid (below_call HB1.out B3)
        clear B3
        go_wp2
        go_ret
        exact ⟨ret_int HE.out, HB3.out⟩
    · have HE := Lib.hid (show -1 = v by rw [HV.out, if_neg (fun k => h2 k.1)])
      clear HV hC
      go_enter Try.func43, Try.ntmps43
      go_wp2
      go_ret
      exact ⟨ret_int HE.out, HB1.out⟩
set_option maxHeartbeats 1000000 in
theorem implItemsValid (a : Option Addr) (len cap : Nat) (L : List (Int × Int)) (w : World) (h : Itm.PtsAt w a len L) (hl : len ≤ 9223372036854775807) :
    Calls Try.prog 13 #[.slice a len cap] w fun e w' => e = .returned (.bool (decide (okItems L))) ∧ Below w.heap.size w w' := by
  have HN := Lib.hid h.1
  have HA := Lib.hid h
  clear h
  by_cases h8 : 8 < len
  · have HV := Lib.hid (show false = decide (okItems L) from (decide_eq_false fun q => by have := q.1; have := HN.out; omega).symm)
    have q8 : (8 : Int) < (len : Int) := by omega
    clear HA
    go_enter Try.func13, Try.ntmps13
    go_wp2
    go_ret
    exact ⟨ret_bool HV.out, Below.refl _ _⟩
  have q8 : ¬ (8 : Int) < (len : Int) := by omega
  go_enter Try.func13, Try.ntmps13
  go_wp2
  go_loopw [10] (fun i wr => ∃ k : Nat, k ≤ len ∧ i = .int .i64 (k : Int) ∧ Hid (okTo L k) ∧ Hid (Below w.heap.size w wr)) (fun i _ => len - (intOf i).toNat)
  case atStart => exact ⟨0, Nat.zero_le _, rfl, Lib.hid fun j hj => by omega, Lib.hid (Below.refl _ _)⟩
  case round =>
    obtain ⟨k, hk, rfl, HT, HW⟩ := hrel
    by_cases hlt : k < len
    · obtain ⟨b, rfl, ltb, hc⟩ := (HA.out.next HW.out).some (by omega)
      obtain ⟨d0, d1⟩ := hc k hlt
      have j1 : (0 : Int) ≤ (k : Int) := by omega
      have j2 : (k : Int) < (len : Int) := by omega
      have HX := Lib.hid (fun q => notItems (L := L) (k := k) (by rw [← HN.out]; exact hlt) q)
      have HM := Lib.hid (fun q => HT.out.more (k := k) q)
      clear hc ltb HT
      generalize L.getD k (0, 0) = c at *
      obtain ⟨x, y⟩ := c
      simp only at d0 d1
      have HQ := Lib.hid (fun u => itemValid x y u)
      have HB2 := Lib.hid (below_call HW.out (below_box wr (.cells #[.int .i64 x, .int .i64 y] 27)))
      by_cases hq : okItem (x, y)
      · rw [decide_eq_true hq] at HQ
        have HT2 := Lib.hid (HM.out hq)
        clear HX HM hq
        go_wp2_with fail
        refine (HQ.out _).mono ?_
        rintro e w3 ⟨rfl, B3⟩
        have HB3 := Lib.hid (below_call HB2.out B3)
        clear B3 d0 d1
        go_wp2
        go_roundw
        case rel => exact ⟨k + 1, by omega, by congr 1, HT2, HB3⟩
        case measure => simp [intOf]; omega
      · rw [decide_eq_false hq] at HQ
        have HV := Lib.hid (HX.out hq)
        clear HX HM hq
        go_wp2_with fail
        refine (HQ.out _).mono ?_
        rintro e w3 ⟨rfl, B3⟩
        have HB3 := Lib.hid (below_call HB2.out B3)
        clear B3 d0 d1
        go_wp2
        go_ret
        exact ⟨ret_bool HV.out, HB3.out⟩
    · obtain rfl : k = len := by omega
      have HV := Lib.hid (show true = decide (okItems L) from (decide_eq_true (p := okItems L) ⟨by have := HN.out; omega, okTo.all (by rw [← HN.out]; exact HT.out)⟩).symm)
      clear HT
      go_wp2
      go_ret
      exact ⟨ret_bool HV.out, HW.out⟩
set_option maxHeartbeats 1000000 in
theorem implPickTime (p s lo hi r : Int) (w : World) :
    Calls Try.prog 17 #[.int .i64 p, .int .i64 s, .int .i64 lo, .int .i64 hi, .int .i64 r] w fun e w' => e = .returned (.int .i64 (timeV p s lo hi r)) ∧ Below w.heap.size w w' := by
  have P1 := At3.new w s lo hi 56
  have HB1 := Lib.hid (below_box w (.cells #[.int .i64 s, .int .i64 lo, .int .i64 hi] 56))
  have HC := Lib.hid (convValid s lo hi (w.alloc (.cells #[.int .i64 s, .int .i64 lo, .int .i64 hi] 56)))
  by_cases h0 : okConv s lo hi
  rotate_left
  · have HV := Lib.hid (show -1 = timeV p s lo hi r from (if_neg (fun q => h0 q.1)).symm)
    rw [decide_eq_false h0] at HC
    clear h0 P1
    go_enter Try.func17, Try.ntmps17
    go_wp2_with fail
    refine HC.out.mono ?_
    rintro e w2 ⟨rfl, B2⟩
    have HB2 := Lib.hid (below_call HB1.out B2)
    clear B2
    go_wp2
    go_ret
    exact ⟨ret_int HV.out, HB2.out⟩
  rw [decide_eq_true h0] at HC
  by_cases h1 : -10000 ≤ p ∧ p ≤ 10000
  rotate_left
  · have HV := Lib.hid (show -1 = timeV p s lo hi r from (if_neg (fun q => h1 q.2.1)).symm)
    clear h0 P1
    go_enter Try.func17, Try.ntmps17
    go_wp2_with fail
    refine HC.out.mono ?_
    rintro e w2 ⟨rfl, B2⟩
    have HB2 := Lib.hid (below_call HB1.out B2)
    clear B2
    go_wp2_with fail
    refine (coordC_no p _ h1).mono ?_
    rintro e w' ⟨rfl, rfl⟩
    go_wp2
    go_ret
    exact ⟨ret_int HV.out, HB2.out⟩
  by_cases h2 : 0 ≤ r ∧ r ≤ 2000
  rotate_left
  · have HV := Lib.hid (show -1 = timeV p s lo hi r from (if_neg (fun q => h2 q.2.2)).symm)
    clear h0 P1
    go_enter Try.func17, Try.ntmps17
    go_wp2_with fail
    refine HC.out.mono ?_
    rintro e w2 ⟨rfl, B2⟩
    have HB2 := Lib.hid (below_call HB1.out B2)
    clear B2
    go_wp2_with fail
    refine (coordC_yes p _ h1).mono ?_
    rintro e w' ⟨rfl, rfl⟩
    go_wp2_with fail
    refine (timeC_no r _ h2).mono ?_
    rintro e w' ⟨rfl, rfl⟩
    go_wp2
    go_ret
    exact ⟨ret_int HV.out, HB2.out⟩
  have HV := Lib.hid (show pickV p s lo hi r = timeV p s lo hi r from (if_pos ⟨h0, h1, h2⟩).symm)
  have HP := Lib.hid (fun w => pickTimeC p s lo hi r w h1 h0 ⟨h2.1, by omega⟩)
  have H1 := Lib.hid (fun w => coordC_yes p w h1)
  have H2 := Lib.hid (fun w => timeC_yes r w h2)
  clear h0 h1 h2
  generalize pickV p s lo hi r = v at *
  go_enter Try.func17, Try.ntmps17
  go_wp2_with fail
  refine HC.out.mono ?_
  rintro e w2 ⟨rfl, B2⟩
  have HB2 := Lib.hid (below_call HB1.out B2)
  have P2 := P1.next B2
  generalize w.alloc (.cells #[.int .i64 s, .int .i64 lo, .int .i64 hi] 56) = w1 at *
  clear B2 P1 HB1 HC
  obtain ⟨lt, c0, c1, c2⟩ := P2
  go_wp2_with fail
  refine (H1.out _).mono ?_
  rintro e w' ⟨rfl, rfl⟩
  go_wp2_with fail
  refine (H2.out _).mono ?_
  rintro e w' ⟨rfl, rfl⟩
  go_wp2_with fail
  refine (HP.out _).mono ?_
  rintro e w3 ⟨rfl, B3⟩
  have HB3 := Lib.hid (below_call HB2.out B3)
  clear B3
  go_wp2
  go_ret
  exact ⟨ret_int HV.out, HB3.out⟩
end Go.Proofs.Ytddndafddleelaa
