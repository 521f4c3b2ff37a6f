/- Pairs: the program's functions. -/
import Derived.Test.YtppkipcgpmijpaaCi16a
namespace Go.Proofs.Ytppkipcgpmijpaa
set_option maxRecDepth 100000
open Go.RowKit
attribute [local go_sem ↓] Go.wp_at_zero Go.wp_at_succ
set_option maxHeartbeats 1000000 in
theorem in_implPairsValid (a : Option Addr) (len cap : Nat) (L : List (Int × Int)) (w : World) (h : Prr.PtsIn w a len L) (hl : len ≤ 9223372036854775807) :
    Calls Try.prog 14 #[.slice a len cap] w fun e w' => e = .returned (.bool (decide (okPairs L))) ∧ Below w.heap.size w w' := by
  have HN := Lib.hid h.1
  have HA := Lib.hid h
  clear h
  by_cases h1 : len < 1
  · have HV := Lib.hid (show false = decide (okPairs L) from (decide_eq_false fun q => by have := q.1; have := HN.out; omega).symm)
    have q8 : (len : Int) < 1 := by omega
    clear HA
    go_enter Try.func14, Try.ntmps14
    go_wp2
    go_ret
    exact ⟨ret_bool HV.out, Below.refl _ _⟩
  have q1 : ¬ (len : Int) < 1 := by omega
  by_cases h8 : 20 < len
  · have HV := Lib.hid (show false = decide (okPairs L) from (decide_eq_false fun q => by have := q.1; have := HN.out; omega).symm)
    have q8 : (20 : Int) < (len : Int) := by omega
    clear HA
    go_enter Try.func14, Try.ntmps14
    go_wp2
    go_ret
    exact ⟨ret_bool HV.out, Below.refl _ _⟩
  have q8 : ¬ (20 : Int) < (len : Int) := by omega
  go_enter Try.func14, Try.ntmps14
  go_wp2
  go_loopw [15] (fun i wr => ∃ k : Nat, k ≤ len ∧ i = .int .i64 (k : Int) ∧ Hid (okTo16 L k) ∧ Hid (Below w.heap.size w wr)) (fun i _ => len - (intOf i).toNat)
  case atStart => exact ⟨0, Nat.zero_le _, rfl, Lib.hid fun j hj => by omega, Lib.hid (Below.refl _ _)⟩
  case round =>
    obtain ⟨k, hk, rfl, HT, HW⟩ := hrel
    by_cases hlt : k < len
    · obtain ⟨b, off, rfl, ltb, hc⟩ := (HA.out.nxt16 HW.out).some (by omega)
      obtain ⟨d0, d1⟩ := hc k hlt
      have j1 : (0 : Int) ≤ (k : Int) := by omega
      have j2 : (k : Int) < (len : Int) := by omega
      have HX := Lib.hid (fun q => notPairs (L := L) (k := k) (by rw [← HN.out]; exact hlt) q)
      have HM := Lib.hid (fun q => HT.out.more (k := k) q)
      clear hc ltb HT
      generalize L.getD k (0, 0) = c at *
      obtain ⟨x, y⟩ := c
      simp only at d0 d1
      have HQ := Lib.hid (fun u => pairValidM x y u)
      have HB2 := Lib.hid (below_call HW.out (below_box wr (.cells #[.int .i64 x, .int .i64 y] 27)))
      by_cases hq : okPair (x, y)
      · rw [decide_eq_true hq] at HQ
        have HT2 := Lib.hid (HM.out hq)
        clear HX HM hq
        go_wp2_with fail
        refine (HQ.out _).mono ?_
        rintro e w3 ⟨rfl, B3⟩
        have HB3 := Lib.hid (below_call HB2.out B3)
        clear B3 d0 d1
        go_wp2
        go_roundw
        case rel => exact ⟨k + 1, by omega, by congr 1, HT2, HB3⟩
        case measure => simp [intOf]; omega
      · rw [decide_eq_false hq] at HQ
        have HV := Lib.hid (HX.out hq)
        clear HX HM hq
        go_wp2_with fail
        refine (HQ.out _).mono ?_
        rintro e w3 ⟨rfl, B3⟩
        have HB3 := Lib.hid (below_call HB2.out B3)
        clear B3 d0 d1
        go_wp2
        go_ret
        exact ⟨ret_bool HV.out, HB3.out⟩
    · obtain rfl : k = len := by omega
      have HV := Lib.hid (show true = decide (okPairs L) from (decide_eq_true (p := okPairs L) ⟨by have := HN.out; omega, okTo16.all (by rw [← HN.out]; exact HT.out)⟩).symm)
      clear HT
      go_wp2
      go_ret
      exact ⟨ret_bool HV.out, HW.out⟩
set_option maxHeartbeats 4000000 in
theorem in_implFitOffset (a : Option Addr) (len cap : Nat) (L : List (Int × Int)) (w : World) (h : Prr.PtsIn w a len L) (hl : len ≤ 9223372036854775807) :
    Calls Try.prog 17 #[.slice a len cap] w (fun e w' => e = .returned (.int .i64 (offV L)) ∧ Below w.heap.size w w') := by
  have HP := Lib.hid (in_implPairsValid a len cap L w h hl)
  by_cases h0 : okPairs L
  rotate_left
  · have HP := Lib.hid (no14 HP.out h0)
    rw [show offV L = 0 from if_neg h0]
    clear h0 h
    go_enter Try.func17, Try.ntmps17
    go_wp2_with fail
    refine HP.out.mono ?_
    rintro e w2 ⟨rfl, B2⟩
    have HB2 := Lib.hid B2
    clear B2
    go_wp2
    go_ret
    exact ⟨rfl, HB2.out⟩
  have HP := Lib.hid (yes14 HP.out h0)
  rw [show offV L = offN L from if_pos h0]
  have HOK := Lib.hid h0
  have HN := Lib.hid h.1
  have HA := Lib.hid h
  have hln := h0.1
  rw [← h.1] at hln
  have hall : L.take L.length = L := List.take_length
  obtain ⟨s1, s2, s3, s4⟩ := sums_small h0 L.length
  rw [hall] at s1 s2 s3 s4
  have hoff : flo (2 * (sy L - sx L) + (len : Int)) (2 * (len : Int)) = offN L := by unfold offN; rw [dif_sum, h.1]
  have HO := Lib.hid (fun u => offsetM (len : Int) (sx L) (sy L) (sxx L) (sxy L) u (by omega) s1 s2)
  rw [hoff] at HO
  generalize offN L = o at *
  clear h0 h hall hoff s1 s2 s3 s4 hln
  go_enter Try.func17, Try.ntmps17
  go_wp2_with fail
  refine HP.out.mono ?_
  rintro e w2 ⟨rfl, B2⟩
  have HB2 := Lib.hid B2
  clear B2
  have HS2 := Lib.hid (sumsOfM a len cap L w2 (HA.out.nxt16 HB2.out) HOK.out)
  generalize sx L = vx at *
  generalize sy L = vy at *
  generalize sxx L = vp at *
  generalize sxy L = vq at *
  go_wp2_with fail
  refine HS2.out.mono ?_
  rintro e w3 ⟨rfl, B3⟩
  have HB3 := Lib.hid (below_call HB2.out B3)
  clear B3 HS2 HB2
  go_wp2_with fail
  refine (HO.out _).mono ?_
  rintro e w4 ⟨rfl, B4⟩
  have HB4 := Lib.hid (below_call HB3.out B4)
  clear B4 HB3
  go_wp2
  go_ret
  exact ⟨rfl, HB4.out⟩
set_option maxHeartbeats 4000000 in
theorem in_implFitSlope (a : Option Addr) (len cap : Nat) (L : List (Int × Int)) (w : World) (h : Prr.PtsIn w a len L) (hl : len ≤ 9223372036854775807) :
    Calls Try.prog 24 #[.slice a len cap] w (fun e w' => e = .returned (.tuple #[.int .i64 (slpA L), .int .i64 (slpB L)]) ∧ Below w.heap.size w w') := by
  have HP := Lib.hid (in_implPairsValid a len cap L w h hl)
  by_cases h0 : okPairs L
  rotate_left
  · have HP := Lib.hid (no14 HP.out h0)
    rw [show slpA L = 0 from if_neg (fun q => h0 q.1), show slpB L = 0 from if_neg (fun q => h0 q.1)]
    clear h0 h
    go_enter Try.func24, Try.ntmps24
    go_wp2_with fail
    refine HP.out.mono ?_
    rintro e w2 ⟨rfl, B2⟩
    have HB2 := Lib.hid B2
    clear B2
    go_wp2
    exact bodyPost_ret (v := .tuple #[.int .i64 0, .int .i64 0]) (by simp [results, Try.results24, go_sem]) rfl ⟨rfl, HB2.out⟩
  have HP := Lib.hid (yes14 HP.out h0)
  have HOK := Lib.hid h0
  have HN := Lib.hid h.1
  have HA := Lib.hid h
  have hln := h0.1
  rw [← h.1] at hln
  have hall : L.take L.length = L := List.take_length
  obtain ⟨s1, s2, s3, s4⟩ := sums_small h0 L.length
  rw [hall] at s1 s2 s3 s4
  have hnum : numN L = (len : Int) * sxy L - sx L * sy L := by unfold numN; rw [← h.1]
  have hden : denN L = (len : Int) * sxx L - sx L * sx L := by unfold denN; rw [← h.1]
  have hd0 := denN_nonneg L
  rw [hden] at hd0
  have hra : (len : Int) * sxx L - sx L * sx L ≠ 0 → slpA L = ((len : Int) * sxy L - sx L * sy L) / gcdI ((len : Int) * sxy L - sx L * sy L) ((len : Int) * sxx L - sx L * sx L) ∧ slpB L = ((len : Int) * sxx L - sx L * sx L) / gcdI ((len : Int) * sxy L - sx L * sy L) ((len : Int) * sxx L - sx L * sx L) := fun q => by
    rw [← hden] at q ⊢
    rw [← hnum]
    exact ⟨if_pos ⟨h0, q⟩, if_pos ⟨h0, q⟩⟩
  have hrz : (len : Int) * sxx L - sx L * sx L = 0 → slpA L = 0 ∧ slpB L = 0 := fun q => by
    rw [← hden] at q
    exact ⟨if_neg (fun k => k.2 q), if_neg (fun k => k.2 q)⟩
  have HO := Lib.hid (fun u => slopeM (len : Int) (sx L) (sy L) (sxx L) (sxy L) u (by omega) s1 s2 s4 s3 hd0 (slpA L) (slpB L) hra hrz)
  generalize slpA L = ra at *
  generalize slpB L = rb at *
  clear h0 h hall hnum hden hd0 hra hrz s1 s2 s3 s4 hln
  go_enter Try.func24, Try.ntmps24
  go_wp2_with fail
  refine HP.out.mono ?_
  rintro e w2 ⟨rfl, B2⟩
  have HB2 := Lib.hid B2
  clear B2
  have HS2 := Lib.hid (sumsOfM a len cap L w2 (HA.out.nxt16 HB2.out) HOK.out)
  generalize sx L = vx at *
  generalize sy L = vy at *
  generalize sxx L = vp at *
  generalize sxy L = vq at *
  go_wp2_with fail
  refine HS2.out.mono ?_
  rintro e w3 ⟨rfl, B3⟩
  have HB3 := Lib.hid (below_call HB2.out B3)
  clear B3 HS2 HB2
  go_wp2_with fail
  refine (HO.out _).mono ?_
  rintro e w4 ⟨rfl, B4⟩
  have HB4 := Lib.hid (below_call HB3.out B4)
  clear B4 HB3
  go_wp2
  exact bodyPost_ret (v := .tuple #[.int .i64 ra, .int .i64 rb]) (by simp [results, Try.results24, go_sem]) rfl ⟨rfl, HB4.out⟩
set_option maxHeartbeats 4000000 in
theorem in_implOffsetError (a : Option Addr) (len cap : Nat) (L : List (Int × Int)) (w : World) (o : Int) (h : Prr.PtsIn w a len L) (hl : len ≤ 9223372036854775807) :
    Calls Try.prog 20 #[.slice a len cap, .int .i64 o] w (fun e w' => e = .returned (.int .i64 (errV L o)) ∧ Below w.heap.size w w') := by
  have HP := Lib.hid (in_implPairsValid a len cap L w h hl)
  by_cases h0 : okPairs L
  rotate_left
  · have HP := Lib.hid (no14 HP.out h0)
    rw [show errV L o = -1 from if_neg (fun q => h0 q.1)]
    clear h0 h
    go_enter Try.func20, Try.ntmps20
    go_wp2_with fail
    refine HP.out.mono ?_
    rintro e w2 ⟨rfl, B2⟩
    have HB2 := Lib.hid B2
    clear B2
    go_wp2
    go_ret
    exact ⟨rfl, HB2.out⟩
  have HP := Lib.hid (yes14 HP.out h0)
  by_cases h1 : -2000 ≤ o ∧ o ≤ 2000
  rotate_left
  · rw [show errV L o = -1 from if_neg (fun q => h1 q.2)]
    clear h0 h
    go_enter Try.func20, Try.ntmps20
    go_wp2_with fail
    refine HP.out.mono ?_
    rintro e w2 ⟨rfl, B2⟩
    have HB2 := Lib.hid B2
    clear B2
    go_wp2_with fail
    refine (offC_no o _ h1).mono ?_
    rintro e w' ⟨rfl, rfl⟩
    go_wp2
    go_ret
    exact ⟨rfl, HB2.out⟩
  have HV := Lib.hid (show errN L o = errV L o from (if_pos ⟨h0, h1⟩).symm)
  have hlen := h0.1
  rw [← h.1] at hlen
  have HE := Lib.hid (fun c (q : okPair c) => err_bd q h1)
  have HSB := Lib.hid (fun k => sum_small (f := fun c => sqr (dif c - o)) (m := 16000000) h0 (fun c hc => HE.out c hc) (by omega) k)
  have HT := Lib.hid (fun k (q : k < L.length) => sumR_take (fun c => sqr (dif c - o)) L q)
  have HOK := Lib.hid h0
  have HN := Lib.hid h.1
  have HA := Lib.hid h
  clear h h0 hl
  go_enter Try.func20, Try.ntmps20
  go_wp2_with fail
  refine HP.out.mono ?_
  rintro e w2 ⟨rfl, B2⟩
  have HB2 := Lib.hid B2
  clear B2
  clear HP
  go_wp2_with fail
  refine (offC_yes o _ h1).mono ?_
  rintro e w' ⟨rfl, rfl⟩
  go_wp2
  go_loopw [5, 18] (fun nv iv wr => ∃ k : Nat, k ≤ len ∧ nv = .int .i64 (sumR (fun c => sqr (dif c - o)) (L.take k)) ∧ iv = .int .i64 (k : Int) ∧ Hid (Below w.heap.size w wr)) (fun _ iv _ => len - (intOf iv).toNat)
  case atStart => exact ⟨0, Nat.zero_le _, rfl, rfl, HB2⟩
  case round =>
    obtain ⟨k, hk, rfl, rfl, HW⟩ := hrel
    clear HB2
    have hs := HSB.out k
    by_cases hlt : k < len
    · have ht := HT.out k (by rw [← HN.out]; exact hlt)
      obtain ⟨b, off, rfl, ltb, hc⟩ := (HA.out.nxt16 HW.out).some (by omega)
      obtain ⟨d0, d1⟩ := hc k hlt
      have j1 : (0 : Int) ≤ (k : Int) := by omega
      have j2 : (k : Int) < (len : Int) := by omega
      have hcx := okAt16 HOK.out (k := k) (by rw [← HN.out]; exact hlt)
      have heb := HE.out _ hcx
      clear hc
      generalize L.getD k (0, 0) = c at *
      obtain ⟨x, y⟩ := c
      simp only at d0 d1 ht heb
      rw [show dif (x, y) = y - x from rfl] at ht heb
      have B0 := below_box wr (.cells #[.int .i64 x, .int .i64 y] 27)
      have P0 := AtP.box wr x y 27
      have HBX := Lib.hid (below_call HW.out B0)
      have HD0 := Lib.hid (fun u => deviM x y o u hcx h1)
      generalize sumR (fun c => sqr (dif c - o)) (L.take k) = n at *
      obtain ⟨d, hd⟩ : ∃ d, y - x - o = d := ⟨_, rfl⟩
      rw [hd] at ht heb HD0
      obtain ⟨m, hm⟩ : ∃ m, sqr d = m := ⟨_, rfl⟩
      rw [hm] at ht heb
      have o3 : IntKind.i64.wrap (d * d) = m := by rw [show d * d = m from hm]; exact wrap_in (by omega) (by omega)
      have o4 : IntKind.i64.wrap (n + m) = n + m := wrap_in (by omega) (by omega)
      have HTK := Lib.hid (show n + m = sumR (fun c => sqr (dif c - o)) (L.take (k + 1)) by rw [ht])
      clear ht hs heb hcx HW hd hm B0
      go_upto_region 7 with fail
      generalize wr.alloc (.cells #[.int .i64 x, .int .i64 y] 27) = wx at *
      have HD := Lib.hid (fun (u : Kept wx) => keptCall (n := u) (HD0.out u.u))
      obtain ⟨e0, e1⟩ := P0.kepts
      clear HD0 P0 d0 d1
      refine wp_region_kept (by kernel_rfl) (by kernel_rfl) ?_
      repeat (go_big_quiet_step ((go_at_call 44; with_reducible exact HD.out _)))
      refine wpQuiet_nil ?_
      rintro w4 ⟨⟨_, K2⟩, rfl⟩
      have HB4 := Lib.hid (below_call HBX.out K2)
      clear K2 HBX HD e0 e1
      go_wp2
      go_roundw
      case rel => exact ⟨k + 1, by omega, by rw [HTK.out], by congr 1, HB4⟩
      case measure => simp [intOf]; omega
    · obtain rfl : k = len := by omega
      have HV2 := Lib.hid (show sumR (fun c => sqr (dif c - o)) (L.take k) = errV L o by rw [← HV.out]; unfold errN; rw [show L.take k = L by rw [HN.out, List.take_length]])
      clear hs
      go_wp2
      go_ret
      exact ⟨ret_int HV2.out, HW.out⟩
set_option maxHeartbeats 4000000 in
theorem in_implWithoutOutliers (a : Option Addr) (len cap : Nat) (L : List (Int × Int)) (w : World) (lim : Int) (h : Prr.PtsIn w a len L) (hl : len ≤ 9223372036854775807) (hlim : lim ≤ 9223372036854775807) :
    Calls Try.prog 27 #[.slice a len cap, .int .i64 lim] w (Prr.PtRow (outV L lim) w) := by
  have HP := Lib.hid (in_implPairsValid a len cap L w h hl)
  by_cases h0 : okPairs L
  rotate_left
  · have HP := Lib.hid (no14 HP.out h0)
    rw [show outV L lim = [] from if_neg (fun q => h0 q.1)]
    clear h0 h
    go_enter Try.func27, Try.ntmps27
    go_wp2_with fail
    refine HP.out.mono ?_
    rintro e w2 ⟨rfl, B2⟩
    have HB2 := Lib.hid B2
    clear B2
    go_wp2
    go_ret
    exact Prr.nilPt _ _ HB2.out
  have HP := Lib.hid (yes14 HP.out h0)
  by_cases h1 : lim < 0
  · rw [show outV L lim = [] from if_neg (fun q => by have := q.2; omega)]
    clear h0 h hlim
    go_enter Try.func27, Try.ntmps27
    go_wp2_with fail
    refine HP.out.mono ?_
    rintro e w2 ⟨rfl, B2⟩
    have HB2 := Lib.hid B2
    clear B2
    go_wp2
    go_ret
    exact Prr.nilPt _ _ HB2.out
  obtain ⟨i0, hi0, hz0, hz1, hz2⟩ := info_parts Prr.infoPt6
  have HOK := Lib.hid h0
  have HN := Lib.hid h.1
  have HA := Lib.hid h
  have hln := h0.1
  rw [← h.1] at hln
  have hall : L.take L.length = L := List.take_length
  obtain ⟨s1, s2, s3, s4⟩ := sums_small h0 L.length
  rw [hall] at s1 s2 s3 s4
  have hoff : flo (2 * (sy L - sx L) + (len : Int)) (2 * (len : Int)) = offN L := by unfold offN; rw [dif_sum, h.1]
  have HO := Lib.hid (fun u => offsetM (len : Int) (sx L) (sy L) (sxx L) (sxy L) u (by omega) s1 s2)
  rw [hoff] at HO
  have hob := offN_bd h0
  have HR := Lib.hid (show outR L (offN L) lim = outV L lim from (if_pos ⟨h0, by omega⟩).symm)
  generalize outV L lim = R at *
  obtain ⟨o, ho⟩ : ∃ o, offN L = o := ⟨_, rfl⟩
  rw [ho] at HO hob HR
  have HT := Lib.hid (fun k (q : k < L.length) => outR_next (L := L) (o := o) (lim := lim) q)
  have HLN := Lib.hid (fun k => Nat.le_trans (outR_len (L.take k) o lim) (List.length_take_le' k L))
  obtain ⟨nl, hnl⟩ : ∃ nl, -lim = nl := ⟨_, rfl⟩
  have onl : IntKind.i64.wrap (-lim) = nl := by rw [hnl]; exact wrap_in (by omega) (by omega)
  have HNL := Lib.hid hnl
  clear h0 h hall hoff s1 s2 s3 s4 ho hlim hnl
  go_enter Try.func27, Try.ntmps27
  go_wp2_with fail
  refine HP.out.mono ?_
  rintro e w2 ⟨rfl, B2⟩
  have HB2 := Lib.hid B2
  clear B2
  have HS2 := Lib.hid (sumsOfM a len cap L w2 (HA.out.nxt16 HB2.out) HOK.out)
  generalize sx L = vx at *
  generalize sy L = vy at *
  generalize sxx L = vp at *
  generalize sxy L = vq at *
  go_wp2_with fail
  refine HS2.out.mono ?_
  rintro e w3 ⟨rfl, B3⟩
  have HB3 := Lib.hid (below_call HB2.out B3)
  clear B3 HS2 HB2
  go_wp2_with fail
  refine (HO.out _).mono ?_
  rintro e w4 ⟨rfl, B4⟩
  have HB4 := Lib.hid (below_call HB3.out B4)
  clear B4 HB3
  go_wp2
  go_loopw [6, 22] (fun v iv wr => ∃ (k : Nat) (zs : List (Int × Int)), k ≤ len ∧ iv = .int .i64 (k : Int) ∧ Hid (zs = outR (L.take k) o lim) ∧ Hid (Prr.OwnPt wr w.heap.size v zs) ∧ Hid (Below w.heap.size w wr)) (fun _ iv _ => len - (intOf iv).toNat)
  case atStart => exact ⟨0, [], Nat.zero_le _, rfl, Lib.hid rfl, Lib.hid (World.ownsRow_nil _ _ _ _), HB4⟩
  case round =>
    obtain ⟨k, zs, hk, rfl, HZS, HO1, HB⟩ := hrel
    clear HB4
    by_cases hlt : k < len
    · have HNX := Lib.hid (HT.out k (by rw [← HN.out]; exact hlt))
      rw [← HZS.out] at HNX
      have HLZ := Lib.hid (show zs.length ≤ 20 by have := HLN.out k; rw [HZS.out]; have := HN.out; omega)
      have hcx := okAt16 HOK.out (k := k) (by rw [← HN.out]; exact hlt)
      obtain ⟨b, off, rfl, ltb, hc⟩ := (HA.out.nxt16 HB.out).some (by omega)
      obtain ⟨d0, d1⟩ := hc k hlt
      have j1 : (0 : Int) ≤ (k : Int) := by omega
      have j2 : (k : Int) < (len : Int) := by omega
      have hdb := dif_bd hcx
      clear hc
      generalize L.getD k (0, 0) = c at *
      obtain ⟨x, y⟩ := c
      simp only at d0 d1
      rw [show dif (x, y) = y - x from rfl] at hdb
      have B0 := below_box wr (.cells #[.int .i64 x, .int .i64 y] 27)
      have P0 := AtP.box wr x y 27
      have HBX := Lib.hid (below_call HB.out B0)
      have HOX := Lib.hid (HO1.out.next B0)
      have HD := Lib.hid (fun u => deviM x y o u hcx hob)
      obtain ⟨d, hd⟩ : ∃ d, y - x - o = d := ⟨_, rfl⟩
      rw [hd] at HD
      have HKP := Lib.hid (show kpt o lim (x, y) = decide (max d (-d) ≤ lim) by unfold kpt; rw [show dif (x, y) - o = d from hd])
      clear hdb hcx hd HO1 HB HZS B0
      go_wp2_with fail
      refine (HD.out _).mono ?_
      rintro e wx ⟨rfl, BD⟩
      have HB4 := Lib.hid (below_call HBX.out BD)
      have O4 := Lib.hid (HOX.out.next BD)
      obtain ⟨_, p0, p1⟩ := P0.next BD
      clear BD HBX HOX HD P0 d0 d1
      by_cases g0 : nl ≤ d
      rotate_left
      · have g1 : decide (nl ≤ d) = false := decide_eq_false g0
        have HTK := Lib.hid (show outR (L.take (k + 1)) o lim = zs by rw [HNX.out, if_neg (by rw [HKP.out]; have := HNL.out; simp; omega), List.append_nil])
        clear HKP HNX HLZ
        go_wp2
        go_roundw
        case rel => exact ⟨k + 1, zs, by omega, by congr 1, Lib.hid HTK.out.symm, O4, HB4⟩
        case measure => simp [intOf]; omega
      by_cases g1 : d ≤ lim
      rotate_left
      · have g2 : decide (d ≤ lim) = false := decide_eq_false g1
        have HTK := Lib.hid (show outR (L.take (k + 1)) o lim = zs by rw [HNX.out, if_neg (by rw [HKP.out]; have := HNL.out; simp; omega), List.append_nil])
        clear HKP HNX HLZ
        go_wp2
        go_roundw
        case rel => exact ⟨k + 1, zs, by omega, by congr 1, Lib.hid HTK.out.symm, O4, HB4⟩
        case measure => simp [intOf]; omega
      have HTK := Lib.hid (show outR (L.take (k + 1)) o lim = zs ++ [(x, y)] by rw [HNX.out, if_pos (by rw [HKP.out]; have := HNL.out; simp; omega)])
      clear HKP HNX
      have BX := below_box wx (.cells #[.int .i64 x, .int .i64 y] 27)
      have HW5 := Lib.hid (below_call HB4.out BX)
      have O5 := Lib.hid (O4.out.next BX)
      have own0 := Lib.hid (World.ownsRow.lt O4.out)
      have HN5 := Lib.hid (two_cs16 wx (.int .i64 x) (.int .i64 y) 27)
      have HP6 := Lib.hid (Prr.pvals_snoc6 zs (x, y))
      have HSZ : Hid (w.heap.size ≤ (wx.alloc (.cells #[.int .i64 x, .int .i64 y] 27)).heap.size) := Lib.hid HW5.out.size
      have hzl := HLZ.out
      clear BX O4 HB4 HLZ
      go_wp2_with (at_builtin; refine wpList_append_lies _ rfl (.tmp 38) (.tmp 40) 23 rfl w.heap.size 27 i0 (pt 0 0) 2 16 Try.underlying23 hi0 hz0 hz1 hz2 rfl (by decide) _ zs.length (Prr.pvals zs) rfl O5.out ⟨wx.heap.size, 0, none⟩ 1 1 [.int .i64 x, .int .i64 y] rfl rfl HN5.out (by intro u hu; simp at hu; rcases hu with rfl | rfl <;> rfl) (by omega) (by unfold maxLen; omega) (by omega) HSZ.out _ rfl ?_; intro g9 cap9 w9 own9 grow9 at9 ltg9; have HA9 := Lib.hid (And.intro own9 grow9); clear own9 grow9 at9 ltg9)
      have HW9 := Lib.hid (HW5.out.grown HA9.out.2 HW5.out.size (fun q hq => (own0.out q hq).1))
      have O9 := Lib.hid (show Prr.OwnPt w9 w.heap.size (.slice (some ⟨g9, 0, none⟩) (zs.length + 1) cap9) (zs ++ [(x, y)]) by
        have o9 := HA9.out.1
        rw [← HP6.out] at o9
        unfold Prr.OwnPt
        rw [List.length_append]
        exact o9)
      clear HA9 HW5 O5
      go_roundw
      case rel => exact ⟨k + 1, zs ++ [(x, y)], by omega, by congr 1, Lib.hid HTK.out.symm, O9, HW9⟩
      case measure => simp [intOf]; omega
    · obtain rfl : k = len := by omega
      have HF := HO1.out
      rw [HZS.out, show L.take k = L by rw [HN.out, List.take_length], HR.out] at HF
      have HF2 := Lib.hid HF
      clear HF HO1 HZS
      go_wp2
      go_ret
      exact HF2.out.slv w (Nat.le_refl _) HB.out
section
variable (a : Option Addr) (len cap : Nat) (L : List (Int × Int)) (w : World)
theorem implPairsValid (h : Prr.PtsAt w a len L) (hl : len ≤ 9223372036854775807) :
    Calls Try.prog 14 #[.slice a len cap] w fun e w' => e = .returned (.bool (decide (okPairs L))) ∧ Below w.heap.size w w' := in_implPairsValid a len cap L w h.inn hl
theorem implFitOffset (h : Prr.PtsAt w a len L) (hl : len ≤ 9223372036854775807) :
    Calls Try.prog 17 #[.slice a len cap] w fun e w' => e = .returned (.int .i64 (offV L)) ∧ Below w.heap.size w w' := in_implFitOffset a len cap L w h.inn hl
theorem implOffsetError (o : Int) (h : Prr.PtsAt w a len L) (hl : len ≤ 9223372036854775807) :
    Calls Try.prog 20 #[.slice a len cap, .int .i64 o] w fun e w' => e = .returned (.int .i64 (errV L o)) ∧ Below w.heap.size w w' := in_implOffsetError a len cap L w o h.inn hl
theorem implFitSlope (h : Prr.PtsAt w a len L) (hl : len ≤ 9223372036854775807) :
    Calls Try.prog 24 #[.slice a len cap] w fun e w' => e = .returned (.tuple #[.int .i64 (slpA L), .int .i64 (slpB L)]) ∧ Below w.heap.size w w' := in_implFitSlope a len cap L w h.inn hl
theorem implWithoutOutliers (lim : Int) (h : Prr.PtsAt w a len L) (hl : len ≤ 9223372036854775807) (hlim : lim ≤ 9223372036854775807) :
    Calls Try.prog 27 #[.slice a len cap, .int .i64 lim] w (Prr.PtRow (outV L lim) w) := in_implWithoutOutliers a len cap L w lim h.inn hl hlim
end
end Go.Proofs.Ytppkipcgpmijpaa
