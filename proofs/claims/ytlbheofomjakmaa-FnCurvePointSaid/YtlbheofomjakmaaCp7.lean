/- CurvePoint and CurvePoints, of the program. -/
import Derived.Test.YtlbheofomjakmaaAt7
namespace Go.Proofs.Ytlbheofomjakmaa
set_option maxRecDepth 100000
open Go.RowKit
attribute [local go_sem ↓] Go.wp_at_zero Go.wp_at_succ
theorem pt_eq7 {x y u v : Int} (hx : u = x) (hy : v = y) : Ending.returned (pt x y) = .returned (pt u v) := by rw [hx, hy]
theorem implCurvePoint (a : Option Addr) (len cap : Nat) (ps : List (Int × Int)) (t : Int) (w : World) (h : PtsAt w a len ps) (hl : len ≤ 9223372036854775807) :
    Calls Try.prog 17 #[.slice a len cap, .int .i64 t] w fun e w' => e = .returned (pt (crvX ps t) (crvY ps t)) ∧ Below w.heap.size w w' := by
  have HB := Lib.hid (below_box w (.cells #[.int .i64 0, .int .i64 0] 31))
  have R := OwnP.box w 0 0 31
  by_cases hk : okCurve ps
  · by_cases ht : 0 ≤ t ∧ t ≤ 64
    · have HV := Lib.hid (crv_in ⟨hk, ht⟩)
      have HC := Lib.hid (implCurveValid a len cap ps _ (h.next HB.out) hl)
      rw [decide_eq_true hk] at HC
      have HK := Lib.hid hk
      obtain ⟨t0, t1⟩ := ht
      clear hk
      go_enter Try.func17, Try.ntmps17
      go_wp2_with fail
      refine HC.out.mono ?_
      rintro e w1 ⟨rfl, B1⟩
      have HB1 := Lib.hid (below_call HB.out B1)
      replace R := R.next B1
      clear B1 HC
      go_wp2_with fail
      refine (parameterY t _ t0 t1).mono ?_
      rintro e w' ⟨rfl, rfl⟩
      go_wp2_with fail
      refine (curveAt a len cap ps t _ (h.next HB1.out) HK.out t0 t1).mono ?_
      rintro e w2 ⟨rfl, B2⟩
      have HB2 := Lib.hid (below_call HB1.out B2)
      obtain ⟨⟨_, v8, v9⟩, z1, z2⟩ := R.next B2
      clear B2 R h
      go_wp2
      exact bodyPost_ret (v := pt (curX ps t) (curY ps t)) (by simp [results, Try.results17, go_sem, v8, v9]) rfl ⟨pt_eq7 HV.out.1 HV.out.2, below_set HB2.out (Nat.le_refl _) _ _⟩
    · have HV := Lib.hid (crv_out (ps := ps) (t := t) (fun k => ht k.2))
      have HC := Lib.hid (implCurveValid a len cap ps _ (h.next HB.out) hl)
      rw [decide_eq_true hk] at HC
      have HT := Lib.hid ht
      clear hk ht h
      go_enter Try.func17, Try.ntmps17
      go_wp2_with fail
      refine HC.out.mono ?_
      rintro e w1 ⟨rfl, B1⟩
      have HB1 := Lib.hid (below_call HB.out B1)
      replace R := R.next B1
      clear B1 HC
      obtain ⟨⟨_, v8, v9⟩, z1, z2⟩ := id R
      go_wp2_with fail
      refine (parameterN t _ HT.out).mono ?_
      rintro e w' ⟨rfl, rfl⟩
      go_wp2
      exact bodyPost_ret (v := pt 0 0) (by simp [results, Try.results17, go_sem, v8, v9]) rfl ⟨pt_eq7 HV.out.1 HV.out.2, below_set HB1.out (Nat.le_refl _) _ _⟩
  · have HV := Lib.hid (crv_out (ps := ps) (t := t) (fun k => hk k.1))
    have HC := Lib.hid (implCurveValid a len cap ps _ (h.next HB.out) hl)
    rw [decide_eq_false hk] at HC
    clear hk h
    go_enter Try.func17, Try.ntmps17
    go_wp2_with fail
    refine HC.out.mono ?_
    rintro e w1 ⟨rfl, B1⟩
    have HB1 := Lib.hid (below_call HB.out B1)
    replace R := R.next B1
    clear B1 HC
    obtain ⟨⟨_, v8, v9⟩, z1, z2⟩ := id R
    go_wp2
    exact bodyPost_ret (v := pt 0 0) (by simp [results, Try.results17, go_sem, v8, v9]) rfl ⟨pt_eq7 HV.out.1 HV.out.2, below_set HB1.out (Nat.le_refl _) _ _⟩
theorem par_all (ps : List (Int × Int)) {m : Nat} (m1 : 1 ≤ m) (m2 : m ≤ 64) : ∃ q : Int, (64 : Int).tdiv (m : Int) = q ∧ (64 : Int) / (m : Int) = q ∧ 0 ≤ q ∧ q ≤ 64 ∧ (∀ k : Nat, k ≤ m → (0 ≤ (k : Int) * q ∧ (k : Int) * q ≤ 64) ∧ (crvL ps m).getD k (0, 0) = (curX ps ((k : Int) * q), curY ps ((k : Int) * q))) := by
  refine ⟨64 / (m : Int), Int.tdiv_eq_ediv_of_nonneg (by omega), rfl, Int.ediv_nonneg (by omega) (by omega), ?_, fun k hk => ⟨par_bd m1 m2 hk, crvL_at ps m k hk⟩⟩
  have := (par_bd m1 m2 (show 1 ≤ m from m1)).2
  omega
theorem not_okCrvs {ps : List (Int × Int)} {n : Int} (h : ¬ okCrvs ps n) : ¬ okCurve ps ∨ n < 1 ∨ (1 ≤ n ∧ 64 < n) ∨ (1 ≤ n ∧ n ≤ 64 ∧ (64 : Int) % n ≠ 0) := by
  by_cases h1 : okCurve ps
  · by_cases h2 : n < 1
    · exact .inr (.inl h2)
    · by_cases h3 : 64 < n
      · exact .inr (.inr (.inl ⟨by omega, h3⟩))
      · exact .inr (.inr (.inr ⟨by omega, by omega, fun e => h ⟨h1, by omega, by omega, e⟩⟩))
  · exact .inl h1
set_option maxHeartbeats 2000000 in
theorem implCurvesIn (a : Option Addr) (len cap : Nat) (ps : List (Int × Int)) (n : Int) (w : World) (h : PtsAt w a len ps) (hl : len ≤ 9223372036854775807) (hok : okCrvs ps n) :
    Calls Try.prog 22 #[.slice a len cap, .int .i64 n] w (PtRow (crvL ps n.toNat) w) := by
  obtain ⟨i0, hi0, hz0, hz1, hz2⟩ := info_parts infoPt6
  obtain ⟨hk, n1, n2, n3⟩ := hok
  obtain ⟨m, rfl⟩ : ∃ m : Nat, n = (m : Int) := ⟨n.toNat, by omega⟩
  rw [Int.toNat_natCast]
  obtain ⟨q, hq, hq2, q0, q1, hall⟩ := par_all ps (m := m) (by omega) (by omega)
  have HALL := Lib.hid hall
  have HC := Lib.hid (implCurveValid a len cap ps _ h hl)
  rw [decide_eq_true hk] at HC
  have HK := Lib.hid hk
  have n4 : ((64 : Int) % (m : Int) != 0) = false := by rw [n3]; rfl
  have n5 : ((64 : Int).tmod (m : Int) != 0) = false := by rw [Int.tmod_eq_emod_of_nonneg (by omega), n3]; rfl
  replace n3 := Lib.hid n3
  have hm0 : ¬ (m : Int) = 0 := by omega
  have HM := Lib.hid (made6 (cz (crvL ps m)) (m + 1))
  have HZ := Lib.hid (fun (k : Nat) (hk : k ≤ m) => And.intro ((cz0 (crvL ps m) k).trans (by rw [(hall k hk).2])) ((cz1 (crvL ps m) k).trans (by rw [(hall k hk).2])))
  have HPS := Lib.hid (fun q => cpart_set (cz (crvL ps m)) (fun _ => 0) ((m + 1) * 2) q)
  have HFIN := Lib.hid (show cpart (cz (crvL ps m)) (fun _ => 0) ((m + 1) * 2) ((m + 1) * 2) = pvals (crvL ps m) by have h := pvals_cpart (crvL ps m) (fun _ => 0); rw [crvL_len] at h; exact h.symm)
  have HLEN := Lib.hid (crvL_len ps m)
  clear hall hk
  generalize crvL ps m = L at *
  go_enter Try.func22, Try.ntmps22
  go_wp2_with fail
  refine HC.out.mono ?_
  rintro e u1 ⟨rfl, B1⟩
  replace h := h.next B1
  have W2 := Lib.hid B1
  clear B1 HC
  go_wp2_with (first
    | (at_make; refine wpList_make_full _ rfl _ _ 23 rfl u1.heap.size 31 i0 (pt 0 0) 2 Try.underlying23 hi0 hz0 hz1 .i64 .i64 _ _ (m + 1) rfl rfl (by omega) (by omega) (by rw [hz2]; omega) (by unfold maxLen; omega) (Nat.le_refl _) ?_; intro w1 own1 grow1))
  have own2 : w1.ownsRow u1.heap.size 31 2 (.slice (some ⟨u1.heap.size, 0, none⟩) (m + 1) (m + 1)) (m + 1) (cpart (cz L) (fun _ => 0) ((m + 1) * 2) (0 * 2)) := by rw [← HM.out]; exact own1
  have HG : Below u1.heap.size u1 w1 := (Below.refl _ _).grown grow1 (Nat.le_refl _) (fun k hk => by cases hk)
  clear own1 grow1
  go_loopw [28] (fun i wr => ∃ k : Nat, k ≤ m + 1 ∧ i = .int .i64 (k : Int) ∧ Hid (wr.ownsRow u1.heap.size 31 2 (.slice (some ⟨u1.heap.size, 0, none⟩) (m + 1) (m + 1)) (m + 1) (cpart (cz L) (fun _ => 0) ((m + 1) * 2) (k * 2))) ∧ Hid (Below u1.heap.size u1 wr)) (fun i _ => m + 1 - (intOf i).toNat)
  case atStart => exact ⟨0, Nat.zero_le _, rfl, Lib.hid own2, Lib.hid HG⟩
  case round =>
    obtain ⟨k, hk, rfl, HO, HW⟩ := hrel
    clear own2 HG
    by_cases hlt : k < m + 1
    · have j1 : (0 : Int) ≤ (k : Int) := by omega
      have j2 : (k : Int) < ((m + 1 : Nat) : Int) := by omega
      have j4 : (k : Int) < (m : Int) + 1 := by omega
      have Z := HZ.out k (by omega)
      obtain ⟨⟨x1, x2⟩, _⟩ := HALL.out k (by omega)
      have HCA := Lib.hid (curveAt a len cap ps ((k : Int) * q) wr (h.next HW.out) HK.out x1 x2)
      generalize curX ps ((k : Int) * q) = cx at *
      generalize curY ps ((k : Int) * q) = cy at *
      go_wp2_with fail
      refine HCA.out.mono ?_
      rintro e w2 ⟨rfl, K2⟩
      have HO2 := Lib.hid (World.ownsRow.kept (row := none) HO.out ⟨K2.os, K2.tape, K2.output, K2.size, fun k hk _ => K2.block k hk⟩ (.inr (by simp [Value.ownBlock])))
      have r1 := HO2.out.cellAt (k * 2) (by omega)
      rw [cpart_at _ _ _ _ _ (by omega)] at r1
      have r2 := HO2.out.frozenAt (k * 2)
      have r3 := HO2.out.cellAt (k * 2 + 1) (by omega)
      rw [cpart_at _ _ _ _ _ (by omega)] at r3
      have r4 := HO2.out.frozenAt (k * 2 + 1)
      have s5 := HO2.out.stored (k * 2) (.int .i64 (cz L (k * 2)))
      have s6 := s5.1.stored (k * 2 + 1) (.int .i64 (cz L (k * 2 + 1)))
      have HS := Lib.hid (And.intro s6.1 (s5.2.trans s6.2))
      rw [HPS.out, HPS.out, Z.1, Z.2] at HS
      have HW2 := Lib.hid (below_call HW.out K2)
      clear s5 s6 K2 Z HCA
      go_wp2
      go_roundw
      case rel => exact ⟨k + 1, by omega, by congr 1, Lib.hid (by rw [show (k + 1) * 2 = k * 2 + 1 + 1 by omega]; exact HS.out.1), Lib.hid (HW2.out.grown HS.out.2 HW2.out.size (fun q hq => by injection hq with hq; omega))⟩
      case measure => simp [intOf]; omega
    · obtain rfl : k = m + 1 := by omega
      go_wp2
      go_ret
      refine OwnPt.slv (B := u1.heap.size) ?_ w W2.out.size (below_call W2.out HW.out)
      unfold OwnPt
      rw [← HFIN.out, HLEN.out]
      exact HO.out
theorem implCurvePoints (a : Option Addr) (len cap : Nat) (ps : List (Int × Int)) (n : Int) (w : World) (h : PtsAt w a len ps) (hl : len ≤ 9223372036854775807) :
    Calls Try.prog 22 #[.slice a len cap, .int .i64 n] w (PtRow (crvV ps n) w) := by
  by_cases hok : okCrvs ps n
  · rw [crvV_in hok]; exact implCurvesIn a len cap ps n w h hl hok
  · rw [crvV_out hok]
    have HC := Lib.hid (implCurveValid a len cap ps _ h hl)
    rcases not_okCrvs hok with h1 | h1
    · rw [decide_eq_false h1] at HC
      clear h h1 hok
      go_enter Try.func22, Try.ntmps22
      go_wp2_with fail
      refine HC.out.mono ?_
      rintro e u1 ⟨rfl, B1⟩
      have W2 := Lib.hid B1
      clear B1 HC
      go_wp2
      go_ret
      exact nilPt _ _ W2.out
    · by_cases hk : okCurve ps
      · rw [decide_eq_true hk] at HC
        clear h hok hk
        rcases h1 with h1 | ⟨h1, h2⟩ | ⟨h1, h2, h3⟩
        · go_enter Try.func22, Try.ntmps22
          go_wp2_with fail
          refine HC.out.mono ?_
          rintro e u1 ⟨rfl, B1⟩
          have W2 := Lib.hid B1
          clear B1 HC
          go_wp2
          go_ret
          exact nilPt _ _ W2.out
        · have h0 : ¬ n < 1 := by omega
          go_enter Try.func22, Try.ntmps22
          go_wp2_with fail
          refine HC.out.mono ?_
          rintro e u1 ⟨rfl, B1⟩
          have W2 := Lib.hid B1
          clear B1 HC
          go_wp2
          go_ret
          exact nilPt _ _ W2.out
        · have h0 : ¬ n < 1 := by omega
          have h4 : ¬ 64 < n := by omega
          have h5 : ¬ n = 0 := by omega
          have h6 : ((64 : Int) % n != 0) = true := by simpa using h3
          have h7 : ((64 : Int).tmod n != 0) = true := by rw [Int.tmod_eq_emod_of_nonneg (by omega)]; exact h6
          clear h3
          go_enter Try.func22, Try.ntmps22
          go_wp2_with fail
          refine HC.out.mono ?_
          rintro e u1 ⟨rfl, B1⟩
          have W2 := Lib.hid B1
          clear B1 HC
          go_wp2
          go_ret
          exact nilPt _ _ W2.out
      · rw [decide_eq_false hk] at HC
        clear h h1 hok hk
        go_enter Try.func22, Try.ntmps22
        go_wp2_with fail
        refine HC.out.mono ?_
        rintro e u1 ⟨rfl, B1⟩
        have W2 := Lib.hid B1
        clear B1 HC
        go_wp2
        go_ret
        exact nilPt _ _ W2.out
end Go.Proofs.Ytlbheofomjakmaa
