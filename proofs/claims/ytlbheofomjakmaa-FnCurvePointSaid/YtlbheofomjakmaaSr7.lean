/- CurvePoint and CurvePoints, of the document. -/
import Derived.Test.YtlbheofomjakmaaSq7
namespace Go.Proofs.Ytlbheofomjakmaa
set_option maxRecDepth 100000
open Go.RowKit
attribute [local go_sem ↓] Go.wp_at_zero Go.wp_at_succ
theorem specCurvePoint (a : Option Addr) (len cap : Nat) (ps : List (Int × Int)) (t : Int) (w : World) (h : PtsAt w a len ps) (hl : len ≤ 9223372036854775807) :
    Calls Try.prog 18 #[.slice a len cap, .int .i64 t] w fun e w' => e = .returned (pt (crvX ps t) (crvY ps t)) ∧ Below w.heap.size w w' := by
  have HB := Lib.hid (below_box w (.cells #[.int .i64 0, .int .i64 0] 31))
  have R := OwnP.box w 0 0 31
  by_cases hk : okCurve ps
  · by_cases ht : 0 ≤ t ∧ t ≤ 64
    · have HV := Lib.hid (crv_in ⟨hk, ht⟩)
      have HC := Lib.hid (specCurveValid a len cap ps _ (h.next HB.out) hl)
      rw [decide_eq_true hk] at HC
      have HK := Lib.hid hk
      obtain ⟨t0, t1⟩ := ht
      clear hk
      go_enter Try.func18, Try.ntmps18
      go_wp2_with fail
      refine HC.out.mono ?_
      rintro e w1 ⟨rfl, B1⟩
      have HB1 := Lib.hid (below_call HB.out B1)
      replace R := R.next B1
      clear B1 HC
      go_wp2_with fail
      refine (l1In_yes t 0 64 _ t0 t1).mono ?_
      rintro e w' ⟨rfl, rfl⟩
      go_wp2_with fail
      refine (l7Point a len cap ps t _ (h.next HB1.out) HK.out t0 t1).mono ?_
      rintro e w2 ⟨rfl, B2⟩
      have HB2 := Lib.hid (below_call HB1.out B2)
      obtain ⟨⟨_, v8, v9⟩, z1, z2⟩ := R.next B2
      clear B2 R h
      go_wp2
      exact bodyPost_ret (v := pt (curX ps t) (curY ps t)) (by simp [results, Try.results18, go_sem, v8, v9]) rfl ⟨pt_eq7 HV.out.1 HV.out.2, below_set HB2.out (Nat.le_refl _) _ _⟩
    · have HV := Lib.hid (crv_out (ps := ps) (t := t) (fun k => ht k.2))
      have HC := Lib.hid (specCurveValid a len cap ps _ (h.next HB.out) hl)
      rw [decide_eq_true hk] at HC
      have HT := Lib.hid ht
      clear hk ht h
      go_enter Try.func18, Try.ntmps18
      go_wp2_with fail
      refine HC.out.mono ?_
      rintro e w1 ⟨rfl, B1⟩
      have HB1 := Lib.hid (below_call HB.out B1)
      replace R := R.next B1
      clear B1 HC
      obtain ⟨⟨_, v8, v9⟩, z1, z2⟩ := id R
      go_wp2_with fail
      refine (l1In_no t 0 64 _ (by have := HT.out; omega)).mono ?_
      rintro e w' ⟨rfl, rfl⟩
      go_wp2
      exact bodyPost_ret (v := pt 0 0) (by simp [results, Try.results18, go_sem, v8, v9]) rfl ⟨pt_eq7 HV.out.1 HV.out.2, below_set HB1.out (Nat.le_refl _) _ _⟩
  · have HV := Lib.hid (crv_out (ps := ps) (t := t) (fun k => hk k.1))
    have HC := Lib.hid (specCurveValid a len cap ps _ (h.next HB.out) hl)
    rw [decide_eq_false hk] at HC
    clear hk h
    go_enter Try.func18, Try.ntmps18
    go_wp2_with fail
    refine HC.out.mono ?_
    rintro e w1 ⟨rfl, B1⟩
    have HB1 := Lib.hid (below_call HB.out B1)
    replace R := R.next B1
    clear B1 HC
    obtain ⟨⟨_, v8, v9⟩, z1, z2⟩ := id R
    go_wp2
    exact bodyPost_ret (v := pt 0 0) (by simp [results, Try.results18, go_sem, v8, v9]) rfl ⟨pt_eq7 HV.out.1 HV.out.2, below_set HB1.out (Nat.le_refl _) _ _⟩
set_option maxHeartbeats 2000000 in
theorem specCurvesIn (a : Option Addr) (len cap : Nat) (ps : List (Int × Int)) (n : Int) (w : World) (h : PtsAt w a len ps) (hl : len ≤ 9223372036854775807) (hok : okCrvs ps n) :
    Calls Try.prog 24 #[.slice a len cap, .int .i64 n] w (PtRow (crvL ps n.toNat) w) := by
  obtain ⟨i0, hi0, hz0, hz1, hz2⟩ := info_parts infoPt6
  obtain ⟨hk, n1, n2, n3⟩ := hok
  obtain ⟨m, rfl⟩ : ∃ m : Nat, n = (m : Int) := ⟨n.toNat, by omega⟩
  rw [Int.toNat_natCast]
  obtain ⟨q, hq, hq2, q0, q1, hall⟩ := par_all ps (m := m) (by omega) (by omega)
  have HALL := Lib.hid hall
  have W2 := Lib.hid (below_box w (.cells #[] 31))
  have O := ownPt_empty w 31 rfl
  have HC := Lib.hid (specCurveValid a len cap ps _ (h.next W2.out) hl)
  rw [decide_eq_true hk] at HC
  have HK := Lib.hid hk
  have n4 : ((64 : Int) % (m : Int) != 0) = false := by rw [n3]; rfl
  have n5 : ((64 : Int).tmod (m : Int) != 0) = false := by rw [Int.tmod_eq_emod_of_nonneg (by omega), n3]; rfl
  replace n3 := Lib.hid n3
  have hm0 : ¬ (m : Int) = 0 := by omega
  have HTK := Lib.hid (fun (k : Nat) (hk : k ≤ m) => (pvals_take6 (crvL ps m) k (by rw [crvL_len]; omega)).trans (by rw [(hall k hk).2]))
  have HLEN := Lib.hid (crvL_len ps m)
  clear hall hk
  generalize crvL ps m = L at *
  go_enter Try.func24, Try.ntmps24
  go_wp2_with fail
  refine HC.out.mono ?_
  rintro e u1 ⟨rfl, B1⟩
  replace O := O.next B1
  replace W2 := Lib.hid (below_call W2.out B1)
  clear B1 HC
  go_wp2_with fail
  refine (l1In_yes (m : Int) 1 64 _ n1 n2).mono ?_
  rintro e w' ⟨rfl, rfl⟩
  go_wp2
  go_loopw [5, 6] (fun v i wr => ∃ k : Nat, k ≤ m + 1 ∧ i = .int .i64 (k : Int) ∧ Hid (wr.ownsRow w.heap.size 31 2 v k (pvals (L.take k))) ∧ Hid (Below w.heap.size w wr)) (fun _ i _ => m + 1 - (intOf i).toNat)
  case atStart => exact ⟨0, Nat.zero_le _, rfl, Lib.hid O, W2⟩
  case round =>
    obtain ⟨k, hk, rfl, HO, HW⟩ := hrel
    clear O W2
    by_cases hlt : k < m + 1
    · have j1 : (0 : Int) ≤ (k : Int) := by omega
      have j2 : (k : Int) ≤ (m : Int) := by omega
      have HT := Lib.hid (HTK.out k (by omega))
      obtain ⟨⟨x1, x2⟩, _⟩ := HALL.out k (by omega)
      have HCA := Lib.hid (l7Point a len cap ps ((k : Int) * q) wr (h.next HW.out) HK.out x1 x2)
      generalize curX ps ((k : Int) * q) = nx at *
      generalize curY ps ((k : Int) * q) = ny at *
      go_wp2_with fail
      refine HCA.out.mono ?_
      rintro e w2 ⟨rfl, K2⟩
      have HOa := Lib.hid ((World.ownsRow.kept (row := none) HO.out ⟨K2.os, K2.tape, K2.output, K2.size, fun k hk _ => K2.block k hk⟩ (by cases Value.ownBlock _ <;> simp)).alloc (.cells #[.int .i64 nx, .int .i64 ny] 31))
      have HN := Lib.hid (two_new6 w2 (.int .i64 nx) (.int .i64 ny) 31)
      have HW2 := Lib.hid (below_call (below_call HW.out K2) (below_box w2 (.cells #[.int .i64 nx, .int .i64 ny] 31)))
      have HRB := Lib.hid (fun q hq => (World.ownsRow.lt HOa.out q hq).1)
      clear K2 HCA
      go_wp2_with (at_builtin; refine wpList_append_lies _ rfl (.tmp 27) (.tmp 34) 23 rfl w.heap.size 31 i0 (pt 0 0) 2 16 Try.underlying23 hi0 hz0 hz1 hz2 rfl (by decide) _ k (pvals (L.take k)) rfl HOa.out ⟨w2.heap.size, 0, none⟩ 1 1 [.int .i64 nx, .int .i64 ny] rfl rfl HN.out (by intro u hu; simp at hu; rcases hu with rfl | rfl <;> rfl) (by omega) (by unfold maxLen; omega) (by omega) HW2.out.size _ rfl ?_; intro g cap6 w7 own7 grow7 at7 ltg7; have HA7 := Lib.hid (And.intro own7 grow7); clear own7 grow7 at7 ltg7)
      have HO7 := Lib.hid HA7.out.1
      rw [← HT.out] at HO7
      have HW7 := Lib.hid (HW2.out.grown HA7.out.2 HW2.out.size HRB.out)
      go_roundw
      case rel => exact ⟨k + 1, by omega, by congr 1, HO7, HW7⟩
      case measure => simp [intOf]; omega
    · obtain rfl : k = m + 1 := by omega
      have j2 : ¬ (((m + 1 : Nat) : Int) ≤ (m : Int)) := by omega
      go_wp2
      go_ret
      refine OwnPt.slv (B := w.heap.size) ?_ w (Nat.le_refl _) HW.out
      have o := HO.out
      rw [List.take_of_length_le (by rw [HLEN.out]; omega)] at o
      unfold OwnPt
      rw [HLEN.out]
      exact o
theorem specCurvePoints (a : Option Addr) (len cap : Nat) (ps : List (Int × Int)) (n : Int) (w : World) (h : PtsAt w a len ps) (hl : len ≤ 9223372036854775807) :
    Calls Try.prog 24 #[.slice a len cap, .int .i64 n] w (PtRow (crvV ps n) w) := by
  by_cases hok : okCrvs ps n
  · rw [crvV_in hok]; exact specCurvesIn a len cap ps n w h hl hok
  · rw [crvV_out hok]
    have W2 := Lib.hid (below_box w (.cells #[] 31))
    have O := ownPt_empty w 31 rfl
    have HC := Lib.hid (specCurveValid a len cap ps _ (h.next W2.out) hl)
    rcases not_okCrvs hok with h1 | h1
    · rw [decide_eq_false h1] at HC
      clear h h1 hok
      go_enter Try.func24, Try.ntmps24
      go_wp2_with fail
      refine HC.out.mono ?_
      rintro e u1 ⟨rfl, B1⟩
      replace O := O.next B1
      replace W2 := Lib.hid (below_call W2.out B1)
      clear B1 HC
      go_wp2
      go_ret
      exact O.slv w (Nat.le_refl _) W2.out
    · by_cases hk : okCurve ps
      · rw [decide_eq_true hk] at HC
        clear h hok hk
        by_cases h0 : 1 ≤ n ∧ n ≤ 64
        · have h3 : (64 : Int) % n ≠ 0 := by
            rcases h1 with h1 | ⟨h1, h2⟩ | ⟨h1, h2, h3⟩
            · omega
            · omega
            · exact h3
          have h5 : ¬ n = 0 := by omega
          have h6 : ((64 : Int) % n != 0) = true := by simpa using h3
          have h7 : ((64 : Int).tmod n != 0) = true := by rw [Int.tmod_eq_emod_of_nonneg (by omega)]; exact h6
          obtain ⟨p1, p2⟩ := h0
          clear h3 h1
          go_enter Try.func24, Try.ntmps24
          go_wp2_with fail
          refine HC.out.mono ?_
          rintro e u1 ⟨rfl, B1⟩
          replace O := O.next B1
          replace W2 := Lib.hid (below_call W2.out B1)
          clear B1 HC
          go_wp2_with fail
          refine (l1In_yes n 1 64 _ p1 p2).mono ?_
          rintro e w' ⟨rfl, rfl⟩
          go_wp2
          go_ret
          exact O.slv w (Nat.le_refl _) W2.out
        · have h2 : n < 1 ∨ 64 < n := by omega
          clear h1 h0
          go_enter Try.func24, Try.ntmps24
          go_wp2_with fail
          refine HC.out.mono ?_
          rintro e u1 ⟨rfl, B1⟩
          replace O := O.next B1
          replace W2 := Lib.hid (below_call W2.out B1)
          clear B1 HC
          go_wp2_with fail
          refine (l1In_no n 1 64 _ h2).mono ?_
          rintro e w' ⟨rfl, rfl⟩
          go_wp2
          go_ret
          exact O.slv w (Nat.le_refl _) W2.out
      · rw [decide_eq_false hk] at HC
        clear h h1 hok hk
        go_enter Try.func24, Try.ntmps24
        go_wp2_with fail
        refine HC.out.mono ?_
        rintro e u1 ⟨rfl, B1⟩
        replace O := O.next B1
        replace W2 := Lib.hid (below_call W2.out B1)
        clear B1 HC
        go_wp2
        go_ret
        exact O.slv w (Nat.le_refl _) W2.out
end Go.Proofs.Ytlbheofomjakmaa
