/- The walk of the law FnMoveTime: it returns true at every code. -/
import Derived.Test.YtcoaahfnbgkofaaMt6
import Derived.Test.YtcoaahfnbgkofaaDMove
namespace Go.Proofs.Ytcoaahfnbgkofaa
set_option maxRecDepth 100000
open Go.RowKit
attribute [local go_sem ↓] Go.wp_at_zero Go.wp_at_succ
theorem mostV_swap {ls lo hi fs ts : List Int} (h : okBoth ls lo hi fs ts) : mostV ts fs = mostV fs ts := by
  have hl := h.len
  unfold mostV
  rw [mostD_swap ts fs, show ts.length = fs.length by omega]
theorem moveT_swap {ls lo hi fs ts : List Int} {t r : Int} (h : okMv ls lo hi fs ts t r) : moveT ls lo hi ts fs t r = moveT ls lo hi fs ts t r := by
  rw [moveT_in h.1, moveT_in (show okBoth ls lo hi ts fs from ⟨h.1.2, h.1.1⟩), mostV_swap h.1]
theorem list_eq_getD {fs ts : List Int} (hl : fs.length = ts.length) (h : ∀ i, i < fs.length → fs.getD i 0 = ts.getD i 0) : fs = ts := by
  apply List.ext_getElem hl
  intro i h1 h2
  have := h i h1
  rw [List.getD_eq_getElem?_getD, List.getD_eq_getElem?_getD, List.getElem?_eq_getElem h1, List.getElem?_eq_getElem h2] at this
  exact this
theorem moveT_zero {ls lo hi fs ts : List Int} {t r : Int} (h : okMv ls lo hi fs ts t r) : moveT ls lo hi fs ts t r = 0 ↔ fs = ts := by
  have hm := h.1.move h.2.1 h.2.2
  have hl := h.1.len
  rw [moveT_in h.1, timeV_in hm]
  constructor
  · intro h0
    have hD : mostV fs ts = 0 := by
      rcases Int.lt_or_le 0 (mostV fs ts) with hp | hp
      · rw [profL_step t r 0 (mostV fs ts) h.2.1.1 h.2.2.1 (by omega) hp] at h0
        simp at h0
        omega
      · have := h.1.most; omega
    exact list_eq_getD (by omega) ((mostD_zero fs ts fs.length).1 hD)
  · rintro rfl
    have hD : mostV fs fs = 0 := (mostD_zero fs fs fs.length).2 (fun _ _ => rfl)
    rw [hD, profL_nil t r 0 0 (by omega)]
    rfl
/-- The first place where two lists differ. -/
theorem first_diff (fs ts : List Int) : ∀ n, (∃ i, i < n ∧ fs.getD i 0 ≠ ts.getD i 0) → ∃ i, i < n ∧ fs.getD i 0 ≠ ts.getD i 0 ∧ ∀ j, j < i → fs.getD j 0 = ts.getD j 0
  | 0, ⟨_, h, _⟩ => by omega
  | n + 1, h => by
    by_cases hn : ∃ i, i < n ∧ fs.getD i 0 ≠ ts.getD i 0
    · obtain ⟨i, h1, h2, h3⟩ := first_diff fs ts n hn
      exact ⟨i, by omega, h2, h3⟩
    · obtain ⟨i, h1, h2⟩ := h
      have hi : i = n := by rcases Nat.lt_or_ge i n with q | q; exact absurd ⟨i, q, h2⟩ hn; omega
      subst hi
      exact ⟨i, h1, h2, fun j hj => by by_cases hq : fs.getD j 0 = ts.getD j 0; exact hq; exact absurd ⟨j, hj, hq⟩ hn⟩
set_option maxHeartbeats 1000000 in
theorem sameIntsN (a b : Option Addr) (len cap cap2 : Nat) (fs ts : List Int) (w : World) (h : IntsAt w a len fs) (h2 : IntsAt w b len ts) (hne : fs ≠ ts) (hl : len ≤ 1000) :
    Calls Try.prog 16 #[.slice a len cap, .slice b len cap2] w fun e w' => e = .returned (.bool false) ∧ Below w.heap.size w w' := by
  have e0 : ((len : Int) != (len : Int)) = false := by simp
  have m1 := h.1
  have m2 := h2.1
  obtain ⟨i, hi, hd, hs⟩ := first_diff fs ts len (by
    rcases Classical.em (∃ i, i < len ∧ fs.getD i 0 ≠ ts.getD i 0) with q | q
    · exact q
    · exact absurd (list_eq_getD (by omega) (fun i hi => by by_cases hq : fs.getD i 0 = ts.getD i 0; exact hq; exact absurd ⟨i, by omega, hq⟩ q)) hne)
  obtain ⟨b1, o1, rfl, lt1, c1⟩ := h.some (by omega)
  obtain ⟨b2, o2, rfl, lt2, c2⟩ := h2.some (by omega)
  have HC1 := Lib.hid c1
  have HC2 := Lib.hid c2
  have HS := Lib.hid hs
  have HD := Lib.hid hd
  clear h h2 c1 c2 hs hd hne m1 m2
  go_enter Try.func16, Try.ntmps16
  go_wp2
  go_loopw [5] (fun iv wr => ∃ j : Nat, j ≤ i ∧ iv = .int .i64 (j : Int) ∧ Hid (Below w.heap.size w wr)) (fun iv _ => len - (intOf iv).toNat)
  case atStart => exact ⟨0, Nat.zero_le _, rfl, Lib.hid (Below.refl _ _)⟩
  case round =>
    obtain ⟨j, hj, rfl, HW⟩ := hrel
    have hjl : j < len := by omega
    have d1 := keptCell (Nat.lt_of_lt_of_le lt1 HW.out.size) ((HW.out.cell (p := ⟨b1, o1 + j, none⟩) lt1).trans (HC1.out j hjl))
    have d2 := keptCell (Nat.lt_of_lt_of_le lt2 HW.out.size) ((HW.out.cell (p := ⟨b2, o2 + j, none⟩) lt2).trans (HC2.out j hjl))
    have j1 : (0 : Int) ≤ (j : Int) := by omega
    have j2 : (j : Int) < (len : Int) := by omega
    by_cases hlt : j < i
    · have hq := HS.out j hlt
      have e1 : (fs.getD j 0 != ts.getD j 0) = false := by rw [hq]; simp
      generalize fs.getD j 0 = x at *
      generalize ts.getD j 0 = y at *
      replace hq := Lib.hid hq
      go_upto_region 6 with fail
      refine wp_region_kept (by kernel_rfl) (by kernel_rfl) ?_
      repeat (go_big_quiet_step (fail))
      refine wpQuiet_nil ?_
      rintro w2 ⟨⟨_, B2⟩, rfl⟩
      have HW2 := Lib.hid (below_call HW.out B2)
      clear d1 d2 B2
      go_wp2
      go_roundw
      case rel => exact ⟨j + 1, by omega, by congr 1, HW2⟩
      case measure => simp [intOf]; omega
    · obtain rfl : j = i := by omega
      have e1 : (fs.getD j 0 != ts.getD j 0) = true := bne_iff_ne.2 HD.out
      generalize fs.getD j 0 = x at *
      generalize ts.getD j 0 = y at *
      go_upto_region 6 with fail
      refine wp_region_kept (by kernel_rfl) (by kernel_rfl) ?_
      repeat (go_big_quiet_step (fail))
      refine wpQuiet_nil ?_
      rintro w2 ⟨⟨_, B2⟩, rfl⟩
      have HW2 := Lib.hid (below_call HW.out B2)
      clear d1 d2 B2
      go_wp2
      go_ret
      exact ⟨rfl, HW2.out⟩
theorem sameIntsD (a b : Option Addr) (len cap cap2 : Nat) (fs ts : List Int) (w : World) (h : IntsAt w a len fs) (h2 : IntsAt w b len ts) (hl : len ≤ 1000) :
    Calls Try.prog 16 #[.slice a len cap, .slice b len cap2] w fun e w' => e = .returned (.bool (decide (fs = ts))) ∧ Below w.heap.size w w' := by
  by_cases he : fs = ts
  · subst he
    rw [decide_eq_true rfl]
    exact sameInts a b len len cap cap2 fs w h h2 (by omega)
  · rw [decide_eq_false he]
    exact sameIntsN a b len cap cap2 fs ts w h h2 he hl
set_option maxHeartbeats 4000000 in
theorem walkFnMoveTime (w : World) (a : Option Addr) (len cap : Nat) (zs : List Int) (h : Bytes w a len cap zs) :
    Calls Try.prog 4 #[.slice a len cap] w fun e w' => e = .returned (.bool true) ∧ Below w.heap.size w w' := by
  have hle := h.len_le
  obtain ⟨hl, hm⟩ := hle
  unfold maxLen at hm
  by_cases hlen : len ≤ 1048576
  · go_enter Try.func4, Try.ntmps4
    go_wp2_with fail
    refine (drawMoveTime w a len cap zs h).mono ?_
    rintro e w1 ⟨⟨xa, xl, xc⟩, ⟨ya, yl, yc⟩, ⟨za, zl, zc⟩, ⟨aa, al, ac⟩, ⟨ba, bl, bc⟩, ls, lo, hi, fs, ts, t, r, rfl, i1, i2, i3, i4, i5, ⟨lx, ly, lz, la, lb⟩, _, _, B1⟩
    simp only at i1 i2 i3 i4 i5 lx ly lz la lb
    have P := AtA.box w1 (.slice xa xl xc) (.slice ya yl yc) (.slice za zl zc) 25
    have Bx := below_box w1 (.cells #[.slice xa xl xc, .slice ya yl yc, .slice za zl zc] 25)
    have HI := Lib.hid (And.intro (i1.ints.next Bx) (And.intro (i2.ints.next Bx) (And.intro (i3.ints.next Bx) (And.intro (i4.ints.next Bx) (i5.ints.next Bx)))))
    have HB := Lib.hid (below_call B1 Bx)
    clear B1 Bx h i1 i2 i3 i4 i5
    go_upto_region 4 with fail
    generalize hA : w1.heap.size = A at *
    clear hA
    generalize w1.alloc (.cells #[.slice xa xl xc, .slice ya yl yc, .slice za zl zc] 25) = w2 at *
    obtain ⟨_, p1, p2, p3, _, _, _⟩ := id P
    go_wp2_with fail
    refine (implMoveTime ⟨xa, xl, xc⟩ ⟨ya, yl, yc⟩ ⟨za, zl, zc⟩ ⟨aa, al, ac⟩ ⟨ba, bl, bc⟩ ls lo hi fs ts t r _ HI.out.1 HI.out.2.1 HI.out.2.2.1 HI.out.2.2.2.1 HI.out.2.2.2.2 (by simp only; omega) (by simp only; omega) (by simp only; omega) (by simp only; omega) (by simp only; omega)).mono ?_
    rintro e w3 ⟨rfl, B3⟩
    have HK := Lib.hid B3
    replace P := P.next B3
    clear B3 p1 p2 p3
    generalize hn : moveT ls lo hi fs ts t r = n at *
    have HN := Lib.hid hn
    clear hn
    obtain ⟨_, p1, p2, p3, _, _, _⟩ := id P
    go_wp2_with fail
    refine (specMoveTime ⟨xa, xl, xc⟩ ⟨ya, yl, yc⟩ ⟨za, zl, zc⟩ ⟨aa, al, ac⟩ ⟨ba, bl, bc⟩ ls lo hi fs ts t r _ (HI.out.1.next HK.out) (HI.out.2.1.next HK.out) (HI.out.2.2.1.next HK.out) (HI.out.2.2.2.1.next HK.out) (HI.out.2.2.2.2.next HK.out) (by simp only; omega) (by simp only; omega) (by simp only; omega) (by simp only; omega) (by simp only; omega)).mono ?_
    rintro e w4 ⟨rfl, B4⟩
    rw [HN.out]
    replace HK := Lib.hid (below_call HK.out B4)
    replace P := P.next B4
    clear B4 p1 p2 p3
    have e0 : (n != n) = false := by simp
    by_cases h0 : n < 0
    · go_wp2_with fail
      refine (alive _).mono ?_
      rintro e w' ⟨rfl, rfl⟩
      go_wp2
      go_ret
      exact ⟨rfl, below_call HB.out HK.out⟩
    · have hok : okMv ls lo hi fs ts t r := by
        by_cases q : okMv ls lo hi fs ts t r
        · exact q
        · have := moveT_not q; rw [HN.out] at this; omega
      have HSW := Lib.hid ((moveT_swap hok).trans HN.out)
      have HZ := moveT_zero hok
      rw [HN.out] at HZ
      have HEQ : Hid ((n == 0) = decide (fs = ts)) := Lib.hid (by
        by_cases q : fs = ts
        · rw [decide_eq_true q]; simp [HZ.2 q]
        · rw [decide_eq_false q]; simp; exact fun k => q (HZ.1 k))
      have hll := hok.1.len
      have m4 := HI.out.2.2.2.1.1
      have m5 := HI.out.2.2.2.2.1
      obtain rfl : bl = al := by omega
      clear HZ hll m4 m5 hok
      obtain ⟨_, p1, p2, p3, _, _, _⟩ := id P
      go_wp2_with fail
      refine (implMoveTime ⟨xa, xl, xc⟩ ⟨ya, yl, yc⟩ ⟨za, zl, zc⟩ ⟨ba, bl, bc⟩ ⟨aa, bl, ac⟩ ls lo hi ts fs t r _ (HI.out.1.next HK.out) (HI.out.2.1.next HK.out) (HI.out.2.2.1.next HK.out) (HI.out.2.2.2.2.next HK.out) (HI.out.2.2.2.1.next HK.out) (by simp only; omega) (by simp only; omega) (by simp only; omega) (by simp only; omega) (by simp only; omega)).mono ?_
      rintro e w5 ⟨rfl, B5⟩
      rw [HSW.out]
      replace HK := Lib.hid (below_call HK.out B5)
      have e1 : (n == n) = true := by simp
      clear B5 p1 p2 p3 P
      go_wp2_with fail
      refine (sameIntsD aa ba bl ac bc fs ts _ (HI.out.2.2.2.1.next HK.out) (HI.out.2.2.2.2.next HK.out) (by omega)).mono ?_
      rintro e w6 ⟨rfl, B6⟩
      replace HK := Lib.hid (below_call HK.out B6)
      rw [← HEQ.out]
      clear B6
      generalize (n == 0) = q at *
      cases q
      · go_wp2
        go_ret
        exact ⟨rfl, below_call HB.out HK.out⟩
      · go_wp2
        go_ret
        exact ⟨rfl, below_call HB.out HK.out⟩
  · clear h
    go_enter Try.func4, Try.ntmps4
    go_wp2
    go_ret
    exact ⟨rfl, Below.refl _ _⟩
end Go.Proofs.Ytcoaahfnbgkofaa
