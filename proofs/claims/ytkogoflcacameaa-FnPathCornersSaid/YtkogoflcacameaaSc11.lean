/- The document's PathCorners. -/
import Derived.Test.YtkogoflcacameaaIm11k
namespace Go.Proofs.Ytkogoflcacameaa
set_option maxRecDepth 100000
open Go.RowKit
attribute [local go_sem ↓] Go.wp_at_zero Go.wp_at_succ
theorem byV (L : List C2) (k : Nat) : byP (cornV L) L k = cornTo L k := rfl
set_option maxHeartbeats 8000000 in
theorem specPathCorners (pa : Option Addr) (pl pc : Nat) (L : List C2) (w : World) (h : Cel.PtsAt w pa pl L) (hpl : pl ≤ 9223372036854775807) :
    Calls Try.prog 27 #[.slice pa pl pc] w (Cel.PtRow (cornersV L) w) := by
  obtain ⟨i0, hi0, hz0, hz1, hz2⟩ := info_parts Cel.infoPt6
  have HP := Lib.hid h
  have HN := Lib.hid h.1
  have HO0 := Lib.hid (Cel.ownPt_empty w 33 rfl)
  have HB0 := Lib.hid (below_box w (.cells #[] 33))
  clear h
  by_cases h4 : 400 < pl
  · have q4 : (400 : Int) < (pl : Int) := by omega
    have HE := Lib.hid (show Cel.PtRow (cornersV L) w (.returned (.slice (some ⟨w.heap.size, 0, none⟩) 0 0)) (w.alloc (.cells #[] 33)) by rw [show cornersV L = [] from if_pos (by rw [← HN.out]; exact h4)]; exact ⟨⟨some ⟨w.heap.size, 0, none⟩, 0, 0⟩, rfl, rfl, HO0.out, HB0.out⟩)
    clear h4
    go_enter Try.func27, Try.ntmps27
    go_wp2
    go_ret
    exact HE.out
  have q4 : ¬ ((400 : Int) < (pl : Int)) := by omega
  have hp4 : pl ≤ 400 := by omega
  have HCO := Lib.hid (show cornersV L = byP (cornV L) L L.length from if_neg (by rw [← HN.out]; exact h4))
  clear h4
  go_enter Try.func27, Try.ntmps27
  go_wp2
  generalize w.alloc (.cells #[] 33) = w0 at *
  go_loopw [3, 4] (fun ov iv wr => ∃ (k : Nat) (oa : Option Addr) (on oc : Nat), k ≤ pl ∧ iv = .int .i64 (k : Int) ∧ ov = .slice oa on oc ∧ on = (byP (cornV L) L k).length ∧ Hid (Cel.OwnPt wr w.heap.size (.slice oa on oc) (byP (cornV L) L k)) ∧ Hid (Below w.heap.size w wr)) (fun _ iv _ => pl - (intOf iv).toNat)
  case atStart => exact ⟨0, some ⟨w.heap.size, 0, none⟩, 0, 0, Nat.zero_le _, rfl, rfl, rfl, HO0, HB0⟩
  case round =>
    clear HO0 HB0
    obtain ⟨k, oa, on, oc, hk, rfl, rfl, hon, HO, HW⟩ := hrel
    have HON := Lib.hid hon
    have hon4 : on ≤ 400 := by rw [hon]; exact Nat.le_trans (byP_len _ _ _) (by omega)
    clear hon
    by_cases hlt : k < pl
    rotate_left
    · obtain rfl : k = pl := by omega
      have j2 : ¬ ((k : Int) < (k : Int)) := by omega
      have HE := Lib.hid (show Cel.PtRow (cornersV L) w (.returned (.slice oa on oc)) wr by rw [HCO.out]; rw [← HN.out]; exact ⟨⟨oa, on, oc⟩, rfl, HON.out, HO.out, HW.out⟩)
      clear HO HON
      go_wp2
      go_ret
      exact HE.out
    obtain ⟨b, rfl, ltb, hc⟩ := (HP.out.next HW.out).some (by omega)
    have HLB := Lib.hid ltb
    have HC := Lib.hid hc
    have j1 : (0 : Int) ≤ (k : Int) := by omega
    have j2 : (k : Int) < (pl : Int) := by omega
    obtain ⟨c, hcc⟩ : ∃ c, L.getD k (0, 0) = c := ⟨_, rfl⟩
    have HCC := Lib.hid (show wr.cell? ⟨b, k * 2, none⟩ = some (.int .i64 c.1) ∧ wr.cell? ⟨b, k * 2 + 1, none⟩ = some (.int .i64 c.2) by rw [← hcc]; exact hc k hlt)
    have HCE := Lib.hid hcc
    clear hcc hc ltb
    go_upto_region 7 with fail
    have c0 := keptCell HLB.out HCC.out.1
    have c1 := keptCell HLB.out HCC.out.2
    have o1 : IntKind.i64.wrap ((pl : Int) - 1) = (pl : Int) - 1 := wrap_in (by omega) (by omega)
    by_cases hk0 : k = 0
    · subst hk0
      have HPK := Lib.hid (show cornV L 0 = true by unfold cornV; simp)
      refine wp_region_kept (by kernel_rfl) (by kernel_rfl) ?_
      repeat (go_big_quiet_step (fail))
      refine wpQuiet_nil ?_
      rintro w3 ⟨⟨_, K1⟩, rfl⟩
      have HW3 := Lib.hid (below_call HW.out K1)
      have HO3 := Lib.hid (HO.out.next K1)
      have HC3 := Lib.hid (show w3.cell? ⟨b, 0 * 2, none⟩ = some (.int .i64 c.1) ∧ w3.cell? ⟨b, 0 * 2 + 1, none⟩ = some (.int .i64 c.2) from ⟨(K1.cell (p := ⟨b, 0 * 2, none⟩) HLB.out).trans HCC.out.1, (K1.cell (p := ⟨b, 0 * 2 + 1, none⟩) HLB.out).trans HCC.out.2⟩)
      clear K1 c0 c1
      go_upto_region 8 with fail
      have d0 := HC3.out.1
      have d1 := HC3.out.2
      have By := below_box w3 (.cells #[.int .i64 c.1, .int .i64 c.2] 33)
      have HOy := Lib.hid (show (w3.alloc (.cells #[.int .i64 c.1, .int .i64 c.2] 33)).ownsRow w.heap.size 33 2 (.slice oa on oc) on (Cel.pvals (byP (cornV L) L 0)) from by
        have o := HO3.out.next By
        unfold Cel.OwnPt at o
        rw [← HON.out] at o
        exact o)
      have HWy := Lib.hid (below_call HW3.out By)
      have HNW := Lib.hid (Cel.two_new w3 (.int .i64 c.1) (.int .i64 c.2) 33)
      have HH := Lib.hid (show w.heap.size ≤ (w3.alloc (.cells #[.int .i64 c.1, .int .i64 c.2] 33)).heap.size from HWy.out.size)
      have HGE := Lib.hid (fun q hq => (World.ownsRow.lt HO3.out q hq).1)
      clear By HO3
      go_upto_region 6 with (at_builtin; refine wpList_append_lies _ rfl (.tmp 79) (.tmp 84) 42 rfl w.heap.size 33 i0 (pt 0 0) 2 16 Try.underlying42 hi0 hz0 hz1 hz2 rfl (by decide) _ on (Cel.pvals (byP (cornV L) L 0)) rfl HOy.out ⟨w3.heap.size, 0, none⟩ 1 1 [.int .i64 c.1, .int .i64 c.2] rfl rfl HNW.out (by intro u hu; simp at hu; rcases hu with rfl | rfl <;> rfl) (by omega) (by unfold maxLen; omega) (by omega) HH.out _ rfl ?_; intro g7 cap6 w7 own7 grow7 at7 ltg7; have HA7 : Hid (ApndC w3 w.heap.size (.slice oa on oc) (byP (cornV L) L 0) c w7 g7 (on + 1) cap6) := Lib.hid ⟨own7, grow7⟩; clear own7 grow7 at7 ltg7)
      have HO7 := Lib.hid (HA7.out.row (by rw [HON.out]))
      have HW7 := Lib.hid (HWy.out.grown HA7.out.grow HWy.out.size HGE.out)
      have HK7 := Lib.hid (show byP (cornV L) L (0 + 1) = byP (cornV L) L 0 ++ [c] by rw [← HCE.out]; exact byP_yes HPK.out)
      clear d0 d1 HA7 HOy HWy HNW HH HGE
      go_wp2
      go_roundw
      case rel => exact ⟨0 + 1, some ⟨g7, 0, none⟩, on + 1, cap6, by omega, by congr 1, rfl, by rw [HK7.out, List.length_append, HON.out]; rfl, by rw [HK7.out]; exact HO7, HW7⟩
      case measure => simp [intOf]; omega
    have g0 : ¬ ((k : Int) = 0) := by omega
    have g0' : ((k : Int) == 0) = false := by simp; omega
    by_cases hkl : k + 1 = pl
    · have HPK := Lib.hid (show cornV L k = true by unfold cornV; exact decide_eq_true (.inr (.inl (by rw [← HN.out]; exact hkl))))
      have g1' : ((k : Int) == (pl : Int) - 1) = true := by simp; omega
      refine wp_region_kept (by kernel_rfl) (by kernel_rfl) ?_
      repeat (go_big_quiet_step (fail))
      refine wpQuiet_nil ?_
      rintro w3 ⟨⟨_, K1⟩, rfl⟩
      have HW3 := Lib.hid (below_call HW.out K1)
      have HO3 := Lib.hid (HO.out.next K1)
      have HC3 := Lib.hid (show w3.cell? ⟨b, k * 2, none⟩ = some (.int .i64 c.1) ∧ w3.cell? ⟨b, k * 2 + 1, none⟩ = some (.int .i64 c.2) from ⟨(K1.cell (p := ⟨b, k * 2, none⟩) HLB.out).trans HCC.out.1, (K1.cell (p := ⟨b, k * 2 + 1, none⟩) HLB.out).trans HCC.out.2⟩)
      clear K1 c0 c1
      go_upto_region 8 with fail
      have d0 := HC3.out.1
      have d1 := HC3.out.2
      have By := below_box w3 (.cells #[.int .i64 c.1, .int .i64 c.2] 33)
      have HOy := Lib.hid (show (w3.alloc (.cells #[.int .i64 c.1, .int .i64 c.2] 33)).ownsRow w.heap.size 33 2 (.slice oa on oc) on (Cel.pvals (byP (cornV L) L k)) from by
        have o := HO3.out.next By
        unfold Cel.OwnPt at o
        rw [← HON.out] at o
        exact o)
      have HWy := Lib.hid (below_call HW3.out By)
      have HNW := Lib.hid (Cel.two_new w3 (.int .i64 c.1) (.int .i64 c.2) 33)
      have HH := Lib.hid (show w.heap.size ≤ (w3.alloc (.cells #[.int .i64 c.1, .int .i64 c.2] 33)).heap.size from HWy.out.size)
      have HGE := Lib.hid (fun q hq => (World.ownsRow.lt HO3.out q hq).1)
      clear By HO3
      go_upto_region 6 with (at_builtin; refine wpList_append_lies _ rfl (.tmp 79) (.tmp 84) 42 rfl w.heap.size 33 i0 (pt 0 0) 2 16 Try.underlying42 hi0 hz0 hz1 hz2 rfl (by decide) _ on (Cel.pvals (byP (cornV L) L k)) rfl HOy.out ⟨w3.heap.size, 0, none⟩ 1 1 [.int .i64 c.1, .int .i64 c.2] rfl rfl HNW.out (by intro u hu; simp at hu; rcases hu with rfl | rfl <;> rfl) (by omega) (by unfold maxLen; omega) (by omega) HH.out _ rfl ?_; intro g7 cap6 w7 own7 grow7 at7 ltg7; have HA7 : Hid (ApndC w3 w.heap.size (.slice oa on oc) (byP (cornV L) L k) c w7 g7 (on + 1) cap6) := Lib.hid ⟨own7, grow7⟩; clear own7 grow7 at7 ltg7)
      have HO7 := Lib.hid (HA7.out.row (by rw [HON.out]))
      have HW7 := Lib.hid (HWy.out.grown HA7.out.grow HWy.out.size HGE.out)
      have HK7 := Lib.hid (show byP (cornV L) L (k + 1) = byP (cornV L) L k ++ [c] by rw [← HCE.out]; exact byP_yes HPK.out)
      clear d0 d1 HA7 HOy HWy HNW HH HGE
      go_wp2
      go_roundw
      case rel => exact ⟨k + 1, some ⟨g7, 0, none⟩, on + 1, cap6, by omega, by congr 1, rfl, by rw [HK7.out, List.length_append, HON.out]; rfl, by rw [HK7.out]; exact HO7, HW7⟩
      case measure => simp [intOf]; omega
    have g1 : ¬ ((k : Int) = (pl : Int) - 1) := by omega
    have g1' : ((k : Int) == (pl : Int) - 1) = false := by simp; omega
    obtain ⟨j, hj⟩ : ∃ j : Nat, k = j + 1 := ⟨k - 1, by omega⟩
    have o2 : IntKind.i64.wrap ((k : Int) - 1) = (j : Int) := by rw [show (k : Int) - 1 = (j : Int) by omega]; exact wrap_in (by omega) (by omega)
    obtain ⟨m, hm⟩ : ∃ m : Nat, k + 1 = m := ⟨_, rfl⟩
    have o3 : IntKind.i64.wrap ((k : Int) + 1) = (m : Int) := by rw [show (k : Int) + 1 = (m : Int) by omega]; exact wrap_in (by omega) (by omega)
    have j3 : (0 : Int) ≤ (j : Int) := by omega
    have j4 : (j : Int) < (pl : Int) := by omega
    have j5 : (0 : Int) ≤ (m : Int) := by omega
    have j6 : (m : Int) < (pl : Int) := by omega
    have j7 : j < pl := by omega
    have j8 : m < pl := by omega
    obtain ⟨x, hx⟩ : ∃ x, L.getD j (0, 0) = x := ⟨_, rfl⟩
    obtain ⟨y, hy⟩ : ∃ y, L.getD m (0, 0) = y := ⟨_, rfl⟩
    have HCX := HC.out j j7
    have HCY := HC.out m j8
    rw [hx] at HCX
    rw [hy] at HCY
    have u0 := keptCell HLB.out HCX.1
    have u1 := keptCell HLB.out HCX.2
    have u2 := keptCell HLB.out HCY.1
    have u3 := keptCell HLB.out HCY.2
    obtain ⟨p1, o4⟩ : ∃ p1, IntKind.i64.wrap (c.1 - x.1) = p1 := ⟨_, rfl⟩
    obtain ⟨p2, o5⟩ : ∃ p2, IntKind.i64.wrap (y.1 - c.1) = p2 := ⟨_, rfl⟩
    obtain ⟨r1, o6⟩ : ∃ r1, IntKind.i64.wrap (c.2 - x.2) = r1 := ⟨_, rfl⟩
    obtain ⟨r2, o7⟩ : ∃ r2, IntKind.i64.wrap (y.2 - c.2) = r2 := ⟨_, rfl⟩
    have HRR := Lib.hid (show cornV L k = decide (p1 ≠ p2 ∨ r1 ≠ r2) by
      unfold cornV dif
      rw [show k - 1 = j by omega, hm, hx, hy, HCE.out, o4, o5, o6, o7]
      simp only [decide_eq_decide]
      have hm2 : m ≠ L.length := by rw [← HN.out]; omega
      exact ⟨fun q => by rcases q with q | q | q; exact absurd q hk0; exact absurd q hm2; exact q, fun q => .inr (.inr q)⟩)
    have HMM := Lib.hid hm
    clear hx hy hm hj HCX HCY hkl hk0
    by_cases e1 : p1 = p2
    rotate_left
    · have e1' : (p1 != p2) = true := by simpa using e1
      have HPK := Lib.hid (show cornV L k = true by rw [HRR.out]; exact decide_eq_true (.inl e1))
      refine wp_region_kept (by kernel_rfl) (by kernel_rfl) ?_
      repeat (go_big_quiet_step (fail))
      refine wpQuiet_nil ?_
      rintro w3 ⟨⟨_, K1⟩, rfl⟩
      clear u0 u1 u2 u3 o2 o3 o4 o5 o6 o7 HRR
      have g9 := HMM.out
      have HW3 := Lib.hid (below_call HW.out K1)
      have HO3 := Lib.hid (HO.out.next K1)
      have HC3 := Lib.hid (show w3.cell? ⟨b, k * 2, none⟩ = some (.int .i64 c.1) ∧ w3.cell? ⟨b, k * 2 + 1, none⟩ = some (.int .i64 c.2) from ⟨(K1.cell (p := ⟨b, k * 2, none⟩) HLB.out).trans HCC.out.1, (K1.cell (p := ⟨b, k * 2 + 1, none⟩) HLB.out).trans HCC.out.2⟩)
      clear K1 c0 c1
      go_upto_region 8 with fail
      have d0 := HC3.out.1
      have d1 := HC3.out.2
      have By := below_box w3 (.cells #[.int .i64 c.1, .int .i64 c.2] 33)
      have HOy := Lib.hid (show (w3.alloc (.cells #[.int .i64 c.1, .int .i64 c.2] 33)).ownsRow w.heap.size 33 2 (.slice oa on oc) on (Cel.pvals (byP (cornV L) L k)) from by
        have o := HO3.out.next By
        unfold Cel.OwnPt at o
        rw [← HON.out] at o
        exact o)
      have HWy := Lib.hid (below_call HW3.out By)
      have HNW := Lib.hid (Cel.two_new w3 (.int .i64 c.1) (.int .i64 c.2) 33)
      have HH := Lib.hid (show w.heap.size ≤ (w3.alloc (.cells #[.int .i64 c.1, .int .i64 c.2] 33)).heap.size from HWy.out.size)
      have HGE := Lib.hid (fun q hq => (World.ownsRow.lt HO3.out q hq).1)
      clear By HO3
      go_upto_region 6 with (at_builtin; refine wpList_append_lies _ rfl (.tmp 79) (.tmp 84) 42 rfl w.heap.size 33 i0 (pt 0 0) 2 16 Try.underlying42 hi0 hz0 hz1 hz2 rfl (by decide) _ on (Cel.pvals (byP (cornV L) L k)) rfl HOy.out ⟨w3.heap.size, 0, none⟩ 1 1 [.int .i64 c.1, .int .i64 c.2] rfl rfl HNW.out (by intro u hu; simp at hu; rcases hu with rfl | rfl <;> rfl) (by omega) (by unfold maxLen; omega) (by omega) HH.out _ rfl ?_; intro g7 cap6 w7 own7 grow7 at7 ltg7; have HA7 : Hid (ApndC w3 w.heap.size (.slice oa on oc) (byP (cornV L) L k) c w7 g7 (on + 1) cap6) := Lib.hid ⟨own7, grow7⟩; clear own7 grow7 at7 ltg7)
      have HO7 := Lib.hid (HA7.out.row (by rw [HON.out]))
      have HW7 := Lib.hid (HWy.out.grown HA7.out.grow HWy.out.size HGE.out)
      have HK7 := Lib.hid (show byP (cornV L) L (k + 1) = byP (cornV L) L k ++ [c] by rw [← HCE.out]; exact byP_yes HPK.out)
      clear d0 d1 HA7 HOy HWy HNW HH HGE
      go_wp2
      go_roundw
      case rel => exact ⟨k + 1, some ⟨g7, 0, none⟩, on + 1, cap6, by omega, by congr 1, rfl, by rw [HK7.out, List.length_append, HON.out]; rfl, by rw [HK7.out]; exact HO7, HW7⟩
      case measure => simp [intOf]; omega
    have e1' : (p1 != p2) = false := by simpa using e1
    by_cases e2 : r1 = r2
    rotate_left
    · have e2' : (r1 != r2) = true := by simpa using e2
      have HPK := Lib.hid (show cornV L k = true by rw [HRR.out]; exact decide_eq_true (.inr e2))
      clear e1
      refine wp_region_kept (by kernel_rfl) (by kernel_rfl) ?_
      repeat (go_big_quiet_step (fail))
      refine wpQuiet_nil ?_
      rintro w3 ⟨⟨_, K1⟩, rfl⟩
      clear u0 u1 u2 u3 o2 o3 o4 o5 o6 o7 HRR
      have g9 := HMM.out
      have HW3 := Lib.hid (below_call HW.out K1)
      have HO3 := Lib.hid (HO.out.next K1)
      have HC3 := Lib.hid (show w3.cell? ⟨b, k * 2, none⟩ = some (.int .i64 c.1) ∧ w3.cell? ⟨b, k * 2 + 1, none⟩ = some (.int .i64 c.2) from ⟨(K1.cell (p := ⟨b, k * 2, none⟩) HLB.out).trans HCC.out.1, (K1.cell (p := ⟨b, k * 2 + 1, none⟩) HLB.out).trans HCC.out.2⟩)
      clear K1 c0 c1
      go_upto_region 8 with fail
      have d0 := HC3.out.1
      have d1 := HC3.out.2
      have By := below_box w3 (.cells #[.int .i64 c.1, .int .i64 c.2] 33)
      have HOy := Lib.hid (show (w3.alloc (.cells #[.int .i64 c.1, .int .i64 c.2] 33)).ownsRow w.heap.size 33 2 (.slice oa on oc) on (Cel.pvals (byP (cornV L) L k)) from by
        have o := HO3.out.next By
        unfold Cel.OwnPt at o
        rw [← HON.out] at o
        exact o)
      have HWy := Lib.hid (below_call HW3.out By)
      have HNW := Lib.hid (Cel.two_new w3 (.int .i64 c.1) (.int .i64 c.2) 33)
      have HH := Lib.hid (show w.heap.size ≤ (w3.alloc (.cells #[.int .i64 c.1, .int .i64 c.2] 33)).heap.size from HWy.out.size)
      have HGE := Lib.hid (fun q hq => (World.ownsRow.lt HO3.out q hq).1)
      clear By HO3
      go_upto_region 6 with (at_builtin; refine wpList_append_lies _ rfl (.tmp 79) (.tmp 84) 42 rfl w.heap.size 33 i0 (pt 0 0) 2 16 Try.underlying42 hi0 hz0 hz1 hz2 rfl (by decide) _ on (Cel.pvals (byP (cornV L) L k)) rfl HOy.out ⟨w3.heap.size, 0, none⟩ 1 1 [.int .i64 c.1, .int .i64 c.2] rfl rfl HNW.out (by intro u hu; simp at hu; rcases hu with rfl | rfl <;> rfl) (by omega) (by unfold maxLen; omega) (by omega) HH.out _ rfl ?_; intro g7 cap6 w7 own7 grow7 at7 ltg7; have HA7 : Hid (ApndC w3 w.heap.size (.slice oa on oc) (byP (cornV L) L k) c w7 g7 (on + 1) cap6) := Lib.hid ⟨own7, grow7⟩; clear own7 grow7 at7 ltg7)
      have HO7 := Lib.hid (HA7.out.row (by rw [HON.out]))
      have HW7 := Lib.hid (HWy.out.grown HA7.out.grow HWy.out.size HGE.out)
      have HK7 := Lib.hid (show byP (cornV L) L (k + 1) = byP (cornV L) L k ++ [c] by rw [← HCE.out]; exact byP_yes HPK.out)
      clear d0 d1 HA7 HOy HWy HNW HH HGE
      go_wp2
      go_roundw
      case rel => exact ⟨k + 1, some ⟨g7, 0, none⟩, on + 1, cap6, by omega, by congr 1, rfl, by rw [HK7.out, List.length_append, HON.out]; rfl, by rw [HK7.out]; exact HO7, HW7⟩
      case measure => simp [intOf]; omega
    have e2' : (r1 != r2) = false := by simpa using e2
    have HPK := Lib.hid (show cornV L k = false by rw [HRR.out]; exact decide_eq_false (by rintro (q | q); exact q e1; exact q e2))
    clear e1 e2
    refine wp_region_kept (by kernel_rfl) (by kernel_rfl) ?_
    repeat (go_big_quiet_step (fail))
    refine wpQuiet_nil ?_
    rintro w3 ⟨⟨_, K1⟩, rfl⟩
    clear u0 u1 u2 u3 o2 o3 o4 o5 o6 o7 HRR
    have HW3 := Lib.hid (below_call HW.out K1)
    have HO3 := Lib.hid (HO.out.next K1)
    have HK7 := Lib.hid (show byP (cornV L) L (k + 1) = byP (cornV L) L k from byP_no HPK.out)
    clear K1 c0 c1
    go_wp2
    go_roundw
    case rel => exact ⟨k + 1, oa, on, oc, by omega, by congr 1, rfl, by rw [HK7.out]; exact HON.out, by rw [HK7.out]; exact HO3, HW3⟩
    case measure => simp [intOf]; omega
end Go.Proofs.Ytkogoflcacameaa
