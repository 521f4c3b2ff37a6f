/- The program's PathCorners. -/
import Derived.Test.YtkogoflcacameaaIm11j
import Derived.Test.YtkogoflcacameaaSb11
namespace Go.Proofs.Ytkogoflcacameaa
set_option maxRecDepth 100000
open Go.RowKit
attribute [local go_sem ↓] Go.wp_at_zero Go.wp_at_succ
/-- The cells at the places that p picks. -/
def byP (p : Nat → Bool) (L : List C2) (k : Nat) : List C2 := ((List.range k).filter p).map fun i => L.getD i (0, 0)
theorem byP_yes {p : Nat → Bool} {L : List C2} {k : Nat} (h : p k = true) : byP p L (k + 1) = byP p L k ++ [L.getD k (0, 0)] := by
  unfold byP; rw [List.range_succ, List.filter_append, List.map_append]; simp [h]
theorem byP_no {p : Nat → Bool} {L : List C2} {k : Nat} (h : p k = false) : byP p L (k + 1) = byP p L k := by
  unfold byP; rw [List.range_succ, List.filter_append, List.map_append]; simp [h]
theorem byP_len (p : Nat → Bool) (L : List C2) (k : Nat) : (byP p L k).length ≤ k := by
  unfold byP; rw [List.length_map]; exact Nat.le_trans (List.length_filter_le _ _) (by simp)
/-- The step to the cell at k is that to the next one. -/
def strI (L : List C2) (k : Nat) : Bool := evenV (L.getD (k - 1) (0, 0)).1 (L.getD k (0, 0)).1 (L.getD (k + 1) (0, 0)).1 && evenV (L.getD (k - 1) (0, 0)).2 (L.getD k (0, 0)).2 (L.getD (k + 1) (0, 0)).2
/-- The program's corners. -/
def cornI (L : List C2) (k : Nat) : Bool := decide (k = 0 ∨ k + 1 = L.length) || !strI L k
def cornersI (L : List C2) : List C2 := if 400 < L.length then [] else byP (cornI L) L L.length
/-- What the append of a cell leaves. -/
structure ApndC (w : World) (B : Nat) (qv : Value) (L : List C2) (c : C2) (w7 : World) (g n7 cap6 : Nat) : Prop where
  own : w7.ownsRow B 33 2 (.slice (some ⟨g, 0, none⟩) n7 cap6) n7 (Cel.pvals L ++ [.int .i64 c.1, .int .i64 c.2])
  grow : (w.alloc (.cells #[.int .i64 c.1, .int .i64 c.2] 33)).grownBy w7 qv.ownBlock
theorem ApndC.row {w w7 : World} {B g n7 cap6 : Nat} {qv : Value} {L : List C2} {c : C2} (h : ApndC w B qv L c w7 g n7 cap6) (hn : n7 = L.length + 1) : Cel.OwnPt w7 B (.slice (some ⟨g, 0, none⟩) n7 cap6) (L ++ [c]) := by
  subst hn
  have o := h.own
  unfold Cel.OwnPt
  rw [Cel.pvals_snoc, List.length_append, List.length_singleton]
  exact o
set_option maxHeartbeats 8000000 in
theorem implPathCorners (pa : Option Addr) (pl pc : Nat) (L : List C2) (w : World) (h : Cel.PtsAt w pa pl L) (hpl : pl ≤ 9223372036854775807) :
    Calls Try.prog 26 #[.slice pa pl pc] w (Cel.PtRow (cornersI L) w) := by
  obtain ⟨i0, hi0, hz0, hz1, hz2⟩ := info_parts Cel.infoPt6
  have HP := Lib.hid h
  have HN := Lib.hid h.1
  clear h
  by_cases h4 : 400 < pl
  · have q4 : (400 : Int) < (pl : Int) := by omega
    have HE := Lib.hid (show Cel.PtRow (cornersI L) w (.returned (.slice none 0 0)) w by rw [show cornersI L = [] from if_pos (by rw [← HN.out]; exact h4)]; exact Cel.nilPt w w (Below.refl _ _))
    clear h4
    go_enter Try.func26, Try.ntmps26
    go_wp2
    go_ret
    exact HE.out
  have q4 : ¬ ((400 : Int) < (pl : Int)) := by omega
  have hp4 : pl ≤ 400 := by omega
  have HCO := Lib.hid (show cornersI L = byP (cornI L) L L.length from if_neg (by rw [← HN.out]; exact h4))
  have o1 : IntKind.i64.wrap ((pl : Int) - 1) = (pl : Int) - 1 := wrap_in (by omega) (by omega)
  clear h4
  go_enter Try.func26, Try.ntmps26
  go_wp2
  go_loopw [3, 15] (fun ov iv wr => ∃ (k : Nat) (oa : Option Addr) (on oc : Nat), k ≤ pl ∧ iv = .int .i64 (k : Int) ∧ ov = .slice oa on oc ∧ on = (byP (cornI L) L k).length ∧ Hid (Cel.OwnPt wr w.heap.size (.slice oa on oc) (byP (cornI L) L k)) ∧ Hid (Below w.heap.size w wr)) (fun _ iv _ => pl - (intOf iv).toNat)
  case atStart => exact ⟨0, none, 0, 0, Nat.zero_le _, rfl, rfl, rfl, Lib.hid (World.ownsRow_nil _ _ _ _), Lib.hid (Below.refl _ _)⟩
  case round =>
    obtain ⟨k, oa, on, oc, hk, rfl, rfl, hon, HO, HW⟩ := hrel
    have HON := Lib.hid hon
    have hon4 : on ≤ 400 := by rw [hon]; exact Nat.le_trans (byP_len _ _ _) (by omega)
    clear hon
    by_cases hlt : k < pl
    rotate_left
    · obtain rfl : k = pl := by omega
      have j2 : ¬ ((k : Int) < (k : Int)) := by omega
      have HE := Lib.hid (show Cel.PtRow (cornersI L) w (.returned (.slice oa on oc)) wr by rw [HCO.out]; rw [← HN.out]; exact ⟨⟨oa, on, oc⟩, rfl, HON.out, HO.out, HW.out⟩)
      clear HO HON
      go_wp2
      go_ret
      exact HE.out
    obtain ⟨b, rfl, ltb, hc⟩ := (HP.out.next HW.out).some (by omega)
    have HLB := Lib.hid ltb
    have HC := Lib.hid hc
    obtain ⟨d0, d1⟩ := hc k hlt
    have j1 : (0 : Int) ≤ (k : Int) := by omega
    have j2 : (k : Int) < (pl : Int) := by omega
    clear hc ltb
    obtain ⟨c, hc⟩ : ∃ c, L.getD k (0, 0) = c := ⟨_, rfl⟩
    rw [hc] at d0 d1
    have HCE := Lib.hid hc
    clear hc
    have Bx := below_box wr (.cells #[.int .i64 c.1, .int .i64 c.2] 33)
    have HW2 := Lib.hid (below_call HW.out Bx)
    have HQ := Lib.hid (AtP.box wr c.1 c.2 33)
    have HO2 := Lib.hid (HO.out.next Bx)
    have HLB2 := Lib.hid (Nat.lt_of_lt_of_le HLB.out Bx.size)
    have HC2 := Lib.hid (fun i (hi : i < pl) => show (wr.alloc (.cells #[.int .i64 c.1, .int .i64 c.2] 33)).cell? ⟨b, i * 2, none⟩ = some (.int .i64 (L.getD i (0, 0)).1) ∧ (wr.alloc (.cells #[.int .i64 c.1, .int .i64 c.2] 33)).cell? ⟨b, i * 2 + 1, none⟩ = some (.int .i64 (L.getD i (0, 0)).2) from ⟨(Bx.cell (p := ⟨b, i * 2, none⟩) HLB.out).trans (HC.out i hi).1, (Bx.cell (p := ⟨b, i * 2 + 1, none⟩) HLB.out).trans (HC.out i hi).2⟩)
    have HSZ := Lib.hid (show wr.heap.size < (wr.alloc (.cells #[.int .i64 c.1, .int .i64 c.2] 33)).heap.size by simp)
    have HBW := Lib.hid HW.out.size
    have HOL := Lib.hid (fun q hq => (World.ownsRow.lt HO.out q hq).2)
    clear Bx HO HC
    go_upto_region 8 with fail
    generalize wr.alloc (.cells #[.int .i64 c.1, .int .i64 c.2] 33) = w2 at *
    clear d0 d1
    obtain ⟨e0', e1'⟩ := HQ.out.kepts
    by_cases hk0 : k = 0
    · subst hk0
      have HPK := Lib.hid (show cornI L 0 = true by unfold cornI; simp)
      refine wp_region_kept (by kernel_rfl) (by kernel_rfl) ?_
      repeat (go_big_quiet_step (fail))
      refine wpQuiet_nil ?_
      rintro w3 ⟨⟨_, K1⟩, rfl⟩
      have HQ3 := Lib.hid (HQ.out.next K1)
      have HW3 := Lib.hid (below_call HW2.out K1)
      have HO3 := Lib.hid (HO2.out.next K1)
      clear K1 e0' e1'
      go_upto_region 9 with fail
      have d0 := HQ3.out.c0
      have d1 := HQ3.out.c1
      have By := below_box w3 (.cells #[.int .i64 c.1, .int .i64 c.2] 33)
      have HOy := Lib.hid (show (w3.alloc (.cells #[.int .i64 c.1, .int .i64 c.2] 33)).ownsRow w.heap.size 33 2 (.slice oa on oc) on (Cel.pvals (byP (cornI L) L 0)) from by
        have o := HO3.out.next By
        unfold Cel.OwnPt at o
        rw [← HON.out] at o
        exact o)
      have HWy := Lib.hid (below_call HW3.out By)
      have HNW := Lib.hid (Cel.two_new w3 (.int .i64 c.1) (.int .i64 c.2) 33)
      have HH := Lib.hid (show w.heap.size ≤ (w3.alloc (.cells #[.int .i64 c.1, .int .i64 c.2] 33)).heap.size from HWy.out.size)
      have HGE := Lib.hid (fun q hq => (World.ownsRow.lt HO3.out q hq).1)
      clear By HO3
      go_upto_region 10 with (at_builtin; refine wpList_append_lies _ rfl (.tmp 42) (.tmp 44) 42 rfl w.heap.size 33 i0 (pt 0 0) 2 16 Try.underlying42 hi0 hz0 hz1 hz2 rfl (by decide) _ on (Cel.pvals (byP (cornI L) L 0)) rfl HOy.out ⟨w3.heap.size, 0, none⟩ 1 1 [.int .i64 c.1, .int .i64 c.2] rfl rfl HNW.out (by intro u hu; simp at hu; rcases hu with rfl | rfl <;> rfl) (by omega) (by unfold maxLen; omega) (by omega) HH.out _ rfl ?_; intro g7 cap6 w7 own7 grow7 at7 ltg7; have HA7 : Hid (ApndC w3 w.heap.size (.slice oa on oc) (byP (cornI L) L 0) c w7 g7 (on + 1) cap6) := Lib.hid ⟨own7, grow7⟩; clear own7 grow7 at7 ltg7)
      have HO7 := Lib.hid (HA7.out.row (by rw [HON.out]))
      have HW7 := Lib.hid (HWy.out.grown HA7.out.grow HWy.out.size HGE.out)
      have HK7 := Lib.hid (show byP (cornI L) L (0 + 1) = byP (cornI L) L 0 ++ [c] by rw [← HCE.out]; exact byP_yes HPK.out)
      clear d0 d1 HA7 HOy HWy HNW HH HGE
      go_wp2
      go_roundw
      case rel => exact ⟨0 + 1, some ⟨g7, 0, none⟩, on + 1, cap6, by omega, by congr 1, rfl, by rw [HK7.out, List.length_append, HON.out]; rfl, by rw [HK7.out]; exact HO7, HW7⟩
      case measure => simp [intOf]; omega
    have g0 : ¬ ((k : Int) = 0) := by omega
    have g0' : ((k : Int) == 0) = false := by simp; omega
    by_cases hkl : k + 1 = pl
    · have HPK := Lib.hid (show cornI L k = true by unfold cornI; rw [decide_eq_true (.inr (by rw [← HN.out]; exact hkl))]; rfl)
      have g1 : (k : Int) = (pl : Int) - 1 := by omega
      have g1' : ((k : Int) == (pl : Int) - 1) = true := by simp; omega
      have HG := Lib.hid g1
      clear g1
      refine wp_region_kept (by kernel_rfl) (by kernel_rfl) ?_
      repeat (go_big_quiet_step (fail))
      refine wpQuiet_nil ?_
      rintro w3 ⟨⟨_, K1⟩, rfl⟩
      have HQ3 := Lib.hid (HQ.out.next K1)
      have HW3 := Lib.hid (below_call HW2.out K1)
      have HO3 := Lib.hid (HO2.out.next K1)
      clear K1 e0' e1'
      go_upto_region 9 with fail
      have d0 := HQ3.out.c0
      have d1 := HQ3.out.c1
      have By := below_box w3 (.cells #[.int .i64 c.1, .int .i64 c.2] 33)
      have HOy := Lib.hid (show (w3.alloc (.cells #[.int .i64 c.1, .int .i64 c.2] 33)).ownsRow w.heap.size 33 2 (.slice oa on oc) on (Cel.pvals (byP (cornI L) L k)) from by
        have o := HO3.out.next By
        unfold Cel.OwnPt at o
        rw [← HON.out] at o
        exact o)
      have HWy := Lib.hid (below_call HW3.out By)
      have HNW := Lib.hid (Cel.two_new w3 (.int .i64 c.1) (.int .i64 c.2) 33)
      have HH := Lib.hid (show w.heap.size ≤ (w3.alloc (.cells #[.int .i64 c.1, .int .i64 c.2] 33)).heap.size from HWy.out.size)
      have HGE := Lib.hid (fun q hq => (World.ownsRow.lt HO3.out q hq).1)
      clear By HO3
      go_upto_region 10 with (at_builtin; refine wpList_append_lies _ rfl (.tmp 42) (.tmp 44) 42 rfl w.heap.size 33 i0 (pt 0 0) 2 16 Try.underlying42 hi0 hz0 hz1 hz2 rfl (by decide) _ on (Cel.pvals (byP (cornI L) L k)) rfl HOy.out ⟨w3.heap.size, 0, none⟩ 1 1 [.int .i64 c.1, .int .i64 c.2] rfl rfl HNW.out (by intro u hu; simp at hu; rcases hu with rfl | rfl <;> rfl) (by omega) (by unfold maxLen; omega) (by omega) HH.out _ rfl ?_; intro g7 cap6 w7 own7 grow7 at7 ltg7; have HA7 : Hid (ApndC w3 w.heap.size (.slice oa on oc) (byP (cornI L) L k) c w7 g7 (on + 1) cap6) := Lib.hid ⟨own7, grow7⟩; clear own7 grow7 at7 ltg7)
      have HO7 := Lib.hid (HA7.out.row (by rw [HON.out]))
      have HW7 := Lib.hid (HWy.out.grown HA7.out.grow HWy.out.size HGE.out)
      have HK7 := Lib.hid (show byP (cornI L) L (k + 1) = byP (cornI L) L k ++ [c] by rw [← HCE.out]; exact byP_yes HPK.out)
      clear d0 d1 HA7 HOy HWy HNW HH HGE
      go_wp2
      go_roundw
      case rel => exact ⟨k + 1, some ⟨g7, 0, none⟩, on + 1, cap6, by omega, by congr 1, rfl, by rw [HK7.out, List.length_append, HON.out]; rfl, by rw [HK7.out]; exact HO7, HW7⟩
      case measure => simp [intOf]; omega
    have g1 : ¬ ((k : Int) = (pl : Int) - 1) := by omega
    have g1' : ((k : Int) == (pl : Int) - 1) = false := by simp; omega
    obtain ⟨j, hj⟩ : ∃ j : Nat, k = j + 1 := ⟨k - 1, by omega⟩
    have o2 : IntKind.i64.wrap ((k : Int) - 1) = (j : Int) := by rw [show (k : Int) - 1 = (j : Int) by omega]; exact wrap_in (by omega) (by omega)
    obtain ⟨m, hm⟩ : ∃ m : Nat, k + 1 = m := ⟨_, rfl⟩
    have o3 : IntKind.i64.wrap ((k : Int) + 1) = (m : Int) := by rw [show (k : Int) + 1 = (m : Int) by omega]; exact wrap_in (by omega) (by omega)
    have j3 : (0 : Int) ≤ (j : Int) := by omega
    have j4 : (j : Int) < (pl : Int) := by omega
    have j5 : (0 : Int) ≤ (m : Int) := by omega
    have j6 : (m : Int) < (pl : Int) := by omega
    have j7 : j < pl := by omega
    have j8 : m < pl := by omega
    obtain ⟨x, hx⟩ : ∃ x, L.getD j (0, 0) = x := ⟨_, rfl⟩
    obtain ⟨y, hy⟩ : ∃ y, L.getD m (0, 0) = y := ⟨_, rfl⟩
    have HCX := HC2.out j j7
    have HCY := HC2.out m j8
    rw [hx] at HCX
    rw [hy] at HCY
    have u0 := keptCell HLB2.out HCX.1
    have u1 := keptCell HLB2.out HCX.2
    have u2 := keptCell HLB2.out HCY.1
    have u3 := keptCell HLB2.out HCY.2
    have HST := Lib.hid (show strI L k = (evenV x.1 c.1 y.1 && evenV x.2 c.2 y.2) by unfold strI; rw [show k - 1 = j by omega, hm, hx, hy, HCE.out])
    have HNK := Lib.hid (show cornI L k = !strI L k by unfold cornI; rw [decide_eq_false (by rintro (q | q); exact hk0 q; exact hkl (by rw [HN.out]; exact q))]; rfl)
    have HF := Lib.hid (fun (q : Kept w2) => keptCall (isStraightC x c y q.u))
    have HMM := Lib.hid hm
    have HJJ := Lib.hid hj
    clear hx hy hm hj HCX HCY hkl hk0
    cases hv : (evenV x.1 c.1 y.1 && evenV x.2 c.2 y.2) with
    | false =>
      rw [hv] at HF HST
      have HPK := Lib.hid (show cornI L k = true by rw [HNK.out, HST.out]; rfl)
      clear hv
      refine wp_region_kept (by kernel_rfl) (by kernel_rfl) ?_
      repeat (go_big_quiet_step ((go_at_call 52; with_reducible exact HF.out _)))
      refine wpQuiet_nil ?_
      rintro w3 ⟨⟨_, K1⟩, rfl⟩
      clear u0 u1 u2 u3 HF o2 o3
      have g9 := HMM.out
      have HQ3 := Lib.hid (HQ.out.next K1)
      have HW3 := Lib.hid (below_call HW2.out K1)
      have HO3 := Lib.hid (HO2.out.next K1)
      clear K1 e0' e1'
      go_upto_region 9 with fail
      have d0 := HQ3.out.c0
      have d1 := HQ3.out.c1
      have By := below_box w3 (.cells #[.int .i64 c.1, .int .i64 c.2] 33)
      have HOy := Lib.hid (show (w3.alloc (.cells #[.int .i64 c.1, .int .i64 c.2] 33)).ownsRow w.heap.size 33 2 (.slice oa on oc) on (Cel.pvals (byP (cornI L) L k)) from by
        have o := HO3.out.next By
        unfold Cel.OwnPt at o
        rw [← HON.out] at o
        exact o)
      have HWy := Lib.hid (below_call HW3.out By)
      have HNW := Lib.hid (Cel.two_new w3 (.int .i64 c.1) (.int .i64 c.2) 33)
      have HH := Lib.hid (show w.heap.size ≤ (w3.alloc (.cells #[.int .i64 c.1, .int .i64 c.2] 33)).heap.size from HWy.out.size)
      have HGE := Lib.hid (fun q hq => (World.ownsRow.lt HO3.out q hq).1)
      clear By HO3
      go_upto_region 10 with (at_builtin; refine wpList_append_lies _ rfl (.tmp 42) (.tmp 44) 42 rfl w.heap.size 33 i0 (pt 0 0) 2 16 Try.underlying42 hi0 hz0 hz1 hz2 rfl (by decide) _ on (Cel.pvals (byP (cornI L) L k)) rfl HOy.out ⟨w3.heap.size, 0, none⟩ 1 1 [.int .i64 c.1, .int .i64 c.2] rfl rfl HNW.out (by intro u hu; simp at hu; rcases hu with rfl | rfl <;> rfl) (by omega) (by unfold maxLen; omega) (by omega) HH.out _ rfl ?_; intro g7 cap6 w7 own7 grow7 at7 ltg7; have HA7 : Hid (ApndC w3 w.heap.size (.slice oa on oc) (byP (cornI L) L k) c w7 g7 (on + 1) cap6) := Lib.hid ⟨own7, grow7⟩; clear own7 grow7 at7 ltg7)
      have HO7 := Lib.hid (HA7.out.row (by rw [HON.out]))
      have HW7 := Lib.hid (HWy.out.grown HA7.out.grow HWy.out.size HGE.out)
      have HK7 := Lib.hid (show byP (cornI L) L (k + 1) = byP (cornI L) L k ++ [c] by rw [← HCE.out]; exact byP_yes HPK.out)
      clear d0 d1 HA7 HOy HWy HNW HH HGE
      go_wp2
      go_roundw
      case rel => exact ⟨k + 1, some ⟨g7, 0, none⟩, on + 1, cap6, by omega, by congr 1, rfl, by rw [HK7.out, List.length_append, HON.out]; rfl, by rw [HK7.out]; exact HO7, HW7⟩
      case measure => simp [intOf]; omega
    | true =>
      rw [hv] at HF HST
      have HPK := Lib.hid (show cornI L k = false by rw [HNK.out, HST.out]; rfl)
      clear hv
      refine wp_region_kept (by kernel_rfl) (by kernel_rfl) ?_
      repeat (go_big_quiet_step ((go_at_call 52; with_reducible exact HF.out _)))
      refine wpQuiet_nil ?_
      rintro w3 ⟨⟨_, K1⟩, rfl⟩
      clear u0 u1 u2 u3 HF o2 o3
      have HW3 := Lib.hid (below_call HW2.out K1)
      have HO3 := Lib.hid (HO2.out.next K1)
      have HK7 := Lib.hid (show byP (cornI L) L (k + 1) = byP (cornI L) L k from byP_no HPK.out)
      clear K1 e0' e1'
      go_wp2
      go_roundw
      case rel => exact ⟨k + 1, oa, on, oc, by omega, by congr 1, rfl, by rw [HK7.out]; exact HON.out, by rw [HK7.out]; exact HO3, HW3⟩
      case measure => simp [intOf]; omega
end Go.Proofs.Ytkogoflcacameaa
