/- The walk of the law FnExactArcPoints: it returns true at every argument. -/
import Derived.Test.YtlajpeoadgfobaaDoorArc6
import Derived.Test.YtlajpeoadgfobaaDoorAs6
namespace Go.Proofs.YtlajpeoadgfobaaDoor
set_option maxRecDepth 100000
open Go.RowKit
attribute [local go_sem ↓] Go.wp_at_zero Go.wp_at_succ
set_option maxHeartbeats 2000000 in
theorem walkFnExactArcPoints (cx cy r f t s : Int) (w : World) (ht : TabAt w) :
    Calls Tryd.prog 6 #[pt cx cy, .int .i64 r, .int .i64 f, .int .i64 t, .int .i64 s] w fun e w' => e = .returned (.bool true) ∧ Below w.heap.size w w' := by
  have HB := Lib.hid (below_box w (.cells #[.int .i64 cx, .int .i64 cy] 32))
  have PA := AtP.box w cx cy 32
  have HT := Lib.hid ht
  have HL := Lib.hid (arcV_len cx cy r f t s)
  generalize hL : arcV cx cy r f t s = L at *
  have HE := Lib.hid hL
  clear hL ht
  go_enter Tryd.func6, Tryd.ntmps6
  go_upto_region 1 with fail
  generalize w.alloc (.cells #[.int .i64 cx, .int .i64 cy] 32) = u0 at *
  obtain ⟨q0, q1, q2⟩ := id PA
  go_wp2_with fail
  refine (toPoint cx cy _).mono ?_
  rintro e u1 ⟨rfl, K⟩
  replace PA := PA.next K
  replace HB := Lib.hid (below_call HB.out K)
  clear K q0 q1 q2
  go_wp2_with fail
  refine (specArcPoints cx cy r f t s _).mono ?_
  rintro e u2 ⟨⟨sa, sl, sc⟩, rfl, l2, O2, K2⟩
  rw [HE.out] at l2 O2
  have W2 := Lib.hid O2.ints
  replace PA := PA.next K2
  replace HB := Lib.hid (below_call HB.out K2)
  simp only at *
  have hl : sl ≤ 721 := by rw [l2]; exact HL.out
  have HLL := Lib.hid l2
  clear K2 O2 l2
  obtain ⟨q0, q1, q2⟩ := id PA
  go_wp2_with fail
  refine (toPoint cx cy _).mono ?_
  rintro e u3 ⟨rfl, K⟩
  have HPA := Lib.hid PA
  have HK := Lib.hid K
  clear K q0 q1 q2 PA
  go_wp2_with fail
  refine (implArcPoints cx cy r f t s _ (HT.out.below (below_call HB.out HK.out) HT.out.lt)).mono ?_
  rintro e u4 ⟨⟨ta, tl, tc⟩, rfl, l4, O4, K4⟩
  rw [HE.out] at l4 O4
  simp only at *
  obtain rfl : tl = sl := by rw [l4, HLL.out]
  have HG := Lib.hid (fun q hq => Nat.le_trans HK.out.size (World.ownsRow.lt O4 q hq).1)
  replace HK := Lib.hid (below_call HK.out K4)
  clear K4 l4
  go_wp2_with fail
  refine (eqPointS ta sa tl tl tc sc L _ O4.ints (W2.out.next HK.out) (by omega)).mono ?_
  rintro e u5 ⟨rfl, K5⟩
  replace O4 := O4.next K5
  replace HK := Lib.hid (below_call HK.out K5)
  clear K5
  go_wp2_with fail
  refine (markPointS ta tl tc _ L 1 _ O4 (by omega) (by omega) (by omega)).mono ?_
  rintro e u6 ⟨rfl, O6, G6, S6⟩
  replace HK := Lib.hid (HK.out.grown G6 HK.out.size HG.out)
  have e2 : ((1 + 2 * (tl : Int)) != (1 + 2 * (tl : Int))) = false := by simp
  clear O4 G6 S6
  go_wp2_with fail
  refine (heldPointS ta tl tc 1 _ O6.ints (by omega) (by omega) (by omega)).mono ?_
  rintro e w' ⟨rfl, rfl⟩
  have PA := HPA.out.next HK.out
  obtain ⟨q0, q1, q2⟩ := id PA
  go_wp2_with fail
  refine (toPoint cx cy _).mono ?_
  rintro e u7 ⟨rfl, K⟩
  replace HK := Lib.hid (below_call HK.out K)
  replace O6 := O6.next K
  clear K q0 q1 q2 PA
  go_wp2_with fail
  refine (implArcPoints cx cy r f t s _ (HT.out.below (below_call HB.out HK.out) HT.out.lt)).mono ?_
  rintro e u8 ⟨⟨ra, rl, rc⟩, rfl, l8, O8, K8⟩
  rw [HE.out] at l8 O8
  simp only at *
  obtain rfl : tl = rl := by rw [l8, HLL.out]
  replace HK := Lib.hid (below_call HK.out K8)
  replace O6 := O6.next K8
  clear K8 l8
  go_wp2_with fail
  refine (eqPointS ra sa tl tl rc sc L _ O8.ints (W2.out.next HK.out) (by omega)).mono ?_
  rintro e u9 ⟨rfl, K9⟩
  replace HK := Lib.hid (below_call HK.out K9)
  replace O6 := O6.next K9
  clear K9 O8
  go_wp2_with fail
  refine (heldPointS ta tl tc 1 _ O6.ints (by omega) (by omega) (by omega)).mono ?_
  rintro e w' ⟨rfl, rfl⟩
  go_wp2
  go_ret
  exact ⟨rfl, below_call HB.out HK.out⟩
end Go.Proofs.YtlajpeoadgfobaaDoor
