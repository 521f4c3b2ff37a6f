/- The walk of the law FnExactLinePoints: it returns true at every argument. -/
import Derived.Test.YtcoaahfnbgkofaaLn6
import Derived.Test.YtcoaahfnbgkofaaLs6
namespace Go.Proofs.Ytcoaahfnbgkofaa
set_option maxRecDepth 100000
open Go.RowKit
attribute [local go_sem ↓] Go.wp_at_zero Go.wp_at_succ
set_option maxHeartbeats 2000000 in
theorem walkFnExactLinePoints (ax ay bx b_y n : Int) (w : World) :
    Calls Try.prog 8 #[pt ax ay, pt bx b_y, .int .i64 n] w fun e w' => e = .returned (.bool true) ∧ Below w.heap.size w w' := by
  have HB := Lib.hid (below_box2 w (.cells #[.int .i64 ax, .int .i64 ay] 53) (.cells #[.int .i64 bx, .int .i64 b_y] 53))
  obtain ⟨PA, PB⟩ := at2 w ax ay bx b_y 53
  have HL := Lib.hid (lineV_len ax ay bx b_y n)
  generalize hL : lineV ax ay bx b_y n = L at *
  have HE := Lib.hid hL
  clear hL
  go_enter Try.func8, Try.ntmps8
  go_wp2
  generalize (w.alloc (.cells #[.int .i64 ax, .int .i64 ay] 53)).alloc (.cells #[.int .i64 bx, .int .i64 b_y] 53) = u0 at *
  have HT1 := Lib.hid (fun (q : Kept u0) => keptCall (toPoint ax ay q.u))
  have HT2 := Lib.hid (fun (q : Kept u0) => keptCall (toPoint bx b_y q.u))
  obtain ⟨e1, e2⟩ := PA.kepts
  obtain ⟨e3, e4⟩ := PB.kepts
  refine wp_region_ktail 5 (by kernel_rfl) (by kernel_rfl) ?_
  simp only [List.take_succ_cons, List.take_zero, List.drop_succ_cons, List.drop_zero]
  repeat (go_big_quiet_step ((first | (go_at_call 34; with_reducible exact HT1.out _) | (go_at_call 34; with_reducible exact HT2.out _))))
  refine wpQuiet_nil ?_
  rintro u1 ⟨⟨_, K1⟩, rfl⟩
  replace PA := PA.next K1
  replace PB := PB.next K1
  replace HB := Lib.hid (below_call HB.out K1)
  clear K1 e1 e2 e3 e4 HT1 HT2
  go_wp2_with fail
  refine (specLinePoints ax ay bx b_y n _).mono ?_
  rintro e u2 ⟨⟨sa, sl, sc⟩, rfl, l2, O2, K2⟩
  rw [HE.out] at l2 O2
  have W2 := Lib.hid O2.ints
  replace PA := PA.next K2
  replace PB := PB.next K2
  replace HB := Lib.hid (below_call HB.out K2)
  simp only at *
  have hl : sl ≤ 401 := by rw [l2]; exact HL.out
  have HLL := Lib.hid l2
  clear K2 O2 l2
  go_wp2
  have HT1 := Lib.hid (fun (q : Kept u2) => keptCall (toPoint ax ay q.u))
  have HT2 := Lib.hid (fun (q : Kept u2) => keptCall (toPoint bx b_y q.u))
  obtain ⟨e1, e2⟩ := PA.kepts
  obtain ⟨e3, e4⟩ := PB.kepts
  refine wp_region_ktail 5 (by kernel_rfl) (by kernel_rfl) ?_
  simp only [List.take_succ_cons, List.take_zero, List.drop_succ_cons, List.drop_zero]
  repeat (go_big_quiet_step ((first | (go_at_call 34; with_reducible exact HT1.out _) | (go_at_call 34; with_reducible exact HT2.out _))))
  refine wpQuiet_nil ?_
  rintro u3 ⟨⟨_, K3⟩, rfl⟩
  have HPA := Lib.hid (And.intro PA PB)
  clear PA PB
  have HK := Lib.hid (K3)
  clear K3 e1 e2 e3 e4 HT1 HT2
  go_wp2_with fail
  refine (implLinePoints ax ay bx b_y n _).mono ?_
  rintro e u4 ⟨⟨ta, tl, tc⟩, rfl, l4, O4, K4⟩
  rw [HE.out] at l4 O4
  simp only at *
  obtain rfl : tl = sl := by rw [l4, HLL.out]
  have HG := Lib.hid (fun q hq => Nat.le_trans HK.out.size (World.ownsRow.lt O4 q hq).1)
  replace HK := Lib.hid (below_call HK.out K4)
  clear K4 l4
  go_wp2_with fail
  refine (eqPointS ta sa tl tl tc sc L _ O4.ints (W2.out.next HK.out) (by omega)).mono ?_
  rintro e u5 ⟨rfl, K5⟩
  replace O4 := O4.next K5
  replace HK := Lib.hid (below_call HK.out K5)
  clear K5
  go_wp2_with fail
  refine (markPointS ta tl tc _ L 1 _ O4 (by omega) (by omega) (by omega)).mono ?_
  rintro e u6 ⟨rfl, O6, G6, S6⟩
  replace HK := Lib.hid (HK.out.grown G6 HK.out.size HG.out)
  have e2 : ((1 + 2 * (tl : Int)) != (1 + 2 * (tl : Int))) = false := by simp
  clear O4 G6 S6
  go_wp2_with fail
  refine (heldPointS ta tl tc 1 _ O6.ints (by omega) (by omega) (by omega)).mono ?_
  rintro e w' ⟨rfl, rfl⟩
  have PA := HPA.out.1.next HK.out
  have PB := HPA.out.2.next HK.out
  go_wp2
  have HT1 := Lib.hid (fun (q : Kept u6) => keptCall (toPoint ax ay q.u))
  have HT2 := Lib.hid (fun (q : Kept u6) => keptCall (toPoint bx b_y q.u))
  obtain ⟨e11, e12⟩ := PA.kepts
  obtain ⟨e13, e14⟩ := PB.kepts
  refine wp_region_ktail 5 (by kernel_rfl) (by kernel_rfl) ?_
  simp only [List.take_succ_cons, List.take_zero, List.drop_succ_cons, List.drop_zero]
  repeat (go_big_quiet_step ((first | (go_at_call 34; with_reducible exact HT1.out _) | (go_at_call 34; with_reducible exact HT2.out _))))
  refine wpQuiet_nil ?_
  rintro u7 ⟨⟨_, K7⟩, rfl⟩
  replace HK := Lib.hid (below_call HK.out K7)
  replace O6 := O6.next K7
  clear PA PB K7 e11 e12 e13 e14 HT1 HT2
  go_wp2_with fail
  refine (implLinePoints ax ay bx b_y n _).mono ?_
  rintro e u8 ⟨⟨ra, rl, rc⟩, rfl, l8, O8, K8⟩
  rw [HE.out] at l8 O8
  simp only at *
  obtain rfl : tl = rl := by rw [l8, HLL.out]
  replace HK := Lib.hid (below_call HK.out K8)
  replace O6 := O6.next K8
  clear K8 l8
  go_wp2_with fail
  refine (eqPointS ra sa tl tl rc sc L _ O8.ints (W2.out.next HK.out) (by omega)).mono ?_
  rintro e u9 ⟨rfl, K9⟩
  replace HK := Lib.hid (below_call HK.out K9)
  replace O6 := O6.next K9
  clear K9 O8
  go_wp2_with fail
  refine (heldPointS ta tl tc 1 _ O6.ints (by omega) (by omega) (by omega)).mono ?_
  rintro e w' ⟨rfl, rfl⟩
  go_wp2
  go_ret
  exact ⟨rfl, below_call HB.out HK.out⟩
end Go.Proofs.Ytcoaahfnbgkofaa
