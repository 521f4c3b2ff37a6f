/- The walk of the law FnCurveLine: it returns true at every code. -/
import Derived.Test.YtlbheofomjakmaaWc7
import Derived.Test.YtlbheofomjakmaaSr7
import Derived.Test.YtlbheofomjakmaaLn6
import Derived.Test.YtlbheofomjakmaaDraw2b
namespace Go.Proofs.Ytlbheofomjakmaa
set_option maxRecDepth 100000
open Go.RowKit
attribute [local go_sem ↓] Go.wp_at_zero Go.wp_at_succ
theorem pts_two (w : World) (ax ay bx b_y : Int) (T : TypeId) : PtsAt (w.alloc (.cells #[.int .i64 ax, .int .i64 ay, .int .i64 bx, .int .i64 b_y] T)) (some ⟨w.heap.size, 0, none⟩) 2 [(ax, ay), (bx, b_y)] := by
  refine ⟨rfl, .inr ⟨w.heap.size, rfl, by simp, fun i hi => ?_⟩⟩
  have hi2 : i = 0 ∨ i = 1 := by simp at hi; omega
  rcases hi2 with rfl | rfl <;> simp
theorem line_at {ax ay bx b_y : Int} (k : Nat) (hk : k ≤ 16) : ∃ px py qx qy dx dy : Int, (crvL [(ax, ay), (bx, b_y)] 16).getD k (0, 0) = (px, py) ∧ (lineL ax ay bx b_y 16).getD k (0, 0) = (qx, qy) ∧ px - qx = dx ∧ py - qy = dy ∧ 0 ≤ dx ∧ dx ≤ 1 ∧ 0 ≤ dy ∧ dy ≤ 1 := by
  have h := cur_line (ax, ay) (bx, b_y) (k : Int)
  refine ⟨_, _, _, _, _, _, crvL_at _ 16 k hk, lineL_at ax ay bx b_y 16 k hk, rfl, rfl, ?_⟩
  show 0 ≤ curX [(ax, ay), (bx, b_y)] ((k : Int) * 4) - lnC ax bx 16 k ∧ _
  exact h
set_option maxHeartbeats 4000000 in
theorem walkFnCurveLine (w : World) (a : Option Addr) (len cap : Nat) (zs : List Int) (h : Bytes w a len cap zs) :
    Calls Try.prog 7 #[.slice a len cap] w fun e w' => e = .returned (.bool true) ∧ Below w.heap.size w w' := by
  have hle := h.len_le
  obtain ⟨hl, hm⟩ := hle
  unfold maxLen at hm
  by_cases hlen : len ≤ 1048576
  · go_enter Try.func7, Try.ntmps7
    go_wp2_with fail
    refine (drawMidpoint w a len cap zs h).mono ?_
    rintro e w1 ⟨ax, ay, bx, b_y, _, rfl, B1⟩
    obtain ⟨PA, PB⟩ := at2 w1 ax ay bx b_y 31
    have HB := Lib.hid (below_call B1 (below_box2 w1 (.cells #[.int .i64 ax, .int .i64 ay] 31) (.cells #[.int .i64 bx, .int .i64 b_y] 31)))
    clear B1 h
    go_upto_region 4 with fail
    generalize (w1.alloc (.cells #[.int .i64 ax, .int .i64 ay] 31)).alloc (.cells #[.int .i64 bx, .int .i64 b_y] 31) = w2 at *
    generalize w1.heap.size = g1 at *
    obtain ⟨_, p0, p1⟩ := id PA
    by_cases ha : okP ax ay
    · have HA := Lib.hid ha
      clear ha
      go_wp2_with fail
      refine (specPointValidY ax ay _ HA.out).mono ?_
      rintro e w3 ⟨rfl, B3⟩
      replace PA := PA.next B3
      replace PB := PB.next B3
      replace HB := Lib.hid (below_call HB.out B3)
      clear B3 p0 p1
      obtain ⟨_, p0, p1⟩ := id PB
      by_cases hb : okP bx b_y
      · have HBb := Lib.hid hb
        clear hb
        go_wp2_with fail
        refine (specPointValidY bx b_y _ HBb.out).mono ?_
        rintro e w4 ⟨rfl, B4⟩
        replace PA := PA.next B4
        replace PB := PB.next B4
        replace HB := Lib.hid (below_call HB.out B4)
        clear B4 p0 p1
        have hokc : okCrvs [(ax, ay), (bx, b_y)] 16 := ⟨⟨by simp, by simp, fun p hp => by
          simp only [List.mem_cons, List.not_mem_nil, or_false] at hp
          rcases hp with rfl | rfl
          · exact HA.out
          · exact HBb.out⟩, by omega, by omega, rfl⟩
        have HCV := Lib.hid (show crvV [(ax, ay), (bx, b_y)] 16 = crvL [(ax, ay), (bx, b_y)] 16 from crvV_in hokc)
        have HLV := Lib.hid (show lineV ax ay bx b_y 16 = lineL ax ay bx b_y 16 from lineV_in ⟨HA.out, HBb.out, by omega, by omega⟩)
        have HCL := Lib.hid (crvL_len [(ax, ay), (bx, b_y)] 16)
        have HLL := Lib.hid (lineL_len ax ay bx b_y 16)
        have HAT := Lib.hid (fun (k : Nat) (hk : k ≤ 16) => line_at (ax := ax) (ay := ay) (bx := bx) (b_y := b_y) k hk)
        clear hokc
        obtain ⟨_, p0, p1⟩ := id PA
        obtain ⟨_, p2, p3⟩ := id PB
        have PT := pts_two w4 ax ay bx b_y 31
        have W5 := below_box w4 (.cells #[.int .i64 ax, .int .i64 ay, .int .i64 bx, .int .i64 b_y] 31)
        go_wp2_with fail
        refine (implCurvePoints _ 2 2 [(ax, ay), (bx, b_y)] 16 _ PT (by omega)).mono ?_
        rw [HCV.out]
        rintro e w6 ⟨⟨ra, rl, rc⟩, rfl, l6, O6, B6⟩
        simp only at *
        rw [HCL.out] at l6
        subst l6
        replace PA := (PA.next W5).next B6
        replace PB := (PB.next W5).next B6
        replace HB := Lib.hid (below_call (below_call HB.out W5) B6)
        clear W5 B6 PT p0 p1 p2 p3
        obtain ⟨_, p0, p1⟩ := id PA
        obtain ⟨_, p2, p3⟩ := id PB
        go_wp2_with fail
        refine (implLinePoints ax ay bx b_y 16 _).mono ?_
        rw [HLV.out]
        rintro e w7 ⟨⟨la, ll, lc⟩, rfl, l7, O7, B7⟩
        simp only at *
        rw [HLL.out] at l7
        subst l7
        replace PA := PA.next B7
        replace PB := PB.next B7
        replace O6 := O6.next B7
        replace HB := Lib.hid (below_call HB.out B7)
        clear B7 p0 p1 p2 p3
        obtain ⟨_, p0, p1⟩ := id PA
        obtain ⟨_, p2, p3⟩ := id PB
        have PT := pts_two w7 ax ay bx b_y 31
        have W8 := below_box w7 (.cells #[.int .i64 ax, .int .i64 ay, .int .i64 bx, .int .i64 b_y] 31)
        go_wp2_with fail
        refine (specCurvePoints _ 2 2 [(ax, ay), (bx, b_y)] 16 _ PT (by omega)).mono ?_
        rw [HCV.out]
        rintro e w8 ⟨⟨sa, sl, sc⟩, rfl, l8, O8, B8⟩
        simp only at *
        rw [HCL.out] at l8
        subst l8
        replace O6 := (O6.next W8).next B8
        replace O7 := (O7.next W8).next B8
        replace HB := Lib.hid (below_call (below_call HB.out W8) B8)
        clear W8 B8 PT p0 p1 p2 p3 PA PB
        go_wp2_with fail
        refine (samePoints _ _ _ _ _ _ (crvL [(ax, ay), (bx, b_y)] 16) _ O6.ints O8.ints (by omega)).mono ?_
        rintro e w9 ⟨rfl, B9⟩
        replace O6 := O6.next B9
        replace O7 := O7.next B9
        replace HB := Lib.hid (below_call HB.out B9)
        clear B9 O8
        obtain ⟨b1, rfl, lt1, hc1⟩ := O6.ints.some (by omega)
        obtain ⟨b2, rfl, lt2, hc2⟩ := O7.ints.some (by omega)
        have HC1 := Lib.hid hc1
        have HC2 := Lib.hid hc2
        have HLT := Lib.hid (And.intro lt1 lt2)
        clear hc1 hc2 lt1 lt2 O6 O7
        go_wp2
        go_loopw [7] (fun i wr => ∃ k : Nat, k ≤ 17 ∧ i = .int .i64 (k : Int) ∧ Hid (Below w9.heap.size w9 wr)) (fun i _ => 17 - (intOf i).toNat)
        case atStart => exact ⟨0, Nat.zero_le _, rfl, Lib.hid (Below.refl _ _)⟩
        case round =>
          obtain ⟨k, hk, rfl, HW⟩ := hrel
          by_cases hlt : k < 17
          · obtain ⟨c0, c1⟩ := HC1.out k hlt
            obtain ⟨c2, c3⟩ := HC2.out k hlt
            obtain ⟨px, py, qx, qy, dx, dy, k1, k2, k3, k4, k5, k6, k7, k8⟩ := HAT.out k (by omega)
            rw [k1] at c0 c1
            rw [k2] at c2 c3
            have d0 := keptCell (Nat.lt_of_lt_of_le HLT.out.1 HW.out.size) ((HW.out.cell (p := ⟨b1, k * 2, none⟩) HLT.out.1).trans c0)
            have d1 := keptCell (Nat.lt_of_lt_of_le HLT.out.1 HW.out.size) ((HW.out.cell (p := ⟨b1, k * 2 + 1, none⟩) HLT.out.1).trans c1)
            have d2 := keptCell (Nat.lt_of_lt_of_le HLT.out.2 HW.out.size) ((HW.out.cell (p := ⟨b2, k * 2, none⟩) HLT.out.2).trans c2)
            have d3 := keptCell (Nat.lt_of_lt_of_le HLT.out.2 HW.out.size) ((HW.out.cell (p := ⟨b2, k * 2 + 1, none⟩) HLT.out.2).trans c3)
            have HX := Lib.hid (fun (q : Kept wr) => keptSame (abs7 dx q.u (by omega) (by omega)))
            have HY := Lib.hid (fun (q : Kept wr) => keptSame (abs7 dy q.u (by omega) (by omega)))
            rw [show max dx (-dx) = dx by omega] at HX
            rw [show max dy (-dy) = dy by omega] at HY
            have o1 : IntKind.i64.wrap dx = dx := wrap_in (by omega) (by omega)
            have o2 : IntKind.i64.wrap dy = dy := wrap_in (by omega) (by omega)
            have n1 : decide (1 < dx) = false := decide_eq_false (by omega)
            have n2 : decide (1 < dy) = false := decide_eq_false (by omega)
            have j1 : (0 : Int) ≤ (k : Int) := by omega
            have j2 : (k : Int) < 17 := by omega
            clear c0 c1 c2 c3 k1 k2 k5 k6 k7 k8
            simp only at d0 d1 d2 d3
            go_wp2
            refine wp_region_kept (by kernel_rfl) (by kernel_rfl) ?_
            repeat (go_big_quiet_step ((first | (go_at_call_of 20 (Value.int IntKind.i64 dx); with_reducible exact HX.out _) | (go_at_call_of 20 (Value.int IntKind.i64 dy); with_reducible exact HY.out _))))
            refine wpQuiet_nil ?_
            rintro wq ⟨⟨_, Bq⟩, rfl⟩
            have HW2 := Lib.hid (below_call HW.out Bq)
            clear k3 k4 o1 o2
            go_wp2
            go_roundw
            case rel => exact ⟨k + 1, by omega, by congr 1, HW2⟩
            case measure => simp [intOf]; omega
          · obtain rfl : k = 17 := by omega
            go_wp2
            go_ret
            exact ⟨rfl, below_call HB.out HW.out⟩
      · have HNB := Lib.hid hb
        clear hb
        go_wp2_with fail
        refine (specPointValidN bx b_y _ HNB.out).mono ?_
        rintro e w4 ⟨rfl, B4⟩
        replace HB := Lib.hid (below_call HB.out B4)
        clear B4 p0 p1 PA PB
        go_wp2_with fail
        refine (alive _).mono ?_
        rintro e w' ⟨rfl, rfl⟩
        go_wp2
        go_ret
        exact ⟨rfl, HB.out⟩
    · have HNA := Lib.hid ha
      clear ha
      go_wp2_with fail
      refine (specPointValidN ax ay _ HNA.out).mono ?_
      rintro e w3 ⟨rfl, B3⟩
      replace HB := Lib.hid (below_call HB.out B3)
      clear B3 p0 p1 PA PB
      go_wp2_with fail
      refine (alive _).mono ?_
      rintro e w' ⟨rfl, rfl⟩
      go_wp2
      go_ret
      exact ⟨rfl, HB.out⟩
  · clear h
    go_enter Try.func7, Try.ntmps7
    go_wp2
    go_ret
    exact ⟨rfl, Below.refl _ _⟩
end Go.Proofs.Ytlbheofomjakmaa
