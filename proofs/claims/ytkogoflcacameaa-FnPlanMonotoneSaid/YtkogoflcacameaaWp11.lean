/- The walk of the law on shortest paths. -/
import Derived.Test.YtkogoflcacameaaDp11
import Derived.Test.YtkogoflcacameaaIm11i
import Derived.Test.YtkogoflcacameaaPw11
import Derived.Test.YtkogoflcacameaaZbKt
import Derived.Deep.DeepCutAuto
namespace Go.Proofs.Ytkogoflcacameaa
set_option maxRecDepth 100000
open Go.RowKit
attribute [local go_sem ↓] Go.wp_at_zero Go.wp_at_succ
theorem plan_len11 (T : List (List Bool)) (a b : C2) : (planV T a b).length ≤ 400 := by
  by_cases h : planV T a b = []
  · rw [h]; simp
  · exact (plan_valid h).2.2.1
theorem abs11 (n : Int) (w : World) (h0 : -1000000 ≤ n) (h1 : n ≤ 1000000) :
    Calls Try.prog 22 #[.int .i64 n] w fun e w' => e = .returned (.int .i64 (n.natAbs : Int)) ∧ w = w' := by
  have o1 : IntKind.i64.wrap (-n) = -n := IntWalk.i64_in _ (by omega)
  obtain ⟨m, hm⟩ : ∃ m : Int, (n.natAbs : Int) = m := ⟨_, rfl⟩
  have HM := Lib.hid hm
  rw [hm]
  clear hm
  by_cases hn : n < 0
  · have HE := Lib.hid (show -n = m by have := HM.out; omega)
    go_enter Try.func22, Try.ntmps22
    go_wp2
    go_ret
    exact ⟨ret_int HE.out, rfl⟩
  · have HE := Lib.hid (show n = m by have := HM.out; omega)
    go_enter Try.func22, Try.ntmps22
    go_wp2
    go_ret
    exact ⟨ret_int HE.out, rfl⟩
set_option maxHeartbeats 8000000 in
theorem walkFnPlanPath (w : World) (a : Option Addr) (len cap : Nat) (zs : List Int) (h : Bytes w a len cap zs) :
    Calls Try.prog 5 #[.slice a len cap] w fun e w' => e = .returned (.bool true) ∧ Below w.heap.size w w' := by
  have hle := h.len_le
  obtain ⟨hl, hm⟩ := hle
  unfold maxLen at hm
  by_cases hbig : 1048576 < len
  · go_enter Try.func5, Try.ntmps5
    go_wp2
    go_ret
    exact ⟨rfl, Below.refl _ _⟩
  · go_enter Try.func5, Try.ntmps5
    go_wp2_with fail
    refine (drawPlanPath w a len cap zs h).mono ?_
    rintro e w1 ⟨⟨ta, tl, tc⟩, T, ⟨ax, ay⟩, ⟨bx, b_y⟩, rfl, hF, hT, ha, hb, hB⟩
    have hR := hF.rsa (fun i hi => by have := hT.2 i hi; omega)
    have htl : tl ≤ 9223372036854775807 := by have := hF.1; have := hT.1; simp only at *; omega
    simp only at hR ha hb
    obtain ⟨P, Q⟩ := at2 w1 ax ay bx b_y 33
    have B2 := below_box2 w1 (.cells #[.int .i64 ax, .int .i64 ay] 33) (.cells #[.int .i64 bx, .int .i64 b_y] 33)
    have HR := Lib.hid (hR.next B2)
    have HB := Lib.hid (below_call hB B2)
    obtain ⟨V, hV⟩ : ∃ V, w1.heap.size = V := ⟨_, rfl⟩
    rw [hV] at P Q
    have HTL := Lib.hid htl
    have HBD := Lib.hid (And.intro ha hb)
    clear hB B2 hR hF hT h htl ha hb
    go_upto_region 4 with fail
    clear hV
    generalize (w1.alloc (.cells #[.int .i64 ax, .int .i64 ay] 33)).alloc (.cells #[.int .i64 bx, .int .i64 b_y] 33) = w2 at *
    have HBACK := Lib.hid (plan_back T (ax, ay) (bx, b_y))
    have HLEN := Lib.hid (plan_len11 T (ax, ay) (bx, b_y))
    obtain ⟨_, c0, c1⟩ := id P
    obtain ⟨_, c2, c3⟩ := id Q
    go_wp2_with fail
    refine (implPlanPath ta tl tc T (ax, ay) (bx, b_y) _ HR.out HTL.out).mono ?_
    rintro e w3 ⟨⟨pa, pl, pc⟩, rfl, hp, O3, B3⟩
    simp only at hp O3
    have P3 := P.next B3
    have Q3 := Q.next B3
    have HR3 := Lib.hid (HR.out.next B3)
    have HO3 := Lib.hid O3
    have HP := Lib.hid hp
    have HB3 := Lib.hid (below_call HB.out B3)
    clear c0 c1 c2 c3 P Q B3 O3 HR HB hp
    obtain ⟨_, c0, c1⟩ := id P3
    obtain ⟨_, c2, c3⟩ := id Q3
    go_wp2_with fail
    refine (specPlanPath ta tl tc T (ax, ay) (bx, b_y) _ HR3.out HTL.out).mono ?_
    rintro e w4 ⟨⟨va, vl, vc⟩, rfl, hv, O4, B4⟩
    simp only at hv O4
    obtain rfl : vl = pl := by rw [HP.out, hv]
    have P4 := P3.next B4
    have Q4 := Q3.next B4
    have HR4 := Lib.hid (HR3.out.next B4)
    have HO4 := Lib.hid (HO3.out.next B4)
    have HV4 := Lib.hid O4
    have HB4 := Lib.hid (below_call HB3.out B4)
    have e0 : ((vl : Int) != (vl : Int)) = false := by simp
    clear c0 c1 c2 c3 P3 Q3 B4 O4 HR3 HB3 HO3 hv
    obtain ⟨_, c0, c1⟩ := id P4
    obtain ⟨_, c2, c3⟩ := id Q4
    go_wp2_with fail
    refine (implPlanPath ta tl tc T (bx, b_y) (ax, ay) _ HR4.out HTL.out).mono ?_
    rintro e w5 ⟨⟨ra, rl, rc⟩, rfl, hr, O5, B5⟩
    simp only at hr
    obtain rfl : rl = vl := by rw [HP.out, hr, HBACK.out]
    have P5 := P4.next B5
    have Q5 := Q4.next B5
    have HR5 := Lib.hid (HR4.out.next B5)
    have HO5 := Lib.hid (HO4.out.next B5).ints
    have HV5 := Lib.hid (HV4.out.next B5).ints
    have HB5 := Lib.hid (below_call HB4.out B5)
    clear c0 c1 c2 c3 P4 Q4 B5 O5 HR4 HB4 HO4 HV4 hr HBACK
    by_cases hz0 : rl = 0
    · subst hz0
      go_wp2_with fail
      refine (alive _).mono ?_
      rintro e w' ⟨rfl, rfl⟩
      go_wp2
      go_ret
      exact ⟨rfl, HB5.out⟩
    have hne : planV T (ax, ay) (bx, b_y) ≠ [] := fun q => by have := HP.out; rw [q] at this; exact hz0 this
    have HEND := Lib.hid (plan_ends hne)
    have HVAL := Lib.hid (plan_valid hne)
    have HFAR := Lib.hid (plan_far hne)
    generalize planV T (ax, ay) (bx, b_y) = L at *
    obtain ⟨q, hq⟩ : ∃ q, rl = q + 1 := ⟨rl - 1, by omega⟩
    subst hq
    have hq9 : q ≤ 399 := by have := HP.out; have := HLEN.out; omega
    obtain ⟨bo, rfl, lto, co⟩ := HO5.out.some (by omega)
    obtain ⟨bv, rfl, ltv, cv⟩ := HV5.out.some (by omega)
    have HCO := Lib.hid co
    have HCV := Lib.hid cv
    have HO6 := HO5
    clear co cv HV5 hz0 hne HLEN HO5
    go_wp2_with fail
    go_loopw [9] (fun i wr => ∃ k : Nat, k ≤ q + 1 ∧ i = .int .i64 (k : Int) ∧ Hid (Below w5.heap.size w5 wr)) (fun i _ => q + 1 - (intOf i).toNat)
    case atStart => exact ⟨0, Nat.zero_le _, rfl, Lib.hid (Below.refl _ _)⟩
    case round =>
      obtain ⟨k, hk, rfl, HW⟩ := hrel
      by_cases hlt : k < q + 1
      · have hlt1 : (k : Int) < (q : Int) + 1 := by omega
        have hlt2 : (k : Int) < ((q + 1 : Nat) : Int) := by omega
        have hk0 : (0 : Int) ≤ (k : Int) := by omega
        have d1 : wr.cell? ⟨bo, k * 2, none⟩ = _ := (HW.out.cell (p := ⟨bo, k * 2, none⟩) lto).trans (HCO.out k hlt).1
        have d2 : wr.cell? ⟨bo, k * 2 + 1, none⟩ = _ := (HW.out.cell (p := ⟨bo, k * 2 + 1, none⟩) lto).trans (HCO.out k hlt).2
        have d3 : wr.cell? ⟨bv, k * 2, none⟩ = _ := (HW.out.cell (p := ⟨bv, k * 2, none⟩) ltv).trans (HCV.out k hlt).1
        have d4 : wr.cell? ⟨bv, k * 2 + 1, none⟩ = _ := (HW.out.cell (p := ⟨bv, k * 2 + 1, none⟩) ltv).trans (HCV.out k hlt).2
        have HD1 := Lib.hid (HCO.out k hlt)
        have HNE := Lib.hid (fun j (hj : j < k) => show L.getD j (0, 0) ≠ L.getD k (0, 0) from fun e => by have := HEND.out.2.2 j k (by have := HP.out; omega) (by have := HP.out; omega) e; omega)
        have g0 : ∀ z : Int, (z != z) = false := fun z => by simp
        have g1 := g0 (L.getD k (0, 0)).1
        have g2 := g0 (L.getD k (0, 0)).2
        clear g0
        obtain ⟨c, hc⟩ : ∃ c, L.getD k (0, 0) = c := ⟨_, rfl⟩
        rw [hc] at d1 d2 d3 d4 g1 g2 HD1 HNE
        obtain ⟨cx, cy⟩ := c
        simp only at d1 d2 d3 d4 g1 g2
        clear hc
        go_wp2
        go_quiet (fail)
        have HW2 := Lib.hid (below_drewN HW.out nq)
        clear d1 d2 d3 d4 HW
        generalize wr.drewN nq = wq at *
        go_wp2
        go_loopw [10] (fun i wr => ∃ j : Nat, j ≤ k ∧ i = .int .i64 (j : Int) ∧ Hid (Below w5.heap.size w5 wr)) (fun i _ => k - (intOf i).toNat)
        case atStart => exact ⟨0, Nat.zero_le _, rfl, HW2⟩
        case round =>
          obtain ⟨j, hj, rfl, HW⟩ := hrel
          clear HW2
          by_cases hjk : j < k
          · have hj1 : (j : Int) < (q : Int) + 1 := by omega
            have hj2 : (j : Int) < ((q + 1 : Nat) : Int) := by omega
            have hj0 : (0 : Int) ≤ (j : Int) := by omega
            have d1 : wr.cell? ⟨bo, k * 2, none⟩ = _ := (HW.out.cell (p := ⟨bo, k * 2, none⟩) lto).trans HD1.out.1
            have d2 : wr.cell? ⟨bo, k * 2 + 1, none⟩ = _ := (HW.out.cell (p := ⟨bo, k * 2 + 1, none⟩) lto).trans HD1.out.2
            have d3 : wr.cell? ⟨bo, j * 2, none⟩ = _ := (HW.out.cell (p := ⟨bo, j * 2, none⟩) lto).trans (HCO.out j (by omega)).1
            have d4 : wr.cell? ⟨bo, j * 2 + 1, none⟩ = _ := (HW.out.cell (p := ⟨bo, j * 2 + 1, none⟩) lto).trans (HCO.out j (by omega)).2
            have hne := HNE.out j hjk
            generalize L.getD j (0, 0) = p at *
            obtain ⟨px, py⟩ := p
            simp only at d1 d2 d3 d4
            by_cases hx : px = cx
            · have g3 : (px == cx) = true := by simp [hx]
              have g4 : (py == cy) = false := by simp; intro e; exact hne (by rw [hx, e])
              clear hne hx
              go_wp2
              go_quiet (fail)
              have HW3 := Lib.hid (below_drewN HW.out nq)
              go_wp2
              go_roundw
              case rel => exact ⟨j + 1, by omega, by congr 1, HW3⟩
              case measure => simp [intOf]; omega
            · have g3 : (px == cx) = false := by simp [hx]
              clear hne hx
              go_wp2
              go_quiet (fail)
              have HW3 := Lib.hid (below_drewN HW.out nq)
              go_wp2
              go_roundw
              case rel => exact ⟨j + 1, by omega, by congr 1, HW3⟩
              case measure => simp [intOf]; omega
          · obtain rfl : j = k := by omega
            clear hjk hj
            go_wp2
            go_roundw
            case rel =>
              repeat apply Exists.intro
              refine ⟨?_, rfl⟩
              exact ⟨j + 1, by omega, by congr 1, HW⟩
            case measure => simp [intOf]; omega
      · obtain rfl : k = q + 1 := by omega
        have HW5 := HW
        have P6 := P5.next HW.out
        have Q6 := Q5.next HW.out
        have HPV := Lib.hid (fun (z : Kept wr) => keptCall (implPathValid ta tl tc T (some ⟨bo, 0, none⟩) (q + 1) pc L z.u ((HR5.out.next HW.out).next z.b) HTL.out ((HO6.out.next HW.out).next z.b) (by omega)))
        rw [decide_eq_true HVAL.out] at HPV
        have hend := HEND.out
        have hf0 := hend.1
        have hf1 := hend.2.1
        rw [← HP.out, Nat.add_sub_cancel] at hf1
        have d1 : wr.cell? ⟨bo, 0 * 2, none⟩ = _ := (HW.out.cell (p := ⟨bo, 0 * 2, none⟩) lto).trans (HCO.out 0 (by omega)).1
        have d2 : wr.cell? ⟨bo, 0 * 2 + 1, none⟩ = _ := (HW.out.cell (p := ⟨bo, 0 * 2 + 1, none⟩) lto).trans (HCO.out 0 (by omega)).2
        have d3 : wr.cell? ⟨bo, q * 2, none⟩ = _ := (HW.out.cell (p := ⟨bo, q * 2, none⟩) lto).trans (HCO.out q (by omega)).1
        have d4 : wr.cell? ⟨bo, q * 2 + 1, none⟩ = _ := (HW.out.cell (p := ⟨bo, q * 2 + 1, none⟩) lto).trans (HCO.out q (by omega)).2
        rw [hf0, Nat.zero_mul] at d1 d2
        rw [hf1] at d3 d4
        rw [Nat.zero_add] at d2
        simp only at d1 d2 d3 d4
        have ltw : bo < wr.heap.size := Nat.lt_of_lt_of_le lto HW.out.size
        replace d1 := keptCell ltw d1
        replace d2 := keptCell ltw d2
        replace d3 := keptCell ltw d3
        replace d4 := keptCell ltw d4
        obtain ⟨p0, p1⟩ := P6.kepts
        obtain ⟨p2, p3⟩ := Q6.kepts
        have g0 : ∀ z : Int, (z == z) = true := fun z => by simp
        have g1 := g0 ax
        have g2 := g0 ay
        have g3 := g0 bx
        have g4 := g0 b_y
        have g5 := g0 ((q : Int) + 1)
        clear g0
        have hbd := HBD.out
        unfold SmC2 at hbd
        simp only at hbd
        have s1 : IntKind.i64.wrap (ax - bx) = ax - bx := IntWalk.i64_in _ (by omega)
        have s2 : IntKind.i64.wrap (ay - b_y) = ay - b_y := IntWalk.i64_in _ (by omega)
        obtain ⟨u1, hu1⟩ : ∃ u : Int, ((ax - bx).natAbs : Int) = u := ⟨_, rfl⟩
        obtain ⟨u2, hu2⟩ : ∃ u : Int, ((ay - b_y).natAbs : Int) = u := ⟨_, rfl⟩
        have HA1 := Lib.hid (fun (z : Kept wr) => keptSame (hu1 ▸ abs11 (ax - bx) z.u (by omega) (by omega)))
        have HA2 := Lib.hid (fun (z : Kept wr) => keptSame (hu2 ▸ abs11 (ay - b_y) z.u (by omega) (by omega)))
        have hgap := HFAR.out
        unfold gap at hgap
        simp only at hgap
        have hu : 0 ≤ u1 ∧ u1 ≤ 100 ∧ 0 ≤ u2 ∧ u2 ≤ 100 ∧ u1 + u2 + 1 ≤ (q : Int) + 1 := by have := HP.out; omega
        have s3 : IntKind.i64.wrap (u1 + u2) = u1 + u2 := IntWalk.i64_in _ (by omega)
        have oq : IntKind.i64.wrap ((q : Int) + 1 - 1) = (q : Int) := by rw [Int.add_sub_cancel]; exact IntWalk.i64_in _ (by omega)
        have q0 : (0 : Int) ≤ (q : Int) := by omega
        have q1 : (q : Int) < (q : Int) + 1 := by omega
        have q2 : (0 : Int) < (q : Int) + 1 := by omega
        have q3 : u1 + u2 < (q : Int) + 1 := by omega
        clear hend hf0 hf1 hbd hu1 hu2 hgap HEND HVAL HFAR HCO HCV P5 Q5 P6 Q6 HR5 HO6 HTL HBD hu
        go_wp2
        refine wp_region_kept (by kernel_rfl) (by kernel_rfl) ?_
        repeat (go_big_quiet_step ((first | (go_at_call 21; with_reducible exact HPV.out _) | (go_at_call_of 22 (Value.int IntKind.i64 (ax - bx)); with_reducible exact HA1.out _) | (go_at_call_of 22 (Value.int IntKind.i64 (ay - b_y)); with_reducible exact HA2.out _))))
        refine wpQuiet_nil ?_
        rintro w11 ⟨⟨_, K11⟩, rfl⟩
        have HZ := Lib.hid (below_call HB5.out (below_call HW5.out K11))
        go_wp2
        go_ret
        exact ⟨rfl, HZ.out⟩
end Go.Proofs.Ytkogoflcacameaa
