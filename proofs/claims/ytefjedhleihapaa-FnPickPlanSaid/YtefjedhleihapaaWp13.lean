/- The walk of the law on PickPlan. -/
import Derived.Test.YtefjedhleihapaaDj13
import Derived.Test.YtefjedhleihapaaCk13
namespace Go.Proofs.Ytefjedhleihapaa
set_option maxRecDepth 100000
open Go.RowKit
attribute [local go_sem ↓] Go.wp_at_zero Go.wp_at_succ
set_option maxHeartbeats 4000000 in
theorem walkFnPickPlan (w : World) (a : Option Addr) (len cap : Nat) (zs : List Int) (h : Bytes w a len cap zs) :
    Calls Try.prog 5 #[.slice a len cap] w fun e w' => e = .returned (.bool true) ∧ Below w.heap.size w w' := by
  have hle := h.len_le
  obtain ⟨hl, hm⟩ := hle
  unfold maxLen at hm
  by_cases hbig : 1048576 < len
  · go_enter Try.func5, Try.ntmps5
    go_wp2
    go_ret
    exact ⟨rfl, Below.refl _ _⟩
  · go_enter Try.func5, Try.ntmps5
    go_wp2_with fail
    refine (drawPickPlan w a len cap zs h).mono ?_
    rintro e w1 ⟨⟨sa, sl, sc⟩, L, s, lo, hi, rfl, hsl, hn, hlo, hhi, ho, hb⟩
    have HB := Lib.hid hb
    have HO := Lib.hid (Itm.OwnPt.ints ho)
    have HN := Lib.hid (show sl = L.length from hsl)
    have hsl16 : sl ≤ 16 := by rw [HN.out]; exact hn
    clear h hb ho hsl hn
    go_wp2_with fail
    refine (implPickPlan sa sl sc L s lo hi _ HO.out (by omega)).mono ?_
    rintro e w2 ⟨⟨pa, pl, pc⟩, rfl, hpl, O2, B2⟩
    have HB2 := Lib.hid (below_call HB.out B2)
    have HA2 := Lib.hid (HO.out.next B2)
    have HO2 := Lib.hid O2
    have HPL := Lib.hid (show pl = (planV13 L s lo hi).length from hpl)
    clear O2 B2 hpl HO
    go_wp2_with fail
    refine (specPickPlan sa sl sc L s lo hi _ HA2.out (by omega)).mono ?_
    rintro e w3 ⟨⟨qa, ql, qc⟩, rfl, hql, O3, B3⟩
    have HB3 := Lib.hid (below_call HB2.out B3)
    have HA3 := Lib.hid (HA2.out.next B3)
    have HO3 := Lib.hid O3
    have HI3 := Lib.hid (OwnI.ints (HO2.out.next B3))
    have hpl16 : pl ≤ 16 := by
      rw [HPL.out]
      unfold planV13
      split
      · rw [planR_len, ← HN.out]; exact hsl16
      · simp
    clear O3 B3 hql HO2 HA2
    go_wp2_with fail
    refine (sameInts pa qa pl ql pc qc (planV13 L s lo hi) _ HI3.out (OwnI.ints HO3.out) (by omega)).mono ?_
    rintro e w4 ⟨rfl, B4⟩
    have HB4 := Lib.hid (below_call HB3.out B4)
    have HA4 := Lib.hid (HA3.out.next B4)
    have HI4 := Lib.hid (HI3.out.next B4)
    clear B4 HI3 HA3 HO3 HB3 HB2 HB
    by_cases hok : okItems L ∧ okConv s lo hi
    rotate_left
    · have e0 : planV13 L s lo hi = [] := if_neg hok
      rw [e0] at HPL
      obtain rfl : pl = 0 := HPL.out
      clear HI4 HA4 hok e0
      go_wp2
      go_loop [8, 9] (fun rv iv => rv = .int .i64 0 ∧ iv = .int .i64 0) (fun _ _ => 0)
      case atStart => exact ⟨rfl, rfl⟩
      case round =>
        obtain ⟨rfl, rfl⟩ := hrel
        go_wp2_with fail
        refine (alive _).mono ?_
        rintro e w' ⟨rfl, rfl⟩
        go_wp2
        go_ret
        exact ⟨rfl, HB4.out⟩
    · obtain ⟨hI, hC⟩ := hok
      have e0 : planV13 L s lo hi = planR s lo hi L 0 := if_pos ⟨hI, hC⟩
      rw [e0] at HPL HI4
      have HPS : Hid (pl = sl) := Lib.hid (by rw [HPL.out, planR_len, HN.out])
      have HOK := Lib.hid (fun k (q : k < pl) => okAt hI (k := k) (by rw [← HN.out, ← HPS.out]; exact q))
      have HRG := Lib.hid (fun k (q : k ≤ pl) => rdyR_range (s := s) (lo := lo) (hi := hi) hI k (by rw [← HN.out, ← HPS.out]; exact q))
      have HPA := Lib.hid (fun k (q : k < pl) => planR_at s lo hi L k 0 (by rw [← HN.out, ← HPS.out]; exact q))
      have HNX := Lib.hid (fun k (q : k < pl) => rdyR_next s lo hi L k 0 (by rw [← HN.out, ← HPS.out]; exact q))
      have HR0 : Hid (rdyR s lo hi L 0 0 = 0) := Lib.hid (by cases L <;> rfl)
      have HSC := Lib.hid hC.1
      clear hI hC e0 HPL
      go_wp2
      go_loopw [8, 9] (fun rv iv wr => ∃ k : Nat, k ≤ pl ∧ rv = .int .i64 (rdyR s lo hi L k 0) ∧ iv = .int .i64 (k : Int) ∧ Hid (Below w4.heap.size w4 wr)) (fun _ iv _ => pl - (intOf iv).toNat)
      case atStart => exact ⟨0, Nat.zero_le _, by rw [HR0.out], rfl, Lib.hid (Below.refl _ _)⟩
      case round =>
        obtain ⟨k, hk, rfl, rfl, HW⟩ := hrel
        by_cases hlt : k < pl
        · obtain ⟨b, hba, ltb, hc⟩ := (HA4.out.next HW.out).some (by have := HPS.out; omega)
          obtain ⟨g, off, rfl, ltg, hcg⟩ := (HI4.out.next HW.out).some (by omega)
          subst hba
          obtain ⟨d0, d1⟩ := hc k (by have := HPS.out; omega)
          have d2 := hcg k (by omega)
          have j1 : (0 : Int) ≤ (k : Int) := by omega
          have j2 : (k : Int) < (pl : Int) := by omega
          have j3 : (k : Int) < (sl : Int) := by have := HPS.out; omega
          obtain ⟨y1, y2⟩ := HOK.out k hlt
          have hx := HPA.out k hlt
          have HX := Lib.hid (HNX.out k hlt)
          obtain ⟨r0, r1⟩ := HRG.out k hk
          have HB5 := Lib.hid (below_call HB4.out HW.out)
          rw [hx] at d2
          generalize rdyR s lo hi L k 0 = rk at *
          generalize L.getD k (0, 0) = c at *
          obtain ⟨x, y⟩ := c
          simp only at d0 d1 d2 y1 y2 hx HX
          have hv := pick_spec (p := x) (s := s) (lo := lo) (hi := hi) r0
          have v1 : pickV x s lo hi rk ≤ 2000 := by rcases hv with ⟨e, _⟩ | ⟨_, k2, _⟩ <;> omega
          have hv2 : pickV x s lo hi rk = -1 ∨ (rk ≤ pickV x s lo hi rk ∧ lo ≤ x + s * pickV x s lo hi rk ∧ x + s * pickV x s lo hi rk ≤ hi) := by
            rcases hv with ⟨e, _⟩ | ⟨k1, _, k3, _⟩
            · exact .inl e
            · exact .inr ⟨k1, k3⟩
          clear hv hx hc hcg
          generalize pickV x s lo hi rk = v at *
          rcases hv2 with rfl | ⟨q1, q2, q3⟩
          · rw [if_neg (by omega)] at HX
            go_wp2
            go_roundw
            case rel => exact ⟨k + 1, by omega, by rw [HX.out], by congr 1, HW⟩
            case measure => simp [intOf]; omega
          · have v0 : ¬ v < 0 := by omega
            have v3 : ¬ v < rk := by omega
            rw [if_pos (by omega)] at HX
            have hb := place_small y1 HSC.out (t := v) ⟨by omega, by omega⟩
            obtain ⟨m, hm⟩ : ∃ m, s * v = m := ⟨_, rfl⟩
            rw [hm] at hb q2 q3
            have o1 : IntKind.i64.wrap (s * v) = m := by rw [hm]; exact wrap_in (by omega) (by omega)
            have o2 : IntKind.i64.wrap (x + m) = x + m := wrap_in (by omega) (by omega)
            have o3 : IntKind.i64.wrap (v + y) = v + y := wrap_in (by omega) (by omega)
            have z1 : ¬ (x + m < lo) := by omega
            have z2 : ¬ (hi < x + m) := by omega
            have g0 : Below wr.heap.size wr wr := Below.refl _ _
            have HWD := Lib.hid HW.out.drew.drew
            clear hm hb q1
            go_upto_region 12 with fail
            go_region_held3 (fun u => u.cell? ⟨b, k * 2, none⟩ = some (.int .i64 x) ∧ u.cell? ⟨g, off + k, none⟩ = some (.int .i64 v)) (exact keep13 (by repeat (first | (with_reducible assumption) | (with_reducible apply Below.drew))) ltb ltg d0 d2) (fail)
            have D2 : wr.drew.cell? ⟨g, off + k, none⟩ = some (.int .i64 v) := ((below_drew' wr).cell (p := ⟨g, off + k, none⟩) ltg).trans d2
            go_upto_region 15 with fail
            go_region_held3 (fun u => u.cell? ⟨b, k * 2 + 1, none⟩ = some (.int .i64 y) ∧ u.cell? ⟨g, off + k, none⟩ = some (.int .i64 v)) (exact keep13 (by repeat (first | (with_reducible assumption) | (with_reducible apply Below.drew))) ltb ltg d1 d2) (fail)
            go_wp2
            go_roundw
            case rel => exact ⟨k + 1, by omega, by rw [HX.out], by congr 1, HWD⟩
            case measure => simp [intOf]; omega
        · obtain rfl : k = pl := by omega
          have HB5 := Lib.hid (below_call HB4.out HW.out)
          have e3 : ((k : Int) == (sl : Int)) = true := by rw [HPS.out]; simp
          by_cases h0 : k = 0
          · have e4 : ((k : Int) == 0) = true := by rw [h0]; rfl
            go_wp2_with fail
            refine (alive _).mono ?_
            rintro e w' ⟨rfl, rfl⟩
            go_wp2
            go_ret
            exact ⟨rfl, HB5.out⟩
          · have e4 : ((k : Int) == 0) = false := by simp; omega
            go_wp2_with fail
            refine (alive _).mono ?_
            rintro e w' ⟨rfl, rfl⟩
            go_wp2
            go_ret
            exact ⟨rfl, HB5.out⟩
end Go.Proofs.Ytefjedhleihapaa
