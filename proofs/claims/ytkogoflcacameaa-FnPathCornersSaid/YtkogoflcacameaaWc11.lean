/- The walk of the law on corners. -/
import Derived.Test.YtkogoflcacameaaDc11
import Derived.Test.YtkogoflcacameaaSc11
import Derived.Test.YtkogoflcacameaaCq11
import Derived.Test.YtkogoflcacameaaPv11
namespace Go.Proofs.Ytkogoflcacameaa
set_option maxRecDepth 100000
open Go.RowKit
attribute [local go_sem ↓] Go.wp_at_zero Go.wp_at_succ
theorem straight_small {L : List C2} (h : Straight L) : SmC L := fun i hi => by
  have := h.1 i hi
  omega
set_option maxHeartbeats 8000000 in
theorem walkFnPathCorners (w : World) (a : Option Addr) (len cap : Nat) (zs : List Int) (h : Bytes w a len cap zs) :
    Calls Try.prog 8 #[.slice a len cap] w fun e w' => e = .returned (.bool true) ∧ Below w.heap.size w w' := by
  have hle := h.len_le
  obtain ⟨hl, hm⟩ := hle
  unfold maxLen at hm
  by_cases hbig : 1048576 < len
  · go_enter Try.func8, Try.ntmps8
    go_wp2
    go_ret
    exact ⟨rfl, Below.refl _ _⟩
  · go_enter Try.func8, Try.ntmps8
    go_wp2_with fail
    refine (drawPathCorners w a len cap zs h).mono ?_
    rintro e w1 ⟨⟨pa, pl, pc⟩, L, rfl, hpl, hP, hL, hb⟩
    simp only at hpl hP
    have hS : Straight L := by
      rcases hL with ⟨T, a, b, rfl⟩ | ⟨n, rfl, _⟩
      · exact plan_straight T a b
      · exact zero_straight n
    have hp9 : pl ≤ 401 := by
      rcases hL with ⟨T, a, b, rfl⟩ | ⟨n, rfl, hn⟩
      · by_cases q : planV T a b = []
        · rw [q] at hpl; simp at hpl; omega
        · have := (plan_valid q).2.2.1; omega
      · simp at hpl; omega
    have hCI := corners_small (straight_small hS)
    have HB := Lib.hid hb
    have HP := Lib.hid hP
    have HI := Lib.hid (fun w (h : Cel.PtsAt w pa pl L) => hCI ▸ implPathCorners pa pl pc L w h (by omega))
    have HS := Lib.hid (fun w (h : Cel.PtsAt w pa pl L) => specPathCorners pa pl pc L w h (by omega))
    have HCL := Lib.hid (show cornersV L = if 400 < L.length then [] else cornTo L L.length from rfl)
    obtain ⟨C, hC⟩ : ∃ C, cornersV L = C := ⟨_, rfl⟩
    rw [hC] at HI HS HCL
    have HLS := Lib.hid hS
    have HPL := Lib.hid hpl
    clear hC hCI hL hb hP h hS hpl
    go_wp2_with fail
    refine (HI.out _ HP.out).mono ?_
    rintro e w2 ⟨⟨oa, ol, oc⟩, rfl, hol, O2, B2⟩
    simp only at hol O2
    have HO2 := Lib.hid O2
    have HP2 := Lib.hid (HP.out.next B2)
    have HB2 := Lib.hid (below_call HB.out B2)
    have HOL := Lib.hid hol
    clear O2 B2 HB HP HI hol
    go_wp2_with fail
    refine (HS.out _ HP2.out).mono ?_
    rintro e w3 ⟨⟨va, vl, vc⟩, rfl, hvl, O3, B3⟩
    simp only at hvl O3
    obtain rfl : ol = vl := by rw [HOL.out, hvl]
    have HO3 := Lib.hid O3.ints
    have HQ3 := Lib.hid (HO2.out.next B3).ints
    have HP3 := Lib.hid (HP2.out.next B3)
    have HB3 := Lib.hid (below_call HB2.out B3)
    clear O3 B3 HB2 HP2 HS HO2 hvl
    have e0 : ((ol : Int) != (ol : Int)) = false := by simp
    by_cases h400 : 400 < pl
    · have hz : ol = 0 := by rw [HOL.out, HCL.out, if_pos (by have := HPL.out; omega)]; rfl
      subst hz
      have q1 : ((pl : Int) == 0) = false := by simp; omega
      go_wp2_with fail
      refine (alive _).mono ?_
      rintro e w' ⟨rfl, rfl⟩
      go_wp2
      go_ret
      exact ⟨rfl, HB3.out⟩
    by_cases hz0 : pl = 0
    · subst hz0
      have hz : ol = 0 := by
        rw [HOL.out, HCL.out, if_neg (by have := HPL.out; omega)]
        have := corn_le L
        have := HPL.out
        omega
      subst hz
      go_wp2_with fail
      refine (alive _).mono ?_
      rintro e w' ⟨rfl, rfl⟩
      go_wp2
      go_ret
      exact ⟨rfl, HB3.out⟩
    have hC2 : C = cornTo L L.length := by rw [HCL.out, if_neg (by have := HPL.out; omega)]
    have hL0 : 0 < L.length := by have := HPL.out; omega
    have f1 := corn_first hL0
    have f2 := corn_last hL0
    have f3 := corn_le L
    have HAX := Lib.hid (fun k hk => corn_axis HLS.out (k := k) hk)
    rw [← hC2] at f1 f2 f3 HAX
    have HF := Lib.hid (And.intro f1.2 f2)
    obtain ⟨q, hq⟩ : ∃ q, ol = q + 1 := ⟨ol - 1, by have := HOL.out; omega⟩
    obtain ⟨t, ht⟩ : ∃ t, pl = t + 1 := ⟨pl - 1, by omega⟩
    subst hq ht
    have hqt : q ≤ t := by have := HPL.out; have := HOL.out; omega
    have ht9 : t ≤ 399 := by omega
    clear f1 f2 f3 hC2 hL0 HCL hz0 h400 HLS hp9
    obtain ⟨bo, rfl, lto, co⟩ := HQ3.out.some (by omega)
    obtain ⟨bv, rfl, ltv, cv⟩ := HO3.out.some (by omega)
    obtain ⟨bp, rfl, ltp, cp⟩ := HP3.out.some (by omega)
    have HCO := Lib.hid co
    have HCV := Lib.hid cv
    have HCP := Lib.hid cp
    clear co cv cp HQ3 HO3 HP3
    have e1 : (((q + 1 : Nat) : Int) == 0) = false := by simp; omega
    go_wp2_with fail
    go_loopw [6] (fun i wr => ∃ k : Nat, k ≤ q + 1 ∧ i = .int .i64 (k : Int) ∧ Hid (Below w3.heap.size w3 wr)) (fun i _ => q + 1 - (intOf i).toNat)
    case atStart => exact ⟨0, Nat.zero_le _, rfl, Lib.hid (Below.refl _ _)⟩
    case round =>
      obtain ⟨k, hk, rfl, HW⟩ := hrel
      by_cases hlt : k < q + 1
      · have hlt1 : (k : Int) < (q : Int) + 1 := by omega
        have hlt2 : (k : Int) < ((q + 1 : Nat) : Int) := by omega
        have hk0 : (0 : Int) ≤ (k : Int) := by omega
        have d1 : wr.cell? ⟨bo, k * 2, none⟩ = _ := (HW.out.cell (p := ⟨bo, k * 2, none⟩) lto).trans (HCO.out k hlt).1
        have d2 : wr.cell? ⟨bo, k * 2 + 1, none⟩ = _ := (HW.out.cell (p := ⟨bo, k * 2 + 1, none⟩) lto).trans (HCO.out k hlt).2
        have d3 : wr.cell? ⟨bv, k * 2, none⟩ = _ := (HW.out.cell (p := ⟨bv, k * 2, none⟩) ltv).trans (HCV.out k hlt).1
        have d4 : wr.cell? ⟨bv, k * 2 + 1, none⟩ = _ := (HW.out.cell (p := ⟨bv, k * 2 + 1, none⟩) ltv).trans (HCV.out k hlt).2
        by_cases hk1 : k = 0
        · subst hk1
          generalize C.getD 0 (0, 0) = c at *
          obtain ⟨cx, cy⟩ := c
          simp only at d1 d2 d3 d4
          have g1 : (cx != cx) = false := by simp
          have g2 : (cy != cy) = false := by simp
          go_wp2
          go_quiet (fail)
          have HW2 := Lib.hid (below_drewN HW.out nq)
          go_wp2
          go_roundw
          case rel => exact ⟨1, by omega, by congr 1, HW2⟩
          case measure => simp [intOf]
        · obtain ⟨m, hm⟩ : ∃ m, k = m + 1 := ⟨k - 1, by omega⟩
          subst hm
          have hlm : m < q + 1 := by omega
          have d5 : wr.cell? ⟨bo, m * 2, none⟩ = _ := (HW.out.cell (p := ⟨bo, m * 2, none⟩) lto).trans (HCO.out m hlm).1
          have d6 : wr.cell? ⟨bo, m * 2 + 1, none⟩ = _ := (HW.out.cell (p := ⟨bo, m * 2 + 1, none⟩) lto).trans (HCO.out m hlm).2
          have hx := HAX.out m (by have := HOL.out; omega)
          generalize C.getD (m + 1) (0, 0) = c at *
          generalize C.getD m (0, 0) = p at *
          obtain ⟨cx, cy⟩ := c
          obtain ⟨px, py⟩ := p
          simp only at d1 d2 d3 d4 d5 d6 hx
          have g1 : (cx != cx) = false := by simp
          have g2 : (cy != cy) = false := by simp
          have om : IntKind.i64.wrap ((m : Int) + 1 - 1) = (m : Int) := by rw [Int.add_sub_cancel]; exact IntWalk.i64_in _ (by omega)
          have m0 : (0 : Int) ≤ (m : Int) := by omega
          have m1 : (m : Int) < (q : Int) + 1 := by omega
          have m2 : (m : Int) < ((q + 1 : Nat) : Int) := by omega
          by_cases hx1 : cx = px
          · have g3 : (cx != px) = false := by simp [hx1]
            clear hx hx1
            go_wp2
            go_quiet (fail)
            have HW2 := Lib.hid (below_drewN HW.out nq)
            go_wp2
            go_roundw
            case rel => exact ⟨m + 1 + 1, by omega, by congr 1, HW2⟩
            case measure => simp [intOf]; omega
          · have g3 : (cx != px) = true := by simp [hx1]
            have g4 : (cy != py) = false := by simp; omega
            clear hx hx1
            go_wp2
            go_quiet (fail)
            have HW2 := Lib.hid (below_drewN HW.out nq)
            go_wp2
            go_roundw
            case rel => exact ⟨m + 1 + 1, by omega, by congr 1, HW2⟩
            case measure => simp [intOf]; omega
      · obtain rfl : k = q + 1 := by omega
        have d1 : wr.cell? ⟨bo, 0, none⟩ = _ := (HW.out.cell (p := ⟨bo, 0, none⟩) lto).trans (HCO.out 0 (by omega)).1
        have d2 : wr.cell? ⟨bo, 1, none⟩ = _ := (HW.out.cell (p := ⟨bo, 1, none⟩) lto).trans (HCO.out 0 (by omega)).2
        have d3 : wr.cell? ⟨bp, 0, none⟩ = _ := (HW.out.cell (p := ⟨bp, 0, none⟩) ltp).trans (HCP.out 0 (by omega)).1
        have d4 : wr.cell? ⟨bp, 1, none⟩ = _ := (HW.out.cell (p := ⟨bp, 1, none⟩) ltp).trans (HCP.out 0 (by omega)).2
        have d5 : wr.cell? ⟨bo, q * 2, none⟩ = _ := (HW.out.cell (p := ⟨bo, q * 2, none⟩) lto).trans (HCO.out q (by omega)).1
        have d6 : wr.cell? ⟨bo, q * 2 + 1, none⟩ = _ := (HW.out.cell (p := ⟨bo, q * 2 + 1, none⟩) lto).trans (HCO.out q (by omega)).2
        have d7 : wr.cell? ⟨bp, t * 2, none⟩ = _ := (HW.out.cell (p := ⟨bp, t * 2, none⟩) ltp).trans (HCP.out t (by omega)).1
        have d8 : wr.cell? ⟨bp, t * 2 + 1, none⟩ = _ := (HW.out.cell (p := ⟨bp, t * 2 + 1, none⟩) ltp).trans (HCP.out t (by omega)).2
        have hf := HF.out
        rw [← HOL.out, ← HPL.out, Nat.add_sub_cancel, Nat.add_sub_cancel] at hf
        rw [hf.1] at d1 d2
        rw [hf.2] at d5 d6
        generalize L.getD 0 (0, 0) = c at *
        generalize L.getD t (0, 0) = p at *
        obtain ⟨cx, cy⟩ := c
        obtain ⟨px, py⟩ := p
        simp only at d1 d2 d3 d4 d5 d6 d7 d8
        have g1 : (cx == cx) = true := by simp
        have g2 : (cy == cy) = true := by simp
        have g3 : (px == px) = true := by simp
        have g4 : (py == py) = true := by simp
        have oq : IntKind.i64.wrap ((q : Int) + 1 - 1) = (q : Int) := by rw [Int.add_sub_cancel]; exact IntWalk.i64_in _ (by omega)
        have ot : IntKind.i64.wrap ((t : Int) + 1 - 1) = (t : Int) := by rw [Int.add_sub_cancel]; exact IntWalk.i64_in _ (by omega)
        have q0 : (0 : Int) ≤ (q : Int) := by omega
        have q1 : (q : Int) < (q : Int) + 1 := by omega
        have t0 : (0 : Int) ≤ (t : Int) := by omega
        have t1 : (t : Int) < (t : Int) + 1 := by omega
        have q2 : (0 : Int) < (q : Int) + 1 := by omega
        have t2 : (0 : Int) < (t : Int) + 1 := by omega
        clear hf
        go_wp2
        go_quiet (fail)
        have HW2 := Lib.hid (below_call HB3.out (below_drewN HW.out nq))
        go_wp2
        go_ret
        exact ⟨rfl, HW2.out⟩
end Go.Proofs.Ytkogoflcacameaa
