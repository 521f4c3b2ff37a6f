/- The walks of the laws on turns and on detours: each returns true at every code. -/
import Derived.Test.YtpiabkihbbfmoaaLaws1
namespace Go.Proofs.Ytpiabkihbbfmoaa
open Go.RowKit
theorem walkFnTurnToward (w : World) (a : Option Addr) (len cap : Nat) (zs : List Int) (h : Bytes w a len cap zs) :
    Calls Try.prog 6 #[.slice a len cap] w fun e w' => e = .returned (.bool true) ∧ Below w.heap.size w w' := by
  have hle := h.len_le
  obtain ⟨hl, hm⟩ := hle
  unfold maxLen at hm
  by_cases hbig : 1048576 < len
  · go_enter Try.func6, Try.ntmps6
    go_wp2
    go_ret
    exact ⟨rfl, Below.refl _ _⟩
  · go_enter Try.func6, Try.ntmps6
    go_wp2_with fail
    refine (drawTurnToward w a len cap zs h).mono ?_
    rintro e w1 ⟨x, y, s, hx1, hx2, hy1, hy2, hs1, hs2, rfl, hb⟩
    have e0 : (turnV x y s != turnV x y s) = false := by simp
    by_cases hs : 0 ≤ s ∧ s ≤ 180
    · obtain ⟨s0, s1⟩ := hs
      have t0 : 0 ≤ turnV x y s := by rw [turnV_in x y s s0 s1]; exact turn_lo x y s
      have t1 : turnV x y s < 360 := by rw [turnV_in x y s s0 s1]; exact turn_hi x y s
      have a0 := ang_lo x y
      have a1 := ang_hi x y
      have HF := Lib.hid (show ang (turnV x y s) y = max 0 (ang x y - s) by rw [turnV_in x y s s0 s1]; exact turn_far x y s s0 s1)
      have HT := Lib.hid (show ang x (turnV x y s) = min (ang x y) s by rw [turnV_in x y s s0 s1]; exact turn_by x y s s0 s1)
      have e5 : (turnV x y 180 == deg y) = true := by rw [turnV_in x y 180 (by omega) (by omega), turn_180]; simp
      go_wp2_with fail
      refine (implTurnToward x y s _ hx1 hx2 hy1 hy2).mono ?_
      rintro e w' ⟨rfl, rfl⟩
      go_wp2_with fail
      refine (specTurnToward x y s _ hx1 hx2 hy1 hy2).mono ?_
      rintro e w' ⟨rfl, rfl⟩
      go_wp2_with fail
      refine (implAngleBetween x y _ hx1 hx2 hy1 hy2).mono ?_
      rintro e w' ⟨rfl, rfl⟩
      by_cases hc : ang x y ≤ s
      · have e3 : (ang (turnV x y s) y == 0) = true := by rw [HF.out]; simp; omega
        have e4 : (ang x (turnV x y s) == ang x y) = true := by rw [HT.out]; simp; omega
        go_wp2_with fail
        refine (implAngleBetween (turnV x y s) y _ (by omega) (by omega) hy1 hy2).mono ?_
        rintro e w' ⟨rfl, rfl⟩
        go_wp2_with fail
        refine (implAngleBetween x (turnV x y s) _ hx1 hx2 (by omega) (by omega)).mono ?_
        rintro e w' ⟨rfl, rfl⟩
        go_wp2_with fail
        refine (implTurnToward x y 180 _ hx1 hx2 hy1 hy2).mono ?_
        rintro e w' ⟨rfl, rfl⟩
        go_wp2_with fail
        refine (implDegrees y _ hy1 hy2).mono ?_
        rintro e w' ⟨rfl, rfl⟩
        go_wp2
        go_ret
        exact ⟨rfl, hb⟩
      · have e3 : (ang (turnV x y s) y == ang x y - s) = true := by rw [HF.out]; simp; omega
        have e4 : (ang x (turnV x y s) == s) = true := by rw [HT.out]; simp; omega
        go_wp2_with fail
        refine (implAngleBetween (turnV x y s) y _ (by omega) (by omega) hy1 hy2).mono ?_
        rintro e w' ⟨rfl, rfl⟩
        go_wp2_with fail
        refine (implAngleBetween x (turnV x y s) _ hx1 hx2 (by omega) (by omega)).mono ?_
        rintro e w' ⟨rfl, rfl⟩
        go_wp2_with fail
        refine (implTurnToward x y 180 _ hx1 hx2 hy1 hy2).mono ?_
        rintro e w' ⟨rfl, rfl⟩
        go_wp2_with fail
        refine (implDegrees y _ hy1 hy2).mono ?_
        rintro e w' ⟨rfl, rfl⟩
        go_wp2
        go_ret
        exact ⟨rfl, hb⟩
    · have e1 : (turnV x y s == -1) = true := by rw [turnV_out x y s (by omega)]; simp
      by_cases s0 : 0 ≤ s
      · have s1 : 180 < s := by omega
        clear hs
        go_wp2_with fail
        refine (implTurnToward x y s _ hx1 hx2 hy1 hy2).mono ?_
        rintro e w' ⟨rfl, rfl⟩
        go_wp2_with fail
        refine (specTurnToward x y s _ hx1 hx2 hy1 hy2).mono ?_
        rintro e w' ⟨rfl, rfl⟩
        go_wp2_with fail
        refine (alive _).mono ?_
        rintro e w' ⟨rfl, rfl⟩
        go_wp2
        go_ret
        exact ⟨rfl, hb⟩
      · clear hs
        go_wp2_with fail
        refine (implTurnToward x y s _ hx1 hx2 hy1 hy2).mono ?_
        rintro e w' ⟨rfl, rfl⟩
        go_wp2_with fail
        refine (specTurnToward x y s _ hx1 hx2 hy1 hy2).mono ?_
        rintro e w' ⟨rfl, rfl⟩
        go_wp2_with fail
        refine (alive _).mono ?_
        rintro e w' ⟨rfl, rfl⟩
        go_wp2
        go_ret
        exact ⟨rfl, hb⟩
theorem walkFnAngleTriangle (w : World) (a : Option Addr) (len cap : Nat) (zs : List Int) (h : Bytes w a len cap zs) (a' : Option Addr) (len' cap' : Nat) (zs' : List Int) (h' : Bytes w a' len' cap' zs') :
    Calls Try.prog 7 #[.slice a len cap, .slice a' len' cap'] w fun e w' => e = .returned (.bool true) ∧ Below w.heap.size w w' := by
  have hle := h.len_le
  obtain ⟨hl, hm⟩ := hle
  unfold maxLen at hm
  have hle' := h'.len_le
  obtain ⟨hl', hm'⟩ := hle'
  unfold maxLen at hm'
  by_cases hbig : 1048576 < len
  · go_enter Try.func7, Try.ntmps7
    go_wp2
    go_ret
    exact ⟨rfl, Below.refl _ _⟩
  · by_cases hbig' : 1048576 < len'
    · go_enter Try.func7, Try.ntmps7
      go_wp2
      go_ret
      exact ⟨rfl, Below.refl _ _⟩
    · go_enter Try.func7, Try.ntmps7
      go_wp2_with fail
      refine (drawAngleBetween w a len cap zs h).mono ?_
      rintro e w1 ⟨x, y, hx1, hx2, hy1, hy2, rfl, hb⟩
      go_wp2_with fail
      refine (drawSine w1 a' len' cap' zs' (h'.below hb)).mono ?_
      rintro e w2 ⟨z, hz1, hz2, rfl, hb2⟩
      have HB := Lib.hid (hb.trans (hb2.mono hb.size))
      clear hb hb2 h h'
      have e0 : (ang x y == ang x y) = true := by simp
      have t0 := ang_tri x y z
      have t1 := ang_lo x z
      have t2 := ang_hi x z
      have t3 := ang_lo z y
      have t4 := ang_hi z y
      go_wp2_with fail
      refine (implAngleBetween x y _ hx1 hx2 hy1 hy2).mono ?_
      rintro e w' ⟨rfl, rfl⟩
      go_wp2_with fail
      refine (specAngleBetween x y _ hx1 hx2 hy1 hy2).mono ?_
      rintro e w' ⟨rfl, rfl⟩
      go_wp2_with fail
      refine (implAngleBetween x z _ hx1 hx2 hz1 hz2).mono ?_
      rintro e w' ⟨rfl, rfl⟩
      go_wp2_with fail
      refine (implAngleBetween z y _ hz1 hz2 hy1 hy2).mono ?_
      rintro e w' ⟨rfl, rfl⟩
      go_wp2_with fail
      refine (alive _).mono ?_
      rintro e w' ⟨rfl, rfl⟩
      go_wp2
      go_ret
      exact ⟨rfl, HB.out⟩
/-- How many turns by s the angle x needs. -/
def cnt (x s : Int) : Int := (x + s - 1) / s
theorem cnt_eq (x s : Int) (hs : 1 ≤ s) : cnt x s = (x - 1) / s + 1 := by
  unfold cnt
  have := Int.add_mul_ediv_right (x - 1) 1 (show s ≠ 0 by omega)
  rw [← this]; congr 1; omega
theorem cnt_step (x s : Int) (hs : 1 ≤ s) (hx : 1 ≤ x) : cnt (max 0 (x - s)) s = cnt x s - 1 := by
  rw [cnt_eq x s hs]
  by_cases h : s ≤ x
  · rw [show max 0 (x - s) = x - s by omega]; unfold cnt
    rw [show x - s + s - 1 = x - 1 by omega]; omega
  · rw [show max 0 (x - s) = 0 by omega]; unfold cnt
    rw [Int.ediv_eq_zero_of_lt (show 0 ≤ 0 + s - 1 by omega) (by omega), Int.ediv_eq_zero_of_lt (show 0 ≤ x - 1 by omega) (by omega)]; omega
theorem cnt_pos (x s : Int) (hs : 1 ≤ s) (hx : 1 ≤ x) : 1 ≤ cnt x s := by
  rw [cnt_eq x s hs]; have := Int.ediv_nonneg (show 0 ≤ x - 1 by omega) (show 0 ≤ s by omega); omega
theorem cnt_zero (s : Int) (hs : 1 ≤ s) : cnt 0 s = 0 := by
  unfold cnt; exact Int.ediv_eq_zero_of_lt (by omega) (by omega)
theorem cnt_le (x s : Int) (hs : 1 ≤ s) (hs2 : s ≤ 180) (hx : 0 ≤ x) (hx2 : x ≤ 180) : 0 ≤ cnt x s ∧ cnt x s ≤ 360 := by
  unfold cnt
  exact ⟨Int.ediv_nonneg (by omega) (by omega), Int.le_trans (Int.ediv_le_self _ (by omega)) (by omega)⟩
set_option maxHeartbeats 400000 in
theorem walkFnTurnSteps (w : World) (a : Option Addr) (len cap : Nat) (zs : List Int) (h : Bytes w a len cap zs) :
    Calls Try.prog 8 #[.slice a len cap] w fun e w' => e = .returned (.bool true) ∧ Below w.heap.size w w' := by
  have hle := h.len_le
  obtain ⟨hl, hm⟩ := hle
  unfold maxLen at hm
  by_cases hbig : 1048576 < len
  · go_enter Try.func8, Try.ntmps8
    go_wp2
    go_ret
    exact ⟨rfl, Below.refl _ _⟩
  · go_enter Try.func8, Try.ntmps8
    go_wp2_with fail
    refine (drawTurnToward w a len cap zs h).mono ?_
    rintro e w1 ⟨x, y, s, hx1, hx2, hy1, hy2, hs1, hs2, rfl, hb⟩
    have e0 : (turnV x y s != turnV x y s) = false := by simp
    by_cases hs : 1 ≤ s ∧ s ≤ 180
    · obtain ⟨s0, s1⟩ := hs
      have a0 := ang_lo x y
      have a1 := ang_hi x y
      have n0 := cnt_le (ang x y) s s0 s1 a0 a1
      unfold cnt at n0
      obtain ⟨n0, n1⟩ := n0
      have HN := Lib.hid (show cnt (ang x y) s = (ang x y + s - 1) / s from rfl)
      go_wp2_with fail
      refine (implTurnToward x y s _ hx1 hx2 hy1 hy2).mono ?_
      rintro e w' ⟨rfl, rfl⟩
      go_wp2_with fail
      refine (specTurnToward x y s _ hx1 hx2 hy1 hy2).mono ?_
      rintro e w' ⟨rfl, rfl⟩
      go_wp2_with fail
      refine (implAngleBetween x y _ hx1 hx2 hy1 hy2).mono ?_
      rintro e w' ⟨rfl, rfl⟩
      go_wp2_with fail
      refine (implDegrees x _ hx1 hx2).mono ?_
      rintro e w' ⟨rfl, rfl⟩
      go_wp2
      go_loop [8, 9] (fun t u => ∃ v k : Int, t = .int .i64 v ∧ u = .int .i64 k ∧ 0 ≤ v ∧ v < 360 ∧ 0 ≤ k ∧ k ≤ (ang x y + s - 1) / s ∧ Hid (cnt (ang v y) s = (ang x y + s - 1) / s - k)) (fun _ u => ((ang x y + s - 1) / s - intOf u).toNat)
      case atStart => exact ⟨deg x, 0, rfl, rfl, deg_lo x, deg_hi x, by omega, n0, Lib.hid (by rw [ang_deg, HN.out]; omega)⟩
      case round =>
        clear HN
        obtain ⟨v, k, rfl, rfl, v0, v1, k0, k1, HK⟩ := hrel
        have b0 := ang_lo v y
        by_cases hlt : k < (ang x y + s - 1) / s
        · have hpos : 1 ≤ ang v y := by
            have := HK.out
            rcases Int.lt_or_le 0 (ang v y) with h | h
            · omega
            · rw [show ang v y = 0 by omega, cnt_zero s s0] at this; omega
          have e1 : (v == deg y) = false := by
            rw [beq_eq_false_iff_ne]; intro he
            rw [he, ang_deg, ang_self] at hpos; omega
          have HT := Lib.hid (show turnV v y s = turn v y s from turnV_in v y s (by omega) s1)
          have t0 : 0 ≤ turnV v y s := by rw [HT.out]; exact turn_lo v y s
          have t1 : turnV v y s < 360 := by rw [HT.out]; exact turn_hi v y s
          have HK2 := Lib.hid (show cnt (ang (turnV v y s) y) s = (ang x y + s - 1) / s - (k + 1) by
            rw [HT.out, turn_far v y s (by omega) s1, cnt_step _ s s0 hpos, HK.out]; omega)
          go_wp2_with fail
          refine (implDegrees y _ hy1 hy2).mono ?_
          rintro e w' ⟨rfl, rfl⟩
          go_wp2_with fail
          refine (implTurnToward v y s _ (by omega) (by omega) hy1 hy2).mono ?_
          rintro e w' ⟨rfl, rfl⟩
          go_wp2
          go_round
          case rel => exact ⟨turnV v y s, k + 1, rfl, rfl, t0, t1, by omega, by omega, HK2⟩
          case measure => simp [intOf]; omega
        · have hz : ang v y = 0 := by
            have := HK.out
            rcases Int.lt_or_le 0 (ang v y) with h | h
            · have := cnt_pos (ang v y) s s0 (by omega); omega
            · omega
          have e1 : (v == deg y) = true := by
            have := ang_zero v y hz
            rw [deg_same v v0 v1] at this; rw [this]; simp
          clear hz
          go_wp2_with fail
          refine (implDegrees y _ hy1 hy2).mono ?_
          rintro e w' ⟨rfl, rfl⟩
          go_wp2
          go_ret
          exact ⟨rfl, hb⟩
    · by_cases s0 : 1 ≤ s
      · have s1 : 180 < s := by omega
        clear hs
        go_wp2_with fail
        refine (implTurnToward x y s _ hx1 hx2 hy1 hy2).mono ?_
        rintro e w' ⟨rfl, rfl⟩
        go_wp2_with fail
        refine (specTurnToward x y s _ hx1 hx2 hy1 hy2).mono ?_
        rintro e w' ⟨rfl, rfl⟩
        go_wp2_with fail
        refine (alive _).mono ?_
        rintro e w' ⟨rfl, rfl⟩
        go_wp2
        go_ret
        exact ⟨rfl, hb⟩
      · clear hs
        go_wp2_with fail
        refine (implTurnToward x y s _ hx1 hx2 hy1 hy2).mono ?_
        rintro e w' ⟨rfl, rfl⟩
        go_wp2_with fail
        refine (specTurnToward x y s _ hx1 hx2 hy1 hy2).mono ?_
        rintro e w' ⟨rfl, rfl⟩
        go_wp2_with fail
        refine (alive _).mono ?_
        rintro e w' ⟨rfl, rfl⟩
        go_wp2
        go_ret
        exact ⟨rfl, hb⟩
end Go.Proofs.Ytpiabkihbbfmoaa
