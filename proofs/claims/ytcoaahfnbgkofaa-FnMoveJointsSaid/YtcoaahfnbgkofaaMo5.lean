/- The document's StopDistance, NextSpeed; the program's checks of speeds, distances and limits. -/
import Derived.Test.YtcoaahfnbgkofaaNum5
import Derived.Test.YtcoaahfnbgkofaaDrawO
namespace Go.Proofs.Ytcoaahfnbgkofaa
set_option maxRecDepth 100000
open Go.RowKit
theorem specStopIn (v r : Int) (w : World) (v0 : 0 ≤ v) (v1 : v ≤ 200) (r0 : 1 ≤ r) (r1 : r ≤ 50) :
    Calls Try.prog 85 #[.int .i64 v, .int .i64 r] w fun e w' => e = .returned (.int .i64 (stopD v r)) ∧ w = w' := by
  have HB := Lib.hid (stopD_hi v r r0 v0 v1)
  go_enter Try.func85, Try.ntmps85
  go_wp2_with fail
  refine (l1In_yes v 0 200 _ v0 v1).mono ?_
  rintro e w' ⟨rfl, rfl⟩
  go_wp2_with fail
  refine (l1In_yes r 1 50 _ r0 r1).mono ?_
  rintro e w' ⟨rfl, rfl⟩
  go_wp2
  go_loop [0, 5] (fun t u => ∃ a b : Int, t = .int .i64 a ∧ u = .int .i64 b ∧ 0 ≤ a ∧ a ≤ 200 ∧ 0 ≤ b ∧ Hid (b + stopD a r = stopD v r)) (fun t _ => (intOf t).toNat)
  case atStart => exact ⟨v, 0, rfl, rfl, v0, v1, by omega, Lib.hid (by omega)⟩
  case round =>
    obtain ⟨a, b, rfl, rfl, a0, a1, b0, HE⟩ := hrel
    by_cases hlt : r < a
    · have q1 : b + (a - r) ≤ 40000 := by have h1 := HE.out; rw [stopD_step a r r0 hlt] at h1; have h2 := stopD_lo (a - r) r r0; have h3 := HB.out; omega
      have HN := Lib.hid (show b + (a - r) + stopD (a - r) r = stopD v r by have h1 := HE.out; rw [stopD_step a r r0 hlt] at h1; omega)
      go_wp2
      go_round
      case rel => exact ⟨a - r, b + (a - r), rfl, rfl, by omega, by omega, by omega, HN⟩
      case measure => simp [intOf]; omega
    · have HN := Lib.hid (show b = stopD v r by have h1 := HE.out; rw [stopD_zero a r (by omega)] at h1; omega)
      go_wp2
      go_ret
      exact ⟨ret_int HN.out, rfl⟩
theorem specStopDistance (v r : Int) (w : World) :
    Calls Try.prog 85 #[.int .i64 v, .int .i64 r] w fun e w' => e = .returned (.int .i64 (stopV v r)) ∧ w = w' := by
  by_cases h1 : 0 ≤ v ∧ v ≤ 200
  · by_cases h2 : 1 ≤ r ∧ r ≤ 50
    · rw [stopV_in v r h1.1 h1.2 h2.1 h2.2]
      exact specStopIn v r w h1.1 h1.2 h2.1 h2.2
    · have HE := Lib.hid (stopV_out v r (fun h => h2 h.2))
      obtain ⟨v0, v1⟩ := h1
      go_enter Try.func85, Try.ntmps85
      go_wp2_with fail
      refine (l1In_yes v 0 200 _ v0 v1).mono ?_
      rintro e w' ⟨rfl, rfl⟩
      go_wp2_with fail
      refine (l1In_no r 1 50 _ (by omega)).mono ?_
      rintro e w' ⟨rfl, rfl⟩
      go_wp2
      go_ret
      exact ⟨ret_int HE.out.symm, rfl⟩
  · have HE := Lib.hid (stopV_out v r (fun h => h1 h.1))
    go_enter Try.func85, Try.ntmps85
    go_wp2_with fail
    refine (l1In_no v 0 200 _ (by omega)).mono ?_
    rintro e w' ⟨rfl, rfl⟩
    go_wp2
    go_ret
    exact ⟨ret_int HE.out.symm, rfl⟩
set_option maxHeartbeats 400000 in
theorem specNextIn (v d t r : Int) (w : World) (v0 : 0 ≤ v) (v1 : v ≤ 200) (d0 : 0 ≤ d) (d1 : d ≤ 5000) (t0 : 1 ≤ t) (t1 : t ≤ 200) (r0 : 1 ≤ r) (r1 : r ≤ 50) :
    Calls Try.prog 76 #[.int .i64 v, .int .i64 d, .int .i64 t, .int .i64 r] w fun e w' => e = .returned (.int .i64 (nextI v d t r)) ∧ w = w' := by
  obtain ⟨m0, hm⟩ : ∃ m0 : Nat, (min t (v + r)).toNat = m0 := ⟨_, rfl⟩
  have HM := Lib.hid (show min t (v + r) = (m0 : Int) by omega)
  have HR := Lib.hid (show nextI v d t r = (nextN r d m0 : Int) by unfold nextI; rw [hm])
  have hm1 : m0 ≤ 200 := by omega
  clear hm
  go_enter Try.func76, Try.ntmps76
  go_wp2_with fail
  refine (l1In_yes v 0 200 _ v0 v1).mono ?_
  rintro e w' ⟨rfl, rfl⟩
  go_wp2_with fail
  refine (l1In_yes d 0 5000 _ d0 d1).mono ?_
  rintro e w' ⟨rfl, rfl⟩
  go_wp2_with fail
  refine (l1In_yes t 1 200 _ t0 t1).mono ?_
  rintro e w' ⟨rfl, rfl⟩
  go_wp2_with fail
  refine (l1In_yes r 1 50 _ r0 r1).mono ?_
  rintro e w' ⟨rfl, rfl⟩
  go_wp2
  all_goals
    go_loop [9] (fun u => ∃ m : Nat, u = .int .i64 (m : Int) ∧ m ≤ 200 ∧ Hid (nextN r d m = nextN r d m0)) (fun u => (intOf u).toNat)
    case atStart => exact ⟨m0, by congr 1; have := HM.out; omega, hm1, Lib.hid rfl⟩
    case round =>
      obtain ⟨m, rfl, hm, HE⟩ := hrel
      by_cases hp : 0 < m
      · have s0 := stopD_lo m r r0
        have s1 := stopD_hi m r r0 (by omega) (by omega)
        have hpi : (0 : Int) < (m : Int) := by omega
        go_wp2_with fail
        refine (specStopIn m r _ (by omega) (by omega) r0 r1).mono ?_
        rintro e w' ⟨rfl, rfl⟩
        by_cases hs : (m : Int) + stopD m r ≤ d
        · have HN := Lib.hid (show nextN r d m = m from nextN_take r d m hs)
          generalize stopD (m : Int) r = q at *
          go_wp2
          go_ret
          exact ⟨ret_int (by rw [HR.out, ← HE.out, HN.out]), rfl⟩
        · have HN := Lib.hid (nextN_drop r d m hs hp)
          generalize stopD (m : Int) r = q at *
          go_wp2
          go_round
          case rel => exact ⟨m - 1, by congr 1; omega, by omega, Lib.hid (HN.out.symm.trans HE.out)⟩
          case measure => simp [intOf]; omega
      · obtain rfl : m = 0 := by omega
        have HN := Lib.hid (show nextN r d 0 = 0 from rfl)
        go_wp2
        go_ret
        exact ⟨ret_int (by rw [HR.out, ← HE.out, HN.out]; rfl), rfl⟩
theorem specNextSpeed (v d t r : Int) (w : World) :
    Calls Try.prog 76 #[.int .i64 v, .int .i64 d, .int .i64 t, .int .i64 r] w fun e w' => e = .returned (.int .i64 (nextV v d t r)) ∧ w = w' := by
  by_cases h1 : 0 ≤ v ∧ v ≤ 200
  · by_cases h2 : 0 ≤ d ∧ d ≤ 5000
    · by_cases h3 : 1 ≤ t ∧ t ≤ 200
      · by_cases h4 : 1 ≤ r ∧ r ≤ 50
        · rw [nextV_in v d t r ⟨⟨h1, h2⟩, h3, h4⟩]
          exact specNextIn v d t r w h1.1 h1.2 h2.1 h2.2 h3.1 h3.2 h4.1 h4.2
        · have HE := Lib.hid (nextV_out v d t r (fun h => h4 h.2.2))
          go_enter Try.func76, Try.ntmps76
          go_wp2_with fail
          refine (l1In_yes v 0 200 _ h1.1 h1.2).mono ?_
          rintro e w' ⟨rfl, rfl⟩
          go_wp2_with fail
          refine (l1In_yes d 0 5000 _ h2.1 h2.2).mono ?_
          rintro e w' ⟨rfl, rfl⟩
          go_wp2_with fail
          refine (l1In_yes t 1 200 _ h3.1 h3.2).mono ?_
          rintro e w' ⟨rfl, rfl⟩
          go_wp2_with fail
          refine (l1In_no r 1 50 _ (by omega)).mono ?_
          rintro e w' ⟨rfl, rfl⟩
          go_wp2
          go_ret
          exact ⟨ret_int HE.out.symm, rfl⟩
      · have HE := Lib.hid (nextV_out v d t r (fun h => h3 h.2.1))
        go_enter Try.func76, Try.ntmps76
        go_wp2_with fail
        refine (l1In_yes v 0 200 _ h1.1 h1.2).mono ?_
        rintro e w' ⟨rfl, rfl⟩
        go_wp2_with fail
        refine (l1In_yes d 0 5000 _ h2.1 h2.2).mono ?_
        rintro e w' ⟨rfl, rfl⟩
        go_wp2_with fail
        refine (l1In_no t 1 200 _ (by omega)).mono ?_
        rintro e w' ⟨rfl, rfl⟩
        go_wp2
        go_ret
        exact ⟨ret_int HE.out.symm, rfl⟩
    · have HE := Lib.hid (nextV_out v d t r (fun h => h2 h.1.2))
      go_enter Try.func76, Try.ntmps76
      go_wp2_with fail
      refine (l1In_yes v 0 200 _ h1.1 h1.2).mono ?_
      rintro e w' ⟨rfl, rfl⟩
      go_wp2_with fail
      refine (l1In_no d 0 5000 _ (by omega)).mono ?_
      rintro e w' ⟨rfl, rfl⟩
      go_wp2
      go_ret
      exact ⟨ret_int HE.out.symm, rfl⟩
  · have HE := Lib.hid (nextV_out v d t r (fun h => h1 h.1.1))
    go_enter Try.func76, Try.ntmps76
    go_wp2_with fail
    refine (l1In_no v 0 200 _ (by omega)).mono ?_
    rintro e w' ⟨rfl, rfl⟩
    go_wp2
    go_ret
    exact ⟨ret_int HE.out.symm, rfl⟩
theorem dist_yes (v : Int) (w : World) (h0 : 0 ≤ v) (h1 : v ≤ 5000) : Calls Try.prog 72 #[.int .i64 v] w fun e w' => e = .returned (.bool true) ∧ w = w' := by
  go_enter Try.func72, Try.ntmps72
  go_wp2
  go_ret
  exact ⟨rfl, rfl⟩
theorem dist_no (v : Int) (w : World) (h : ¬ (0 ≤ v ∧ v ≤ 5000)) : Calls Try.prog 72 #[.int .i64 v] w fun e w' => e = .returned (.bool false) ∧ w = w' := by
  by_cases h0 : 0 ≤ v
  · have h1 : decide (v ≤ 5000) = false := decide_eq_false (by omega)
    clear h
    go_enter Try.func72, Try.ntmps72
    go_wp2
    go_ret
    exact ⟨rfl, rfl⟩
  · clear h
    go_enter Try.func72, Try.ntmps72
    go_wp2
    go_ret
    exact ⟨rfl, rfl⟩
theorem limits_yes (t r : Int) (w : World) (t0 : 1 ≤ t) (t1 : t ≤ 200) (r0 : 1 ≤ r) (r1 : r ≤ 50) : Calls Try.prog 80 #[.int .i64 t, .int .i64 r] w fun e w' => e = .returned (.bool true) ∧ w = w' := by
  go_enter Try.func80, Try.ntmps80
  go_wp2
  go_ret
  exact ⟨rfl, rfl⟩
theorem limits_no (t r : Int) (w : World) (h : ¬ ((1 ≤ t ∧ t ≤ 200) ∧ (1 ≤ r ∧ r ≤ 50))) : Calls Try.prog 80 #[.int .i64 t, .int .i64 r] w fun e w' => e = .returned (.bool false) ∧ w = w' := by
  by_cases c1 : 1 ≤ t
  · by_cases c2 : t ≤ 200
    · by_cases c3 : 1 ≤ r
      · have c4 : decide (r ≤ 50) = false := decide_eq_false (by omega)
        clear h
        go_enter Try.func80, Try.ntmps80
        go_wp2
        go_ret
        exact ⟨rfl, rfl⟩
      · have c4 : decide (1 ≤ r) = false := decide_eq_false (by omega)
        clear h
        go_enter Try.func80, Try.ntmps80
        go_wp2
        go_ret
        exact ⟨rfl, rfl⟩
    · have c4 : decide (t ≤ 200) = false := decide_eq_false (by omega)
      clear h
      go_enter Try.func80, Try.ntmps80
      go_wp2
      go_ret
      exact ⟨rfl, rfl⟩
  · clear h
    go_enter Try.func80, Try.ntmps80
    go_wp2
    go_ret
    exact ⟨rfl, rfl⟩
end Go.Proofs.Ytcoaahfnbgkofaa
