/- The program's and the document's GripStep, GripTime and HoldsWeight. -/
import Derived.Test.YtdklplohboeifaaGp12
namespace Go.Proofs.Ytdklplohboeifaa
set_option maxRecDepth 100000
open Go.RowKit
attribute [local go_sem ↓] Go.wp_at_zero Go.wp_at_succ
theorem clip12 (d o h : Int) (w : World) : Calls Try.prog 27 #[.int .i64 d, .int .i64 o, .int .i64 h] w fun e w' => e = .returned (.int .i64 (max o (min h d))) ∧ w = w' := by
  obtain ⟨v, hv⟩ : ∃ v, max o (min h d) = v := ⟨_, rfl⟩
  have HE := Lib.hid hv
  rw [hv]
  clear hv
  go_enter Try.func27, Try.ntmps27
  go_wp2
  all_goals
    go_ret
    exact ⟨ret_int (by rw [← HE.out]; omega), rfl⟩
theorem gripHoldsR (x t s o : Int) (w0 w : World) (h : okGrip x t s o) (hw : Below w0.heap.size w0 w) : Calls Try.prog 25 #[gpr (gripN x t s o) t s o] w fun e w' => e = .returned (.bool (gripH x t s o)) ∧ Below w0.heap.size w0 w' :=
  (gripHolds x t s o w h).mono fun _ _ ⟨he, hb⟩ => ⟨he, below_call hw hb⟩
theorem keep4 {w u : World} {b : Nat} {x y z t : Int} (h : Below w.heap.size w u) (A : At4 w b x y z t) :
    u.cell? ⟨b, 0, none⟩ = some (.int .i64 x) ∧ u.cell? ⟨b, 1, none⟩ = some (.int .i64 y) ∧ u.cell? ⟨b, 2, none⟩ = some (.int .i64 z) ∧ u.cell? ⟨b, 3, none⟩ = some (.int .i64 t) :=
  ⟨(A.next h).c0, (A.next h).c1, (A.next h).c2, (A.next h).c3⟩
set_option maxHeartbeats 1000000 in
theorem implGripStep (x t s o : Int) (w : World) : Calls Try.prog 11 #[.int .i64 x, .int .i64 t, .int .i64 s, .int .i64 o] w fun e w' => e = .returned (.tuple #[.int .i64 (gripV x t s o), .bool (gripH x t s o)]) ∧ Below w.heap.size w w' := by
  have A0 := At4.new w x t s o 39
  have B0 := Lib.hid (below_box w (.cells #[.int .i64 x, .int .i64 t, .int .i64 s, .int .i64 o] 39))
  by_cases h : okGrip x t s o
  · have HV := gripValid x t s o (w.alloc (.cells #[.int .i64 x, .int .i64 t, .int .i64 s, .int .i64 o] 39))
    rw [decide_eq_true h] at HV
    rw [gripV_in h]
    go_enter Try.func11, Try.ntmps11
    go_wp2_with fail
    refine HV.mono ?_
    rintro e w2 ⟨rfl, B2⟩
    have A2 := A0.next B2
    have HB2 := Lib.hid (below_call B0.out B2)
    generalize w.alloc (.cells #[.int .i64 x, .int .i64 t, .int .i64 s, .int .i64 o] 39) = w1 at *
    clear A0 B0 B2 HV
    obtain ⟨_, c0, c1, c2, c3, _, _, _, _⟩ := id A2
    go_wp2_with fail
    refine (gripStep x t s o _ h).mono ?_
    rintro e w3 ⟨rfl, B3⟩
    have HB3 := Lib.hid (below_call HB2.out B3)
    have HB4 := Lib.hid (below_call HB3.out (below_box w3 (.cells #[.int .i64 (gripN x t s o), .int .i64 t, .int .i64 s, .int .i64 o] 39)))
    have N3 := At4.new w3 (gripN x t s o) t s o 39
    clear c0 c1 c2 c3 A2 HB2 B3
    go_upto_region 5 with fail
    generalize w3.alloc (.cells #[.int .i64 (gripN x t s o), .int .i64 t, .int .i64 s, .int .i64 o] 39) = w4 at *
    have g0 : Below w4.heap.size w4 w4 := Below.refl _ _
    go_region_held3 (fun u => u.cell? ⟨w3.heap.size, 0, none⟩ = some (.int .i64 (gripN x t s o)) ∧ u.cell? ⟨w3.heap.size, 1, none⟩ = some (.int .i64 t) ∧ u.cell? ⟨w3.heap.size, 2, none⟩ = some (.int .i64 s) ∧ u.cell? ⟨w3.heap.size, 3, none⟩ = some (.int .i64 o)) (exact keep4 (by repeat (first | (with_reducible assumption) | (with_reducible apply Below.drew))) N3) (first
      | (go_at_call 25
         refine (gripHoldsR x t s o w4 _ h (by repeat (first | (with_reducible assumption) | (with_reducible apply Below.drew)))).mono ?_
         rintro e w5 ⟨rfl, K5⟩))
    go_wp2
    exact bodyPost_ret (v := .tuple #[.int .i64 (gripN x t s o), .bool (gripH x t s o)]) (by simp [results, Try.results11, go_sem]) rfl ⟨rfl, below_call HB4.out K5⟩
  · have HV := gripValid x t s o (w.alloc (.cells #[.int .i64 x, .int .i64 t, .int .i64 s, .int .i64 o] 39))
    rw [decide_eq_false h] at HV
    rw [gripV_out h, gripH_out h]
    go_enter Try.func11, Try.ntmps11
    go_wp2_with fail
    refine HV.mono ?_
    rintro e w2 ⟨rfl, B2⟩
    have HB2 := Lib.hid (below_call B0.out B2)
    clear A0 B0 B2 HV
    go_wp2
    exact bodyPost_ret (v := .tuple #[.int .i64 (-1), .bool false]) (by simp [results, Try.results11, go_sem]) rfl ⟨rfl, HB2.out⟩
set_option maxHeartbeats 1000000 in
theorem implGripTime (x t s o : Int) (w : World) : Calls Try.prog 16 #[.int .i64 x, .int .i64 t, .int .i64 s, .int .i64 o] w fun e w' => e = .returned (.int .i64 (gripTV x t s o)) ∧ Below w.heap.size w w' := by
  have A0 := At4.new w x t s o 39
  have B0 := Lib.hid (below_box w (.cells #[.int .i64 x, .int .i64 t, .int .i64 s, .int .i64 o] 39))
  by_cases h : okGrip x t s o
  · have HV := gripValid x t s o (w.alloc (.cells #[.int .i64 x, .int .i64 t, .int .i64 s, .int .i64 o] 39))
    rw [decide_eq_true h] at HV
    rw [gripTV_in h]
    go_enter Try.func16, Try.ntmps16
    go_wp2_with fail
    refine HV.mono ?_
    rintro e w2 ⟨rfl, B2⟩
    have A2 := A0.next B2
    have HB2 := Lib.hid (below_call B0.out B2)
    generalize w.alloc (.cells #[.int .i64 x, .int .i64 t, .int .i64 s, .int .i64 o] 39) = w1 at *
    clear A0 B0 B2 HV
    obtain ⟨_, c0, c1, c2, c3, _, _, _, _⟩ := id A2
    go_wp2_with fail
    refine (gripRest x t s o _ h).mono ?_
    rintro e w3 ⟨rfl, B3⟩
    have HB3 := Lib.hid (below_call HB2.out B3)
    clear c0 c1 c2 c3 A2 HB2 B3
    go_wp2
    go_ret
    exact ⟨rfl, HB3.out⟩
  · have HV := gripValid x t s o (w.alloc (.cells #[.int .i64 x, .int .i64 t, .int .i64 s, .int .i64 o] 39))
    rw [decide_eq_false h] at HV
    rw [gripTV_out h]
    go_enter Try.func16, Try.ntmps16
    go_wp2_with fail
    refine HV.mono ?_
    rintro e w2 ⟨rfl, B2⟩
    have HB2 := Lib.hid (below_call B0.out B2)
    clear A0 B0 B2 HV
    go_wp2
    go_ret
    exact ⟨rfl, HB2.out⟩
theorem forceC (v : Int) (w : World) : Calls Try.prog 30 #[.int .i64 v] w fun e w' => e = .returned (.bool (decide (0 ≤ v ∧ v ≤ 1000))) ∧ w = w' := by
  by_cases h0 : 0 ≤ v
  · have HE := Lib.hid (show decide (v ≤ 1000) = decide (0 ≤ v ∧ v ≤ 1000) by rw [Bool.eq_iff_iff]; simp [h0])
    go_enter Try.func30, Try.ntmps30
    go_wp2
    go_ret
    exact ⟨ret_bool HE.out, rfl⟩
  · have HE := Lib.hid (show false = decide (0 ≤ v ∧ v ≤ 1000) from (decide_eq_false (fun q => h0 q.1)).symm)
    have q1 : decide (0 ≤ v) = false := decide_eq_false h0
    generalize decide (0 ≤ v ∧ v ≤ 1000) = d at *
    go_enter Try.func30, Try.ntmps30
    go_wp2
    go_ret
    exact ⟨ret_bool HE.out, rfl⟩
theorem force_yes (v : Int) (w : World) (h : 0 ≤ v ∧ v ≤ 1000) : Calls Try.prog 30 #[.int .i64 v] w fun e w' => e = .returned (.bool true) ∧ w = w' := by
  have := forceC v w
  rwa [decide_eq_true h] at this
theorem force_no (v : Int) (w : World) (h : ¬ (0 ≤ v ∧ v ≤ 1000)) : Calls Try.prog 30 #[.int .i64 v] w fun e w' => e = .returned (.bool false) ∧ w = w' := by
  have := forceC v w
  rwa [decide_eq_false h] at this
set_option maxHeartbeats 1000000 in
theorem implHoldsWeight (f u x : Int) (w : World) : Calls Try.prog 19 #[.int .i64 f, .int .i64 u, .int .i64 x] w fun e w' => e = .returned (.bool (holdV f u x)) ∧ w = w' := by
  obtain ⟨d, hd⟩ : ∃ d, holdV f u x = d := ⟨_, rfl⟩
  have HD := Lib.hid hd
  rw [hd]
  clear hd
  have NO : ¬ okHold f u x → false = d := fun h => by rw [← HD.out, holdV_out h]
  by_cases h1 : 0 ≤ f ∧ f ≤ 1000
  rotate_left
  · have HE := Lib.hid (NO (fun q => h1 q.1))
    clear NO HD
    go_enter Try.func19, Try.ntmps19
    go_wp2_with fail
    refine (force_no f _ h1).mono ?_
    rintro e w' ⟨rfl, rfl⟩
    go_wp2
    go_ret
    exact ⟨ret_bool HE.out, rfl⟩
  by_cases h3 : 0 ≤ x ∧ x ≤ 1000
  rotate_left
  · have HE := Lib.hid (NO (fun q => h3 q.2.2))
    clear NO HD
    go_enter Try.func19, Try.ntmps19
    go_wp2_with fail
    refine (force_yes f _ h1).mono ?_
    rintro e w' ⟨rfl, rfl⟩
    go_wp2_with fail
    refine (force_no x _ h3).mono ?_
    rintro e w' ⟨rfl, rfl⟩
    go_wp2
    go_ret
    exact ⟨ret_bool HE.out, rfl⟩
  by_cases h2 : 0 ≤ u
  rotate_left
  · have HE := Lib.hid (NO (fun q => h2 q.2.1.1))
    have q1 : decide (0 ≤ u) = false := decide_eq_false h2
    clear NO HD
    go_enter Try.func19, Try.ntmps19
    go_wp2_with fail
    refine (force_yes f _ h1).mono ?_
    rintro e w' ⟨rfl, rfl⟩
    go_wp2_with fail
    refine (force_yes x _ h3).mono ?_
    rintro e w' ⟨rfl, rfl⟩
    go_wp2
    go_ret
    exact ⟨ret_bool HE.out, rfl⟩
  by_cases h4 : u ≤ 200
  rotate_left
  · have HE := Lib.hid (NO (fun q => h4 q.2.1.2))
    have q1 : decide (u ≤ 200) = false := decide_eq_false h4
    clear NO HD
    go_enter Try.func19, Try.ntmps19
    go_wp2_with fail
    refine (force_yes f _ h1).mono ?_
    rintro e w' ⟨rfl, rfl⟩
    go_wp2_with fail
    refine (force_yes x _ h3).mono ?_
    rintro e w' ⟨rfl, rfl⟩
    go_wp2
    go_ret
    exact ⟨ret_bool HE.out, rfl⟩
  have hk : okHold f u x := ⟨h1, ⟨h2, h4⟩, h3⟩
  have HE := Lib.hid (show decide (100 * x ≤ 2 * f * u) = d by rw [← HD.out, holdV_in hk])
  have hb := fu_rng hk
  have o1 : IntKind.i64.wrap (2 * f) = 2 * f := IntWalk.i64_in _ (by omega)
  have o2 : IntKind.i64.wrap (2 * f * u) = 2 * f * u := IntWalk.i64_in _ (by omega)
  clear NO HD hk
  go_enter Try.func19, Try.ntmps19
  go_wp2_with fail
  refine (force_yes f _ h1).mono ?_
  rintro e w' ⟨rfl, rfl⟩
  go_wp2_with fail
  refine (force_yes x _ h3).mono ?_
  rintro e w' ⟨rfl, rfl⟩
  go_wp2
  go_ret
  exact ⟨ret_bool HE.out, rfl⟩
theorem in12 (n lo hi : Int) (w : World) (h : lo ≤ n ∧ n ≤ hi) : Calls Try.prog 26 #[.int .i64 n, .int .i64 lo, .int .i64 hi] w fun e w' => e = .returned (.bool true) ∧ w = w' := l1In_yes n lo hi w h.1 h.2
theorem out12 (n lo hi : Int) (w : World) (h : ¬ (lo ≤ n ∧ n ≤ hi)) : Calls Try.prog 26 #[.int .i64 n, .int .i64 lo, .int .i64 hi] w fun e w' => e = .returned (.bool false) ∧ w = w' := l1In_no n lo hi w (by omega)
set_option maxHeartbeats 1000000 in
theorem specGripStep (x t s o : Int) (w : World) : Calls Try.prog 12 #[.int .i64 x, .int .i64 t, .int .i64 s, .int .i64 o] w fun e w' => e = .returned (.tuple #[.int .i64 (gripV x t s o), .bool (gripH x t s o)]) ∧ w = w' := by
  by_cases h1 : 0 ≤ x ∧ x ≤ 200
  rotate_left
  · have hn : ¬ okGrip x t s o := fun q => h1 q.1
    rw [gripV_out hn, gripH_out hn]
    clear hn
    go_enter Try.func12, Try.ntmps12
    go_wp2_with fail
    refine (out12 x 0 200 _ h1).mono ?_
    rintro e w' ⟨rfl, rfl⟩
    go_wp2
    exact bodyPost_ret (v := .tuple #[.int .i64 (-1), .bool false]) (by simp [results, Try.results12, go_sem]) rfl ⟨rfl, rfl⟩
  by_cases h2 : 0 ≤ t ∧ t ≤ 200
  rotate_left
  · have hn : ¬ okGrip x t s o := fun q => h2 q.2.1
    rw [gripV_out hn, gripH_out hn]
    clear hn
    go_enter Try.func12, Try.ntmps12
    go_wp2_with fail
    refine (in12 x 0 200 _ h1).mono ?_
    rintro e w' ⟨rfl, rfl⟩
    go_wp2_with fail
    refine (out12 t 0 200 _ h2).mono ?_
    rintro e w' ⟨rfl, rfl⟩
    go_wp2
    exact bodyPost_ret (v := .tuple #[.int .i64 (-1), .bool false]) (by simp [results, Try.results12, go_sem]) rfl ⟨rfl, rfl⟩
  by_cases h3 : 0 ≤ o ∧ o ≤ 200
  rotate_left
  · have hn : ¬ okGrip x t s o := fun q => h3 q.2.2.1
    rw [gripV_out hn, gripH_out hn]
    clear hn
    go_enter Try.func12, Try.ntmps12
    go_wp2_with fail
    refine (in12 x 0 200 _ h1).mono ?_
    rintro e w' ⟨rfl, rfl⟩
    go_wp2_with fail
    refine (in12 t 0 200 _ h2).mono ?_
    rintro e w' ⟨rfl, rfl⟩
    go_wp2_with fail
    refine (out12 o 0 200 _ h3).mono ?_
    rintro e w' ⟨rfl, rfl⟩
    go_wp2
    exact bodyPost_ret (v := .tuple #[.int .i64 (-1), .bool false]) (by simp [results, Try.results12, go_sem]) rfl ⟨rfl, rfl⟩
  by_cases h4 : 1 ≤ s ∧ s ≤ 200
  rotate_left
  · have hn : ¬ okGrip x t s o := fun q => h4 q.2.2.2
    rw [gripV_out hn, gripH_out hn]
    clear hn
    go_enter Try.func12, Try.ntmps12
    go_wp2_with fail
    refine (in12 x 0 200 _ h1).mono ?_
    rintro e w' ⟨rfl, rfl⟩
    go_wp2_with fail
    refine (in12 t 0 200 _ h2).mono ?_
    rintro e w' ⟨rfl, rfl⟩
    go_wp2_with fail
    refine (in12 o 0 200 _ h3).mono ?_
    rintro e w' ⟨rfl, rfl⟩
    go_wp2_with fail
    refine (out12 s 1 200 _ h4).mono ?_
    rintro e w' ⟨rfl, rfl⟩
    go_wp2
    exact bodyPost_ret (v := .tuple #[.int .i64 (-1), .bool false]) (by simp [results, Try.results12, go_sem]) rfl ⟨rfl, rfl⟩
  have hk : okGrip x t s o := ⟨h1, h2, h3, h4⟩
  obtain ⟨n, hn⟩ : ∃ n, gripN x t s o = n := ⟨_, rfl⟩
  obtain ⟨m, hm⟩ : ∃ m, max (x - s) (min (x + s) t) = m := ⟨_, rfl⟩
  obtain ⟨hv, hhv⟩ : ∃ hv, gripH x t s o = hv := ⟨_, rfl⟩
  rw [gripV_in hk, hn, hhv]
  have HH := Lib.hid (show hv = decide (0 < o ∧ n = o ∧ t < o) by rw [← hhv, ← hn]; unfold gripH; rw [Bool.eq_iff_iff]; simp only [decide_eq_true_eq]; exact ⟨fun q => q.2, fun q => ⟨hk, q⟩⟩)
  have HM := Lib.hid (show n = if o ≤ x then max m o else m by
    rw [← hn]; unfold gripN; split <;> omega)
  have HC := Lib.hid (fun w => hm ▸ clip12 t (x - s) (x + s) w)
  clear hn hhv hm hk
  go_enter Try.func12, Try.ntmps12
  go_wp2_with fail
  refine (in12 x 0 200 _ h1).mono ?_
  rintro e w' ⟨rfl, rfl⟩
  go_wp2_with fail
  refine (in12 t 0 200 _ h2).mono ?_
  rintro e w' ⟨rfl, rfl⟩
  go_wp2_with fail
  refine (in12 o 0 200 _ h3).mono ?_
  rintro e w' ⟨rfl, rfl⟩
  go_wp2_with fail
  refine (in12 s 1 200 _ h4).mono ?_
  rintro e w' ⟨rfl, rfl⟩
  go_wp2_with fail
  refine (HC.out _).mono ?_
  rintro e w' ⟨rfl, rfl⟩
  go_wp2
  all_goals
    refine bodyPost_ret (v := .tuple #[.int .i64 n, .bool hv]) ?_ rfl ⟨rfl, rfl⟩
    have e1 := HM.out
    have e2 := HH.out
    clear HM HH HC
    simp [results, Try.results12, go_sem]
    subst e2
    refine ⟨by split at e1 <;> omega, ?_⟩
    rw [Bool.eq_iff_iff]
    simp only [decide_eq_true_eq, Bool.false_eq_true, false_iff, iff_false]
    split at e1 <;> omega
theorem specGripIn (x t s o n : Int) (w : World) (h : okGrip x t s o) (hn : gripN x t s o = n) : Calls Try.prog 12 #[.int .i64 x, .int .i64 t, .int .i64 s, .int .i64 o] w fun e w' => ∃ b, e = .returned (.tuple #[.int .i64 n, .bool b]) ∧ w = w' :=
  (specGripStep x t s o w).mono fun _ _ ⟨he, hw⟩ => ⟨gripH x t s o, by rw [he, gripV_in h, hn], hw⟩
theorem specGripOut (x t s o : Int) (w : World) (h : ¬ okGrip x t s o) : Calls Try.prog 12 #[.int .i64 x, .int .i64 t, .int .i64 s, .int .i64 o] w fun e w' => e = .returned (.tuple #[.int .i64 (-1), .bool false]) ∧ w = w' :=
  (specGripStep x t s o w).mono fun _ _ ⟨he, hw⟩ => ⟨by rw [he, gripV_out h, gripH_out h], hw⟩
set_option maxHeartbeats 1000000 in
theorem specGripTime (x t s o : Int) (w : World) : Calls Try.prog 17 #[.int .i64 x, .int .i64 t, .int .i64 s, .int .i64 o] w fun e w' => e = .returned (.int .i64 (gripTV x t s o)) ∧ w = w' := by
  by_cases h : okGrip x t s o
  rotate_left
  · rw [gripTV_out h]
    have HG := Lib.hid (specGripOut x t s o w h)
    clear h
    go_enter Try.func17, Try.ntmps17
    go_wp2
    go_loop [0, 9] (fun wd n => wd = .int .i64 x ∧ n = .int .i64 0) (fun _ _ => 0)
    case atStart => exact ⟨rfl, rfl⟩
    case round =>
      obtain ⟨rfl, rfl⟩ := hrel
      go_wp2_with fail
      refine HG.out.mono ?_
      rintro e w' ⟨rfl, rfl⟩
      go_wp2
      go_ret
      exact ⟨rfl, rfl⟩
  rw [gripTV_in h]
  obtain ⟨T0, hT0⟩ : ∃ T0, gripT x t s o = T0 := ⟨_, rfl⟩
  have HT := Lib.hid hT0
  have HTL := Lib.hid (gripT_le h)
  rw [hT0]
  clear hT0
  go_enter Try.func17, Try.ntmps17
  go_wp2
  go_loop [0, 9] (fun wd n => ∃ (k : Nat) (W : Int), wd = .int .i64 W ∧ n = .int .i64 (k : Int) ∧ okGrip W t s o ∧ Hid ((k : Int) + gripT W t s o = T0)) (fun wd _ => farW (intOf wd) t o)
  case atStart => exact ⟨0, x, rfl, rfl, h, Lib.hid (by have := HT.out; omega)⟩
  case round =>
    obtain ⟨k, W, rfl, rfl, hW, HK⟩ := hrel
    clear h
    have hT := gripT_le hW
    have hT0 := gripT_nonneg hW
    obtain ⟨n, hn⟩ : ∃ n, gripN W t s o = n := ⟨_, rfl⟩
    have hk : (k : Int) ≤ 1000 := by have := HK.out; have := HT.out; have := HTL.out; omega
    have HG := Lib.hid (fun w => specGripIn W t s o n w hW hn)
    have hn0 : 0 ≤ n := hn ▸ (gripN_rng hW).1
    by_cases hq : n = W
    · have HR := Lib.hid (show (k : Int) = T0 by have := HK.out; have := gripT_rest hW (hn.trans hq); omega)
      have e1 : (n == W) = true := by simp [hq]
      clear hn hT hT0 hq hW
      go_wp2_with fail
      refine (HG.out _).mono ?_
      rintro e w' ⟨b, rfl, rfl⟩
      go_wp2
      go_ret
      exact ⟨ret_int HR.out, rfl⟩
    · have HS := Lib.hid (gripT_step hW (fun e => hq (hn.symm.trans e)))
      have HF := Lib.hid (show farW n t o < farW W t o by
        have q1 := farW_step hW
        have q2 := farW_rest hW
        have q3 := hW.2.2.2
        rw [hn] at q1 q2
        omega)
      have hWn := Lib.hid (show okGrip n t s o from hn ▸ gripN_ok hW)
      have e1 : (n == W) = false := by simp [hq]
      have HN := Lib.hid hn
      clear hn hT hT0 hq hW
      go_wp2_with fail
      refine (HG.out _).mono ?_
      rintro e w' ⟨b, rfl, rfl⟩
      go_wp2
      go_round
      case rel => exact ⟨k + 1, n, rfl, by congr 1, hWn.out, Lib.hid (by have := HK.out; have := HS.out; rw [HN.out] at this; omega)⟩
      case measure => exact HF.out
set_option maxHeartbeats 1000000 in
theorem specHoldsWeight (f u x : Int) (w : World) : Calls Try.prog 20 #[.int .i64 f, .int .i64 u, .int .i64 x] w fun e w' => e = .returned (.bool (holdV f u x)) ∧ w = w' := by
  obtain ⟨d, hd⟩ : ∃ d, holdV f u x = d := ⟨_, rfl⟩
  have HD := Lib.hid hd
  rw [hd]
  clear hd
  have NO : ¬ okHold f u x → false = d := fun h => by rw [← HD.out, holdV_out h]
  by_cases h1 : 0 ≤ f ∧ f ≤ 1000
  rotate_left
  · have HE := Lib.hid (NO (fun q => h1 q.1))
    clear NO HD
    go_enter Try.func20, Try.ntmps20
    go_wp2_with fail
    refine (out12 f 0 1000 _ h1).mono ?_
    rintro e w' ⟨rfl, rfl⟩
    go_wp2
    go_ret
    exact ⟨ret_bool HE.out, rfl⟩
  by_cases h2 : 0 ≤ u ∧ u ≤ 200
  rotate_left
  · have HE := Lib.hid (NO (fun q => h2 q.2.1))
    clear NO HD
    go_enter Try.func20, Try.ntmps20
    go_wp2_with fail
    refine (in12 f 0 1000 _ h1).mono ?_
    rintro e w' ⟨rfl, rfl⟩
    go_wp2_with fail
    refine (out12 u 0 200 _ h2).mono ?_
    rintro e w' ⟨rfl, rfl⟩
    go_wp2
    go_ret
    exact ⟨ret_bool HE.out, rfl⟩
  by_cases h3 : 0 ≤ x ∧ x ≤ 1000
  rotate_left
  · have HE := Lib.hid (NO (fun q => h3 q.2.2))
    clear NO HD
    go_enter Try.func20, Try.ntmps20
    go_wp2_with fail
    refine (in12 f 0 1000 _ h1).mono ?_
    rintro e w' ⟨rfl, rfl⟩
    go_wp2_with fail
    refine (in12 u 0 200 _ h2).mono ?_
    rintro e w' ⟨rfl, rfl⟩
    go_wp2_with fail
    refine (out12 x 0 1000 _ h3).mono ?_
    rintro e w' ⟨rfl, rfl⟩
    go_wp2
    go_ret
    exact ⟨ret_bool HE.out, rfl⟩
  have hk : okHold f u x := ⟨h1, h2, h3⟩
  have HE := Lib.hid (show decide (100 * x ≤ 2 * f * u) = d by rw [← HD.out, holdV_in hk])
  have hb := fu_rng hk
  have o1 : IntKind.i64.wrap (2 * f) = 2 * f := IntWalk.i64_in _ (by omega)
  have o2 : IntKind.i64.wrap (2 * f * u) = 2 * f * u := IntWalk.i64_in _ (by omega)
  clear NO HD hk
  go_enter Try.func20, Try.ntmps20
  go_wp2_with fail
  refine (in12 f 0 1000 _ h1).mono ?_
  rintro e w' ⟨rfl, rfl⟩
  go_wp2_with fail
  refine (in12 u 0 200 _ h2).mono ?_
  rintro e w' ⟨rfl, rfl⟩
  go_wp2_with fail
  refine (in12 x 0 1000 _ h3).mono ?_
  rintro e w' ⟨rfl, rfl⟩
  go_wp2
  go_ret
  exact ⟨ret_bool HE.out, rfl⟩
end Go.Proofs.Ytdklplohboeifaa
