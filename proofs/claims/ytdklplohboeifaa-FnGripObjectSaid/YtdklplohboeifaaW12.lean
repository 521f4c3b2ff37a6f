/- The walks of the laws on the gripper. -/
import Derived.Test.YtdklplohboeifaaD12
namespace Go.Proofs.Ytdklplohboeifaa
set_option maxRecDepth 100000
open Go.RowKit
attribute [local go_sem ↓] Go.wp_at_zero Go.wp_at_succ
theorem abs12 (n : Int) (w : World) (h0 : -1000000 ≤ n) (h1 : n ≤ 1000000) :
    Calls Try.prog 14 #[.int .i64 n] w fun e w' => e = .returned (.int .i64 (n.natAbs : Int)) ∧ w = w' := by
  have o1 : IntKind.i64.wrap (-n) = -n := IntWalk.i64_in _ (by omega)
  obtain ⟨m, hm⟩ : ∃ m : Int, (n.natAbs : Int) = m := ⟨_, rfl⟩
  have HM := Lib.hid hm
  rw [hm]
  clear hm
  by_cases hn : n < 0
  · have HE := Lib.hid (show -n = m by have := HM.out; omega)
    go_enter Try.func14, Try.ntmps14
    go_wp2
    go_ret
    exact ⟨ret_int HE.out, rfl⟩
  · have HE := Lib.hid (show n = m by have := HM.out; omega)
    go_enter Try.func14, Try.ntmps14
    go_wp2
    go_ret
    exact ⟨ret_int HE.out, rfl⟩
theorem alive12 (w0 w : World) (hb : Below w0.heap.size w0 w) : Calls Try.prog 13 #[] w fun e w' => e = .returned (.bool true) ∧ Below w0.heap.size w0 w' :=
  (alive w).mono fun _ _ ⟨he, hw⟩ => ⟨he, hw ▸ hb⟩
theorem grip_facts {x t s o : Int} (h : okGrip x t s o) : ((gripN x t s o - x).natAbs : Int) ≤ s ∧ min x t ≤ gripN x t s o ∧ gripN x t s o ≤ max x t ∧ (x < o ∨ o ≤ gripN x t s o) := by
  obtain ⟨h1, h2, h3, h4⟩ := h
  unfold gripN; split <;> omega
set_option maxHeartbeats 4000000 in
theorem walkFnGripStep (w : World) (a : Option Addr) (len cap : Nat) (zs : List Int) (h : Bytes w a len cap zs) :
    Calls Try.prog 3 #[.slice a len cap] w fun e w' => e = .returned (.bool true) ∧ Below w.heap.size w w' := by
  have hle := h.len_le
  obtain ⟨hl, hm⟩ := hle
  unfold maxLen at hm
  by_cases hbig : 1048576 < len
  · go_enter Try.func3, Try.ntmps3
    go_wp2
    go_ret
    exact ⟨rfl, Below.refl _ _⟩
  · go_enter Try.func3, Try.ntmps3
    go_wp2_with fail
    refine (drawGripStep w a len cap zs h).mono ?_
    rintro e w1 ⟨x, t, s, o, hx, ht, hs, ho, rfl, hb⟩
    have HB := Lib.hid hb
    have HI := Lib.hid (fun w => implGripStep x t s o w)
    have HS := Lib.hid (fun w => specGripStep x t s o w)
    clear hb h
    by_cases hk : okGrip x t s o
    · obtain ⟨f1, f2, f3, f4⟩ := grip_facts hk
      have hr := gripN_rng hk
      have f5 : gripH x t s o = true → gripN x t s o = o ∧ 0 < o := fun q => by
        unfold gripH at q
        have := of_decide_eq_true q
        exact ⟨this.2.2.1, this.2.1⟩
      rw [gripV_in hk] at HI HS
      generalize gripN x t s o = n at *
      generalize gripH x t s o = b at *
      obtain ⟨m, hm⟩ : ∃ m : Int, ((n - x).natAbs : Int) = m := ⟨_, rfl⟩
      have HA := Lib.hid (fun w => hm ▸ abs12 (n - x) w (by omega) (by omega))
      rw [hm] at f1
      have e1 : (n != n) = false := by simp
      have e2 : (b != b) = false := by simp
      clear hm hk
      go_wp2_with fail
      refine (HI.out _).mono ?_
      rintro e w2 ⟨rfl, B2⟩
      have HB2 := Lib.hid (below_call HB.out B2)
      clear B2
      go_wp2_with fail
      refine (HS.out _).mono ?_
      rintro e w' ⟨rfl, rfl⟩
      go_wp2_with fail
      refine (HA.out _).mono ?_
      rintro e w' ⟨rfl, rfl⟩
      clear HA HS HI
      have f6 : b = true → (n == o) = true ∧ 0 < o := fun e => ⟨by simp [(f5 e).1], (f5 e).2⟩
      rcases Int.le_total x t with q | q
      all_goals
        rcases Int.lt_or_le x o with q2 | q2
        · have g1 : min x t ≤ n := f2
          have g2 : n ≤ max x t := f3
          cases b
          · clear f2 f3 f4 f5 f6
            go_wp2
            all_goals
              go_ret
              exact ⟨rfl, HB2.out⟩
          · obtain ⟨e3, g3⟩ := f6 rfl
            clear f2 f3 f4 f5 f6
            go_wp2
            all_goals
              go_ret
              exact ⟨rfl, HB2.out⟩
        · have g1 : min x t ≤ n := f2
          have g2 : n ≤ max x t := f3
          have g4 : o ≤ n := by omega
          cases b
          · clear f2 f3 f4 f5 f6
            go_wp2
            all_goals
              go_ret
              exact ⟨rfl, HB2.out⟩
          · obtain ⟨e3, g3⟩ := f6 rfl
            clear f2 f3 f4 f5 f6
            go_wp2
            all_goals
              go_ret
              exact ⟨rfl, HB2.out⟩
    · rw [gripV_out hk, gripH_out hk] at HI HS
      clear hk
      go_wp2_with fail
      refine (HI.out _).mono ?_
      rintro e w2 ⟨rfl, B2⟩
      have HB2 := Lib.hid (below_call HB.out B2)
      clear B2
      go_wp2_with fail
      refine (HS.out _).mono ?_
      rintro e w' ⟨rfl, rfl⟩
      go_wp2_with fail
      refine (alive _).mono ?_
      rintro e w' ⟨rfl, rfl⟩
      go_wp2
      go_ret
      exact ⟨rfl, HB2.out⟩
set_option maxHeartbeats 4000000 in
theorem walkFnGripTime (w : World) (a : Option Addr) (len cap : Nat) (zs : List Int) (h : Bytes w a len cap zs) :
    Calls Try.prog 4 #[.slice a len cap] w fun e w' => e = .returned (.bool true) ∧ Below w.heap.size w w' := by
  have hle := h.len_le
  obtain ⟨hl, hm⟩ := hle
  unfold maxLen at hm
  by_cases hbig : 1048576 < len
  · go_enter Try.func4, Try.ntmps4
    go_wp2
    go_ret
    exact ⟨rfl, Below.refl _ _⟩
  · go_enter Try.func4, Try.ntmps4
    go_wp2_with fail
    refine (drawGripTime w a len cap zs h).mono ?_
    rintro e w1 ⟨x, t, s, o, hx, ht, hs, ho, rfl, hb⟩
    have HB := Lib.hid hb
    have HI := Lib.hid (fun w => implGripTime x t s o w)
    have HS := Lib.hid (fun w => specGripTime x t s o w)
    clear hb h
    by_cases hk : okGrip x t s o
    · have hle := gripT_le hk
      have h0 := gripT_nonneg hk
      rw [gripTV_in hk] at HI HS
      have HJ := Lib.hid (fun (k5 : s ≠ 200) (w : World) => show Calls Try.prog 16 #[.int .i64 x, .int .i64 t, .int .i64 (s + 1), .int .i64 o] w fun e w' => ∃ m : Int, m ≤ gripT x t s o ∧ e = .returned (.int .i64 m) ∧ Below w.heap.size w w' from
        (implGripTime x t (s + 1) o w).mono fun _ _ ⟨he, hw⟩ => ⟨_, gripT_fast hk, by rw [he, gripTV_in ⟨hk.1, hk.2.1, hk.2.2.1, by have := hk.2.2.2; omega⟩], hw⟩)
      obtain ⟨n, hn⟩ : ∃ n, gripT x t s o = n := ⟨_, rfl⟩
      rw [hn] at HI HS HJ hle h0
      have HN := Lib.hid hn
      obtain ⟨N, hN⟩ : ∃ N : Nat, n = (N : Int) := ⟨n.toNat, by omega⟩
      obtain ⟨m, hm⟩ : ∃ m : Int, ((t - x).natAbs : Int) = m := ⟨_, rfl⟩
      have HA := Lib.hid (fun w => hm ▸ abs12 (t - x) w (by omega) (by omega))
      have g1 : n ≤ m := by omega
      have g2 : n ≤ 200 := by omega
      have e1 : (n != n) = false := by simp
      clear hm hn hle
      go_wp2_with fail
      refine (HI.out _).mono ?_
      rintro e w2 ⟨rfl, B2⟩
      have HB2 := Lib.hid (below_call HB.out B2)
      clear B2
      go_wp2_with fail
      refine (HS.out _).mono ?_
      rintro e w' ⟨rfl, rfl⟩
      clear HB HI HS
      go_wp2_with fail
      go_loopw [8, 9] (fun v i wr => ∃ (k : Nat) (W : Int), v = .int .i64 W ∧ i = .int .i64 (k : Int) ∧ okGrip W t s o ∧ Hid ((k : Int) + gripT W t s o = n) ∧ Hid (Below w.heap.size w wr)) (fun _ i _ => N - (intOf i).toNat)
      case atStart => exact ⟨0, x, rfl, rfl, hk, Lib.hid (by have := HN.out; omega), HB2⟩
      case round =>
        obtain ⟨k, W, rfl, rfl, hW, HK, HW⟩ := hrel
        have hT0 := gripT_nonneg hW
        have hkn : (k : Int) ≤ n := by have := HK.out; omega
        obtain ⟨n2, hn2⟩ : ∃ n2, gripN W t s o = n2 := ⟨_, rfl⟩
        have HG := Lib.hid (fun w => show Calls Try.prog 11 #[.int .i64 W, .int .i64 t, .int .i64 s, .int .i64 o] w fun e w' => ∃ b, e = .returned (.tuple #[.int .i64 n2, .bool b]) ∧ Below w.heap.size w w' from
          (implGripStep W t s o w).mono fun _ _ ⟨he, hw⟩ => ⟨gripH W t s o, by rw [he, gripV_in hW, hn2], hw⟩)
        by_cases hlt : (k : Int) < n
        · have HS2 := Lib.hid (show okGrip n2 t s o ∧ gripT W t s o = 1 + gripT n2 t s o from ⟨hn2 ▸ gripN_ok hW, by
            rw [gripT_step hW (fun q => by have := gripT_rest hW q; have := HK.out; omega), hn2]⟩)
          clear hn2 hW hT0 HB2 hk
          go_wp2_with fail
          refine (HG.out _).mono ?_
          rintro e w3 ⟨b, rfl, B3⟩
          have HW3 := Lib.hid (below_call HW.out B3)
          clear B3 HG
          go_wp2
          go_roundw
          case rel => exact ⟨k + 1, n2, rfl, by congr 1, HS2.out.1, Lib.hid (by have := HS2.out.2; have := HK.out; omega), HW3⟩
          case measure => simp [intOf]; omega
        · have e2 : n2 = W := by
            rw [← hn2]; exact gripT_zero hW (by have := HK.out; omega)
          subst e2
          have e3 : (n2 == n2) = true := by simp
          clear hn2 hW hT0 HB2 hk
          go_wp2_with fail
          refine (HG.out _).mono ?_
          rintro e w3 ⟨b, rfl, B3⟩
          have HW3 := Lib.hid (below_call HW.out B3)
          clear B3 HG
          go_wp2_with fail
          refine (HA.out _).mono ?_
          rintro e w' ⟨rfl, rfl⟩
          by_cases h200 : s = 200
          · have e4 : (s == 200) = true := by simp [h200]
            clear h200
            go_wp2_with fail
            go_ret
            exact ⟨rfl, HW3.out⟩
          · have e4 : (s == 200) = false := by simp [h200]
            have HJ2 := Lib.hid (HJ.out h200)
            clear h200 HJ
            go_wp2_with fail
            refine (HJ2.out _).mono ?_
            rintro e w4 ⟨m4, g4, rfl, B4⟩
            have HW4 := Lib.hid (below_call HW3.out B4)
            clear B4
            go_wp2
            go_ret
            exact ⟨ret_bool (decide_eq_true (by omega)), HW4.out⟩
    · rw [gripTV_out hk] at HI HS
      clear hk
      go_wp2_with fail
      refine (HI.out _).mono ?_
      rintro e w2 ⟨rfl, B2⟩
      have HB2 := Lib.hid (below_call HB.out B2)
      clear B2
      go_wp2_with fail
      refine (HS.out _).mono ?_
      rintro e w' ⟨rfl, rfl⟩
      go_wp2_with fail
      refine (alive _).mono ?_
      rintro e w' ⟨rfl, rfl⟩
      go_wp2
      go_ret
      exact ⟨rfl, HB2.out⟩
set_option maxHeartbeats 4000000 in
theorem walkFnGripObject (w : World) (a : Option Addr) (len cap : Nat) (zs : List Int) (h : Bytes w a len cap zs) :
    Calls Try.prog 6 #[.slice a len cap] w fun e w' => e = .returned (.bool true) ∧ Below w.heap.size w w' := by
  have hle := h.len_le
  obtain ⟨hl, hm⟩ := hle
  unfold maxLen at hm
  by_cases hbig : 1048576 < len
  · go_enter Try.func6, Try.ntmps6
    go_wp2
    go_ret
    exact ⟨rfl, Below.refl _ _⟩
  · go_enter Try.func6, Try.ntmps6
    go_wp2_with fail
    refine (drawGripStep w a len cap zs h).mono ?_
    rintro e w1 ⟨x, t, s, o, hx, ht, hs, ho, rfl, hb⟩
    have HB := Lib.hid hb
    have HI := Lib.hid (fun w => implGripStep x 0 200 o w)
    have HS := Lib.hid (fun w => specGripStep x 0 200 o w)
    clear hb h
    by_cases hk : okGrip x 0 200 o
    · have hk2 : okGrip x 200 200 o := ⟨hk.1, by omega, hk.2.2⟩
      have hr := gripN_rng hk
      have f1 : gripH x 0 200 o = decide (0 < o ∧ o ≤ x) := by
        obtain ⟨h1, h2, h3, h4⟩ := id hk
        unfold gripH gripN
        rw [Bool.eq_iff_iff]
        simp only [decide_eq_true_eq]
        constructor
        · rintro ⟨_, q1, q2, q3⟩
          split at q2 <;> omega
        · rintro ⟨q1, q2⟩
          refine ⟨hk, q1, ?_, by omega⟩
          rw [if_pos q2]; omega
      have f2 : gripH x 200 200 o = false := by
        unfold gripH
        exact decide_eq_false (fun q => by have := hk.2.2.1; omega)
      have HO := Lib.hid (fun w => show Calls Try.prog 11 #[.int .i64 x, .int .i64 200, .int .i64 200, .int .i64 o] w fun e w' => ∃ n, e = .returned (.tuple #[.int .i64 n, .bool false]) ∧ Below w.heap.size w w' from
        (implGripStep x 200 200 o w).mono fun _ _ ⟨he, hw⟩ => ⟨gripV x 200 200 o, by rw [he, f2], hw⟩)
      rw [gripV_in hk] at HI HS
      generalize gripN x 0 200 o = n at *
      obtain ⟨b, hb⟩ : ∃ b, gripH x 0 200 o = b := ⟨_, rfl⟩
      rw [hb] at HI HS f1
      have e1 : (n != n) = false := by simp
      have e2 : (b != b) = false := by simp
      have HF := Lib.hid f1
      clear hk hk2 f2 hb f1
      go_wp2_with fail
      refine (HI.out _).mono ?_
      rintro e w2 ⟨rfl, B2⟩
      have HB2 := Lib.hid (below_call HB.out B2)
      clear B2
      go_wp2_with fail
      refine (HS.out _).mono ?_
      rintro e w' ⟨rfl, rfl⟩
      clear HI HS
      go_wp2_with fail
      refine (HO.out _).mono ?_
      rintro e w3 ⟨n3, rfl, B3⟩
      have HB3 := Lib.hid (below_call HB2.out B3)
      clear B3 HO
      by_cases q1 : 0 < o
      · by_cases q2 : o ≤ x
        · have hbt : b = true := by rw [HF.out]; exact decide_eq_true ⟨q1, q2⟩
          subst hbt
          clear HF
          go_wp2
          go_ret
          exact ⟨rfl, HB3.out⟩
        · have hbt : b = false := by rw [HF.out]; exact decide_eq_false (fun q => q2 q.2)
          subst hbt
          have q3 : decide (o ≤ x) = false := decide_eq_false q2
          clear HF
          go_wp2
          go_ret
          exact ⟨rfl, HB3.out⟩
      · have hbt : b = false := by rw [HF.out]; exact decide_eq_false (fun q => q1 q.1)
        subst hbt
        have q3 : decide (0 < o) = false := decide_eq_false q1
        clear HF
        go_wp2
        go_ret
        exact ⟨rfl, HB3.out⟩
    · rw [gripV_out hk, gripH_out hk] at HI HS
      clear hk
      go_wp2_with fail
      refine (HI.out _).mono ?_
      rintro e w2 ⟨rfl, B2⟩
      have HB2 := Lib.hid (below_call HB.out B2)
      clear B2
      go_wp2_with fail
      refine (HS.out _).mono ?_
      rintro e w' ⟨rfl, rfl⟩
      go_wp2_with fail
      refine (alive _).mono ?_
      rintro e w' ⟨rfl, rfl⟩
      go_wp2
      go_ret
      exact ⟨rfl, HB2.out⟩
set_option maxHeartbeats 4000000 in
theorem walkFnHoldsWeight (w : World) (a : Option Addr) (len cap : Nat) (zs : List Int) (h : Bytes w a len cap zs) :
    Calls Try.prog 5 #[.slice a len cap] w fun e w' => e = .returned (.bool true) ∧ Below w.heap.size w w' := by
  have hle := h.len_le
  obtain ⟨hl, hm⟩ := hle
  unfold maxLen at hm
  by_cases hbig : 1048576 < len
  · go_enter Try.func5, Try.ntmps5
    go_wp2
    go_ret
    exact ⟨rfl, Below.refl _ _⟩
  · go_enter Try.func5, Try.ntmps5
    go_wp2_with fail
    refine (drawHoldsWeight w a len cap zs h).mono ?_
    rintro e w1 ⟨f, u, x, hf, hu, hx, rfl, hb⟩
    have HB := Lib.hid hb
    have HI := Lib.hid (fun w => implHoldsWeight f u x w)
    have HS := Lib.hid (fun w => specHoldsWeight f u x w)
    clear hb h
    have e2 : ∀ b : Bool, (b != b) = false := fun b => by simp
    by_cases hk : okHold f u x
    · have HZ := Lib.hid (fun w => (holdV_zero hk) ▸ implHoldsWeight f u 0 w)
      have HA := Lib.hid (fun (q : holdV f u x = true) (k : f ≠ 1000) w => (holdV_force q k) ▸ implHoldsWeight (f + 1) u x w)
      have HC := Lib.hid (fun (q : holdV f u x = true) (k : u ≠ 200) w => (holdV_friction q k) ▸ implHoldsWeight f (u + 1) x w)
      have HD := Lib.hid (fun (q : holdV f u x = true) (k : x ≠ 0) w => (holdV_less q k) ▸ implHoldsWeight f u (x - 1) w)
      obtain ⟨⟨p1, p2⟩, ⟨p3, p4⟩, p5, p6⟩ := hk
      obtain ⟨b, hb⟩ : ∃ b, holdV f u x = b := ⟨_, rfl⟩
      rw [hb] at HI HS HA HC HD
      have e3 := e2 b
      clear hb hf hu hx
      cases b
      · clear HA HC HD
        go_wp2_with fail
        refine (HI.out _).mono ?_
        rintro e w' ⟨rfl, rfl⟩
        go_wp2_with fail
        refine (HS.out _).mono ?_
        rintro e w' ⟨rfl, rfl⟩
        go_wp2_with fail
        refine (HZ.out _).mono ?_
        rintro e w' ⟨rfl, rfl⟩
        go_wp2
        go_ret
        exact ⟨rfl, HB.out⟩
      · have HA2 := Lib.hid (HA.out rfl)
        have HC2 := Lib.hid (HC.out rfl)
        have HD2 := Lib.hid (HD.out rfl)
        clear HA HC HD
        go_wp2_with fail
        refine (HI.out _).mono ?_
        rintro e w' ⟨rfl, rfl⟩
        go_wp2_with fail
        refine (HS.out _).mono ?_
        rintro e w' ⟨rfl, rfl⟩
        go_wp2_with fail
        refine (HZ.out _).mono ?_
        rintro e w' ⟨rfl, rfl⟩
        clear HI HS HZ
        by_cases k1 : f = 1000
        · have q1 : (f == 1000) = true := by simp [k1]
          clear k1
          by_cases k2 : u = 200
          · have q2 : (u == 200) = true := by simp [k2]
            clear k2
            by_cases k3 : x = 0
            · have q3 : (x == 0) = true := by simp [k3]
              clear k3
              go_wp2_with fail
              go_ret
              exact ⟨rfl, HB.out⟩
            · have q3 : (x == 0) = false := by simp [k3]
              have HD3 := Lib.hid (HD2.out k3)
              clear k3
              go_wp2_with fail
              refine (HD3.out _).mono ?_
              rintro e w' ⟨rfl, rfl⟩
              go_wp2
              go_ret
              exact ⟨rfl, HB.out⟩
          · have q2 : (u == 200) = false := by simp [k2]
            have HC3 := Lib.hid (HC2.out k2)
            clear k2
            go_wp2_with fail
            refine (HC3.out _).mono ?_
            rintro e w' ⟨rfl, rfl⟩
            by_cases k3 : x = 0
            · have q3 : (x == 0) = true := by simp [k3]
              clear k3
              go_wp2_with fail
              go_ret
              exact ⟨rfl, HB.out⟩
            · have q3 : (x == 0) = false := by simp [k3]
              have HD3 := Lib.hid (HD2.out k3)
              clear k3
              go_wp2_with fail
              refine (HD3.out _).mono ?_
              rintro e w' ⟨rfl, rfl⟩
              go_wp2
              go_ret
              exact ⟨rfl, HB.out⟩
        · have q1 : (f == 1000) = false := by simp [k1]
          have HA3 := Lib.hid (HA2.out k1)
          clear k1
          go_wp2_with fail
          refine (HA3.out _).mono ?_
          rintro e w' ⟨rfl, rfl⟩
          by_cases k2 : u = 200
          · have q2 : (u == 200) = true := by simp [k2]
            clear k2
            by_cases k3 : x = 0
            · have q3 : (x == 0) = true := by simp [k3]
              clear k3
              go_wp2_with fail
              go_ret
              exact ⟨rfl, HB.out⟩
            · have q3 : (x == 0) = false := by simp [k3]
              have HD3 := Lib.hid (HD2.out k3)
              clear k3
              go_wp2_with fail
              refine (HD3.out _).mono ?_
              rintro e w' ⟨rfl, rfl⟩
              go_wp2
              go_ret
              exact ⟨rfl, HB.out⟩
          · have q2 : (u == 200) = false := by simp [k2]
            have HC3 := Lib.hid (HC2.out k2)
            clear k2
            go_wp2_with fail
            refine (HC3.out _).mono ?_
            rintro e w' ⟨rfl, rfl⟩
            by_cases k3 : x = 0
            · have q3 : (x == 0) = true := by simp [k3]
              clear k3
              go_wp2_with fail
              go_ret
              exact ⟨rfl, HB.out⟩
            · have q3 : (x == 0) = false := by simp [k3]
              have HD3 := Lib.hid (HD2.out k3)
              clear k3
              go_wp2_with fail
              refine (HD3.out _).mono ?_
              rintro e w' ⟨rfl, rfl⟩
              go_wp2
              go_ret
              exact ⟨rfl, HB.out⟩
    · rw [holdV_out hk] at HI HS
      have HX := Lib.hid hk
      clear hk
      go_wp2_with fail
      refine (HI.out _).mono ?_
      rintro e w' ⟨rfl, rfl⟩
      go_wp2_with fail
      refine (HS.out _).mono ?_
      rintro e w' ⟨rfl, rfl⟩
      clear HI HS
      have hor : f < 0 ∨ 1000 < f ∨ u < 0 ∨ 200 < u ∨ x < 0 ∨ 1000 < x := by
        have q := HX.out
        unfold okHold at q
        omega
      by_cases c1 : f < 0
      · clear hor
        go_wp2_with fail
        refine (alive _).mono ?_
        rintro e w' ⟨rfl, rfl⟩
        go_wp2
        go_ret
        exact ⟨rfl, HB.out⟩
      by_cases c2 : 1000 < f
      · clear hor
        go_wp2_with fail
        refine (alive _).mono ?_
        rintro e w' ⟨rfl, rfl⟩
        go_wp2
        go_ret
        exact ⟨rfl, HB.out⟩
      by_cases c3 : u < 0
      · clear hor
        go_wp2_with fail
        refine (alive _).mono ?_
        rintro e w' ⟨rfl, rfl⟩
        go_wp2
        go_ret
        exact ⟨rfl, HB.out⟩
      by_cases c4 : 200 < u
      · clear hor
        go_wp2_with fail
        refine (alive _).mono ?_
        rintro e w' ⟨rfl, rfl⟩
        go_wp2
        go_ret
        exact ⟨rfl, HB.out⟩
      by_cases c5 : x < 0
      · clear hor
        go_wp2_with fail
        refine (alive _).mono ?_
        rintro e w' ⟨rfl, rfl⟩
        go_wp2
        go_ret
        exact ⟨rfl, HB.out⟩
      have c6 : 1000 < x := by omega
      clear hor
      go_wp2_with fail
      refine (alive _).mono ?_
      rintro e w' ⟨rfl, rfl⟩
      go_wp2
      go_ret
      exact ⟨rfl, HB.out⟩
end Go.Proofs.Ytdklplohboeifaa
