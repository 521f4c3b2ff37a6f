/- Contact: the document's functions. -/
import Derived.Test.YtdjihdnnjkbjbaaNum15
import Derived.Test.YtdjihdnnjkbjbaaCs14c
namespace Go.Proofs.Ytdjihdnnjkbjbaa
set_option maxRecDepth 100000
open Go.RowKit
attribute [local go_sem ↓] Go.wp_at_zero Go.wp_at_succ
theorem yes15 {P : Prop} [Decidable P] {F : Nat} {args : Array Value} {w : World} (c : Calls Try.prog F args w fun e w' => e = .returned (.bool (decide P)) ∧ w = w') (h : P) : Calls Try.prog F args w fun e w' => e = .returned (.bool true) ∧ w = w' := by rwa [decide_eq_true h] at c
theorem no15 {P : Prop} [Decidable P] {F : Nat} {args : Array Value} {w : World} (c : Calls Try.prog F args w fun e w' => e = .returned (.bool (decide P)) ∧ w = w') (h : ¬ P) : Calls Try.prog F args w fun e w' => e = .returned (.bool false) ∧ w = w' := by rwa [decide_eq_false h] at c
set_option maxHeartbeats 1000000 in
theorem specOk15 (p q k : Int) (w : World) : Calls Try.prog 28 #[.int .i64 p, .int .i64 q, .int .i64 k] w fun e w' => e = .returned (.bool (decide (okPlc p q k))) ∧ w = w' := by
  have HE : ∀ b, (b = true ↔ okPlc p q k) → b = decide (okPlc p q k) := fun b h => by rw [Bool.eq_iff_iff, h]; simp
  by_cases h0 : -10000 ≤ p ∧ p ≤ 10000
  rotate_left
  · have HV := Lib.hid (HE false ⟨(fun h => by cases h), fun h => absurd h.1 h0⟩)
    clear HE
    go_enter Try.func28, Try.ntmps28
    go_wp2_with fail
    refine (l1In_no p (-10000) (10000) _ (by omega)).mono ?_
    rintro e w' ⟨rfl, rfl⟩
    go_wp2
    go_ret
    exact ⟨ret_bool HV.out, rfl⟩
  by_cases h1 : -10000 ≤ q ∧ q ≤ 10000
  rotate_left
  · have HV := Lib.hid (HE false ⟨(fun h => by cases h), fun h => absurd h.2.1 h1⟩)
    clear HE
    go_enter Try.func28, Try.ntmps28
    go_wp2_with fail
    refine (l1In_yes p (-10000) (10000) _ h0.1 h0.2).mono ?_
    rintro e w' ⟨rfl, rfl⟩
    go_wp2_with fail
    refine (l1In_no q (-10000) (10000) _ (by omega)).mono ?_
    rintro e w' ⟨rfl, rfl⟩
    go_wp2
    go_ret
    exact ⟨ret_bool HV.out, rfl⟩
  by_cases h2 : 1 ≤ k ∧ k ≤ 100
  rotate_left
  · have HV := Lib.hid (HE false ⟨(fun h => by cases h), fun h => absurd h.2.2 h2⟩)
    clear HE
    go_enter Try.func28, Try.ntmps28
    go_wp2_with fail
    refine (l1In_yes p (-10000) (10000) _ h0.1 h0.2).mono ?_
    rintro e w' ⟨rfl, rfl⟩
    go_wp2_with fail
    refine (l1In_yes q (-10000) (10000) _ h1.1 h1.2).mono ?_
    rintro e w' ⟨rfl, rfl⟩
    go_wp2_with fail
    refine (l1In_no k (1) (100) _ (by omega)).mono ?_
    rintro e w' ⟨rfl, rfl⟩
    go_wp2
    go_ret
    exact ⟨ret_bool HV.out, rfl⟩
  have HV := Lib.hid (HE true ⟨fun _ => ⟨h0, h1, h2⟩, fun _ => rfl⟩)
  clear HE
  go_enter Try.func28, Try.ntmps28
  go_wp2_with fail
  refine (l1In_yes p (-10000) (10000) _ h0.1 h0.2).mono ?_
  rintro e w' ⟨rfl, rfl⟩
  go_wp2_with fail
  refine (l1In_yes q (-10000) (10000) _ h1.1 h1.2).mono ?_
  rintro e w' ⟨rfl, rfl⟩
  go_wp2_with fail
  refine (l1In_yes k (1) (100) _ h2.1 h2.2).mono ?_
  rintro e w' ⟨rfl, rfl⟩
  go_wp2
  go_ret
  exact ⟨ret_bool HV.out, rfl⟩
theorem specForce15 (p q k : Int) (w : World) (hk : 1 ≤ k ∧ k ≤ 100) (h1 : -20300 ≤ p - q) (h2 : p - q ≤ 20300) :
    Calls Try.prog 29 #[.int .i64 p, .int .i64 q, .int .i64 k] w fun e w' => e = .returned (.int .i64 (frc p q k)) ∧ w = w' := by
  have b1 := frc_pos (p := p) (w := q) hk.1
  have b2 := frc_bd hk h2
  obtain ⟨n, hn⟩ : ∃ n, frc p q k = n := ⟨_, rfl⟩
  rw [hn] at b1 b2 ⊢
  have o1 : IntKind.i64.wrap (p - q) = p - q := wrap_in (by omega) (by omega)
  obtain ⟨d, hd⟩ : ∃ d, p - q = d := ⟨_, rfl⟩
  unfold frc at hn
  rw [hd] at hn o1
  have o3 : IntKind.i64.wrap (p - q) = d := by rw [hd]; exact o1
  have o4 : IntKind.i64.wrap n = n := wrap_in (by omega) (by omega)
  clear o1 hd h1 h2
  rcases Int.lt_or_le 0 d with g | g
  · rw [show max 0 d = d by omega] at hn
    have o2 : IntKind.i64.wrap (k * d) = n := by rw [hn]; exact o4
    clear hn hk b1 b2 o4
    go_enter Try.func29, Try.ntmps29
    go_wp2
    go_ret
    exact ⟨rfl, rfl⟩
  · rw [show max 0 d = 0 by omega, Int.mul_zero] at hn
    have o2 : IntKind.i64.wrap (k * 0) = n := by rw [Int.mul_zero, hn]; exact o4
    have HN := Lib.hid hn
    clear hn hk b1 b2 o4 o2
    go_enter Try.func29, Try.ntmps29
    go_wp2
    go_ret
    exact ⟨ret_int HN.out, rfl⟩
set_option maxHeartbeats 4000000 in
theorem specContactForce (p q k : Int) (w : World) :
    Calls Try.prog 11 #[.int .i64 p, .int .i64 q, .int .i64 k] w fun e w' => e = .returned (.int .i64 (frcV p q k)) ∧ w = w' := by
  by_cases h0 : okPlc p q k
  rotate_left
  · skip
    rw [show frcV p q k = -1 from if_neg h0]
    go_enter Try.func11, Try.ntmps11
    go_wp2_with fail
    refine (no15 (specOk15 p q k _) h0).mono ?_
    rintro e w' ⟨rfl, rfl⟩
    go_wp2
    go_ret
    exact ⟨rfl, rfl⟩
  rw [show frcV p q k = frc p q k from if_pos h0]
  have HF := Lib.hid (fun u => specForce15 p q k u h0.2.2 (by have := h0.1; have := h0.2.1; omega) (by have := h0.1; have := h0.2.1; omega))
  generalize frc p q k = n at *
  go_enter Try.func11, Try.ntmps11
  go_wp2_with fail
  refine (yes15 (specOk15 p q k _) h0).mono ?_
  rintro e w' ⟨rfl, rfl⟩
  go_wp2_with fail
  refine (HF.out _).mono ?_
  rintro e w' ⟨rfl, rfl⟩
  go_wp2
  go_ret
  exact ⟨rfl, rfl⟩
set_option maxHeartbeats 4000000 in
theorem specPressStep (p q k f s : Int) (w : World) :
    Calls Try.prog 15 #[.int .i64 p, .int .i64 q, .int .i64 k, .int .i64 f, .int .i64 s] w fun e w' => e = .returned (.int .i64 (prsV p q k f s)) ∧ w = w' := by
  by_cases h0 : okPlc p q k
  rotate_left
  · skip
    rw [show prsV p q k f s = p from if_neg (fun x => h0 x.1)]
    go_enter Try.func15, Try.ntmps15
    go_wp2_with fail
    refine (no15 (specOk15 p q k _) h0).mono ?_
    rintro e w' ⟨rfl, rfl⟩
    go_wp2
    go_ret
    exact ⟨rfl, rfl⟩
  by_cases h1 : 1 ≤ f ∧ f ≤ 1000
  rotate_left
  · skip
    rw [show prsV p q k f s = p from if_neg (fun x => h1 x.2.1)]
    go_enter Try.func15, Try.ntmps15
    go_wp2_with fail
    refine (yes15 (specOk15 p q k _) h0).mono ?_
    rintro e w' ⟨rfl, rfl⟩
    go_wp2_with fail
    refine (l1In_no f (1) (1000) _ (by omega)).mono ?_
    rintro e w' ⟨rfl, rfl⟩
    go_wp2
    go_ret
    exact ⟨rfl, rfl⟩
  by_cases h2 : 1 ≤ s ∧ s ≤ 200
  rotate_left
  · skip
    rw [show prsV p q k f s = p from if_neg (fun x => h2 x.2.2)]
    go_enter Try.func15, Try.ntmps15
    go_wp2_with fail
    refine (yes15 (specOk15 p q k _) h0).mono ?_
    rintro e w' ⟨rfl, rfl⟩
    go_wp2_with fail
    refine (l1In_yes f (1) (1000) _ h1.1 h1.2).mono ?_
    rintro e w' ⟨rfl, rfl⟩
    go_wp2_with fail
    refine (l1In_no s (1) (200) _ (by omega)).mono ?_
    rintro e w' ⟨rfl, rfl⟩
    go_wp2
    go_ret
    exact ⟨rfl, rfl⟩
  rw [show prsV p q k f s = nxtN p q k f s from if_pos ⟨h0, h1, h2⟩]
  have hB0 := h0.1
  have hB1 := h0.2.1
  have hK := h0.2.2
  have HF := Lib.hid (fun (d : Int) (hd : 0 ≤ d ∧ d ≤ 200) u => specForce15 (p + d) q k u hK (by omega) (by omega))
  have HF0 := HF.out 0 (by omega)
  rw [Int.add_zero] at HF0
  replace HF0 := Lib.hid HF0
  rcases Int.lt_or_le f (frc p q k) with c | c
  · rw [show nxtN p q k f s = clp (p - 1) (-10000) 10000 from if_pos c]
    have o1 : IntKind.i64.wrap (p - 1) = p - 1 := wrap_in (by omega) (by omega)
    generalize frc p q k = n at *
    clear hB0 hB1 hK
    go_enter Try.func15, Try.ntmps15
    go_wp2_with fail
    refine (yes15 (specOk15 p q k _) h0).mono ?_
    rintro e w' ⟨rfl, rfl⟩
    go_wp2_with fail
    refine (l1In_yes f (1) (1000) _ h1.1 h1.2).mono ?_
    rintro e w' ⟨rfl, rfl⟩
    go_wp2_with fail
    refine (l1In_yes s (1) (200) _ h2.1 h2.2).mono ?_
    rintro e w' ⟨rfl, rfl⟩
    go_wp2_with fail
    refine (HF0.out _).mono ?_
    rintro e w' ⟨rfl, rfl⟩
    clear HF HF0
    go_wp2_with fail
    refine (clip14 (p - 1) (-10000) 10000 _).mono ?_
    rintro e w' ⟨rfl, rfl⟩
    go_wp2
    go_ret
    exact ⟨rfl, rfl⟩
  have hb := adv_bd ⟨h0, h1, h2⟩ c
  have hfit := adv_fits ⟨h0, h1, h2⟩ c
  have hl := left_div hK.1 c
  rw [show nxtN p q k f s = clp (p + advV p q k f s) (-10000) 10000 from if_neg (by omega)]
  have hn0 := frc_pos (p := p) (w := q) hK.1
  have HK0 : k ≠ 0 := by omega
  obtain ⟨n, hn⟩ : ∃ n, frc p q k = n := ⟨_, rfl⟩
  obtain ⟨t, ht⟩ : ∃ t, (f - n).tdiv k = t := ⟨_, rfl⟩
  obtain ⟨a, ha⟩ : ∃ a, advV p q k f s = a := ⟨_, rfl⟩
  have hae := ha
  unfold advV reach15 at hae
  rw [hn] at HF0 c hl hn0 hae
  rw [ht] at hl hae
  rw [ha] at hb hfit ⊢
  have o1 : IntKind.i64.wrap (f - n) = f - n := wrap_in (by omega) (by omega)
  have o2 : IntKind.i64.wrap ((f - n).tdiv k) = t := by rw [ht]; exact wrap_in (by omega) (by omega)
  have o3 : IntKind.i64.wrap (p + a) = p + a := wrap_in (by omega) (by omega)
  have o4 : IntKind.i64.wrap (p + 1) = p + 1 := wrap_in (by omega) (by omega)
  have HF1 := Lib.hid (HF.out 1 (by omega))
  have HFa := Lib.hid (HF.out a (by omega))
  have hck : ¬ (f < n) := by omega
  clear HF hn ht ha
  obtain ⟨m1, hm1⟩ : ∃ m, frc (p + 1) q k = m := ⟨_, rfl⟩
  obtain ⟨ma, hma⟩ : ∃ m, frc (p + a) q k = m := ⟨_, rfl⟩
  rw [hm1] at HF1 hae
  rw [hma] at HFa hfit
  clear hm1 hma
  rcases Int.lt_or_le 0 t with e | e
  · have ea : a = min s t := by rw [← hae, if_neg (by omega)]
    have q1 : decide (min s t < 1) = false := decide_eq_false (by omega)
    rcases Int.lt_or_le t s with r | r
    · obtain rfl : a = t := by rw [ea]; exact Int.min_eq_right (by omega)
      clear q1 ea hae
      have q2 : ¬ a < 1 := by omega
      rcases Int.lt_or_le 1 a with v | v
      · clear hB0 hB1 hK hb hl hn0 e
        go_enter Try.func15, Try.ntmps15
        go_wp2_with fail
        refine (yes15 (specOk15 p q k _) h0).mono ?_
        rintro e w' ⟨rfl, rfl⟩
        go_wp2_with fail
        refine (l1In_yes f (1) (1000) _ h1.1 h1.2).mono ?_
        rintro e w' ⟨rfl, rfl⟩
        go_wp2_with fail
        refine (l1In_yes s (1) (200) _ h2.1 h2.2).mono ?_
        rintro e w' ⟨rfl, rfl⟩
        go_wp2_with fail
        refine (HF0.out _).mono ?_
        rintro e w' ⟨rfl, rfl⟩
        go_wp2
        go_loopw [12] (fun dv wr => dv = .int .i64 a ∧ wr = w) (fun _ _ => 0)
        case atStart => exact ⟨rfl, rfl⟩
        case round =>
          obtain ⟨rfl, rfl⟩ := hrel
          go_wp2_with fail
          refine (HFa.out _).mono ?_
          rintro e w' ⟨rfl, rfl⟩
          go_wp2_with fail
          refine (clip14 (p + a) (-10000) 10000 _).mono ?_
          rintro e w' ⟨rfl, rfl⟩
          go_wp2
          go_ret
          exact ⟨rfl, rfl⟩
      · clear hB0 hB1 hK hb hl hn0 e
        go_enter Try.func15, Try.ntmps15
        go_wp2_with fail
        refine (yes15 (specOk15 p q k _) h0).mono ?_
        rintro e w' ⟨rfl, rfl⟩
        go_wp2_with fail
        refine (l1In_yes f (1) (1000) _ h1.1 h1.2).mono ?_
        rintro e w' ⟨rfl, rfl⟩
        go_wp2_with fail
        refine (l1In_yes s (1) (200) _ h2.1 h2.2).mono ?_
        rintro e w' ⟨rfl, rfl⟩
        go_wp2_with fail
        refine (HF0.out _).mono ?_
        rintro e w' ⟨rfl, rfl⟩
        go_wp2
        go_loopw [12] (fun dv wr => dv = .int .i64 a ∧ wr = w) (fun _ _ => 0)
        case atStart => exact ⟨rfl, rfl⟩
        case round =>
          obtain ⟨rfl, rfl⟩ := hrel
          go_wp2_with fail
          refine (clip14 (p + a) (-10000) 10000 _).mono ?_
          rintro e w' ⟨rfl, rfl⟩
          go_wp2
          go_ret
          exact ⟨rfl, rfl⟩
    · obtain rfl : s = a := by rw [ea]; exact (Int.min_eq_left r).symm
      clear q1 ea hae
      have q2 : ¬ s < 1 := by omega
      rcases Int.lt_or_le 1 s with v | v
      · clear hB0 hB1 hK hb hl hn0 e
        go_enter Try.func15, Try.ntmps15
        go_wp2_with fail
        refine (yes15 (specOk15 p q k _) h0).mono ?_
        rintro e w' ⟨rfl, rfl⟩
        go_wp2_with fail
        refine (l1In_yes f (1) (1000) _ h1.1 h1.2).mono ?_
        rintro e w' ⟨rfl, rfl⟩
        go_wp2_with fail
        refine (l1In_yes s (1) (200) _ h2.1 h2.2).mono ?_
        rintro e w' ⟨rfl, rfl⟩
        go_wp2_with fail
        refine (HF0.out _).mono ?_
        rintro e w' ⟨rfl, rfl⟩
        go_wp2
        go_loopw [12] (fun dv wr => dv = .int .i64 s ∧ wr = w) (fun _ _ => 0)
        case atStart => exact ⟨rfl, rfl⟩
        case round =>
          obtain ⟨rfl, rfl⟩ := hrel
          go_wp2_with fail
          refine (HFa.out _).mono ?_
          rintro e w' ⟨rfl, rfl⟩
          go_wp2_with fail
          refine (clip14 (p + s) (-10000) 10000 _).mono ?_
          rintro e w' ⟨rfl, rfl⟩
          go_wp2
          go_ret
          exact ⟨rfl, rfl⟩
      · clear hB0 hB1 hK hb hl hn0 e
        go_enter Try.func15, Try.ntmps15
        go_wp2_with fail
        refine (yes15 (specOk15 p q k _) h0).mono ?_
        rintro e w' ⟨rfl, rfl⟩
        go_wp2_with fail
        refine (l1In_yes f (1) (1000) _ h1.1 h1.2).mono ?_
        rintro e w' ⟨rfl, rfl⟩
        go_wp2_with fail
        refine (l1In_yes s (1) (200) _ h2.1 h2.2).mono ?_
        rintro e w' ⟨rfl, rfl⟩
        go_wp2_with fail
        refine (HF0.out _).mono ?_
        rintro e w' ⟨rfl, rfl⟩
        go_wp2
        go_loopw [12] (fun dv wr => dv = .int .i64 s ∧ wr = w) (fun _ _ => 0)
        case atStart => exact ⟨rfl, rfl⟩
        case round =>
          obtain ⟨rfl, rfl⟩ := hrel
          go_wp2_with fail
          refine (clip14 (p + s) (-10000) 10000 _).mono ?_
          rintro e w' ⟨rfl, rfl⟩
          go_wp2
          go_ret
          exact ⟨rfl, rfl⟩
  · obtain rfl : t = 0 := by omega
    have q3 : (0 : Int) < s := by omega
    rcases Int.lt_or_le f m1 with v | v
    · obtain rfl : a = 0 := by rw [← hae, if_neg (by omega)]; omega
      rw [Int.add_zero]
      have o5 : IntKind.i64.wrap p = p := wrap_in (by omega) (by omega)
      clear hB0 hB1 hK hb hl hn0 hae e
      go_enter Try.func15, Try.ntmps15
      go_wp2_with fail
      refine (yes15 (specOk15 p q k _) h0).mono ?_
      rintro e w' ⟨rfl, rfl⟩
      go_wp2_with fail
      refine (l1In_yes f (1) (1000) _ h1.1 h1.2).mono ?_
      rintro e w' ⟨rfl, rfl⟩
      go_wp2_with fail
      refine (l1In_yes s (1) (200) _ h2.1 h2.2).mono ?_
      rintro e w' ⟨rfl, rfl⟩
      go_wp2_with fail
      refine (HF0.out _).mono ?_
      rintro e w' ⟨rfl, rfl⟩
      go_wp2_with fail
      refine (HF1.out _).mono ?_
      rintro e w' ⟨rfl, rfl⟩
      go_wp2
      go_loopw [12] (fun dv wr => dv = .int .i64 0 ∧ wr = w) (fun _ _ => 0)
      case atStart => exact ⟨rfl, rfl⟩
      case round =>
        obtain ⟨rfl, rfl⟩ := hrel
        go_wp2_with fail
        refine (clip14 p (-10000) 10000 _).mono ?_
        rintro e w' ⟨rfl, rfl⟩
        go_wp2
        go_ret
        exact ⟨rfl, rfl⟩
    · obtain rfl : a = 1 := by rw [← hae, if_pos (by omega)]
      clear hB0 hB1 hK hb hl hn0 hae e
      go_enter Try.func15, Try.ntmps15
      go_wp2_with fail
      refine (yes15 (specOk15 p q k _) h0).mono ?_
      rintro e w' ⟨rfl, rfl⟩
      go_wp2_with fail
      refine (l1In_yes f (1) (1000) _ h1.1 h1.2).mono ?_
      rintro e w' ⟨rfl, rfl⟩
      go_wp2_with fail
      refine (l1In_yes s (1) (200) _ h2.1 h2.2).mono ?_
      rintro e w' ⟨rfl, rfl⟩
      go_wp2_with fail
      refine (HF0.out _).mono ?_
      rintro e w' ⟨rfl, rfl⟩
      go_wp2_with fail
      refine (HF1.out _).mono ?_
      rintro e w' ⟨rfl, rfl⟩
      go_wp2
      go_loopw [12] (fun dv wr => dv = .int .i64 1 ∧ wr = w) (fun _ _ => 0)
      case atStart => exact ⟨rfl, rfl⟩
      case round =>
        obtain ⟨rfl, rfl⟩ := hrel
        go_wp2_with fail
        refine (clip14 (p + 1) (-10000) 10000 _).mono ?_
        rintro e w' ⟨rfl, rfl⟩
        go_wp2
        go_ret
        exact ⟨rfl, rfl⟩
set_option maxHeartbeats 4000000 in
theorem specPressTrace (p q k f s n : Int) (w : World) :
    Calls Try.prog 19 #[.int .i64 p, .int .i64 q, .int .i64 k, .int .i64 f, .int .i64 s, .int .i64 n] w (Nums14 (trcV p q k f s n) w) := by
  have HB := Lib.hid (below_box w (.cells #[] 3))
  have Z0 := nums14_new w 3 rfl
  obtain ⟨i0, hi0, hz0, hz1, hz2⟩ := info_parts infoInt
  by_cases h0 : okPlc p q k
  rotate_left
  · skip
    have EA : trcV p q k f s n = [] := if_neg (fun x => h0 (x.1.1))
    rw [EA]
    clear EA
    go_enter Try.func19, Try.ntmps19
    go_wp2_with fail
    refine (no15 (specOk15 p q k _) h0).mono ?_
    rintro e w' ⟨rfl, rfl⟩
    have HO := Lib.hid Z0
    clear Z0
    go_wp2
    go_ret
    exact ⟨⟨_, 0, 0⟩, rfl, rfl, HO.out, HB.out⟩
  by_cases h1 : 1 ≤ f ∧ f ≤ 1000
  rotate_left
  · skip
    have EA : trcV p q k f s n = [] := if_neg (fun x => h1 (x.1.2.1))
    rw [EA]
    clear EA
    go_enter Try.func19, Try.ntmps19
    go_wp2_with fail
    refine (yes15 (specOk15 p q k _) h0).mono ?_
    rintro e w' ⟨rfl, rfl⟩
    go_wp2_with fail
    refine (l1In_no f (1) (1000) _ (by omega)).mono ?_
    rintro e w' ⟨rfl, rfl⟩
    have HO := Lib.hid Z0
    clear Z0
    go_wp2
    go_ret
    exact ⟨⟨_, 0, 0⟩, rfl, rfl, HO.out, HB.out⟩
  by_cases h2 : 1 ≤ s ∧ s ≤ 200
  rotate_left
  · skip
    have EA : trcV p q k f s n = [] := if_neg (fun x => h2 (x.1.2.2))
    rw [EA]
    clear EA
    go_enter Try.func19, Try.ntmps19
    go_wp2_with fail
    refine (yes15 (specOk15 p q k _) h0).mono ?_
    rintro e w' ⟨rfl, rfl⟩
    go_wp2_with fail
    refine (l1In_yes f (1) (1000) _ h1.1 h1.2).mono ?_
    rintro e w' ⟨rfl, rfl⟩
    go_wp2_with fail
    refine (l1In_no s (1) (200) _ (by omega)).mono ?_
    rintro e w' ⟨rfl, rfl⟩
    have HO := Lib.hid Z0
    clear Z0
    go_wp2
    go_ret
    exact ⟨⟨_, 0, 0⟩, rfl, rfl, HO.out, HB.out⟩
  by_cases h3 : 0 ≤ n ∧ n ≤ 400
  rotate_left
  · skip
    have EA : trcV p q k f s n = [] := if_neg (fun x => h3 (x.2))
    rw [EA]
    clear EA
    go_enter Try.func19, Try.ntmps19
    go_wp2_with fail
    refine (yes15 (specOk15 p q k _) h0).mono ?_
    rintro e w' ⟨rfl, rfl⟩
    go_wp2_with fail
    refine (l1In_yes f (1) (1000) _ h1.1 h1.2).mono ?_
    rintro e w' ⟨rfl, rfl⟩
    go_wp2_with fail
    refine (l1In_yes s (1) (200) _ h2.1 h2.2).mono ?_
    rintro e w' ⟨rfl, rfl⟩
    go_wp2_with fail
    refine (l1In_no n 0 400 _ (by omega)).mono ?_
    rintro e w' ⟨rfl, rfl⟩
    have HO := Lib.hid Z0
    clear Z0
    go_wp2
    go_ret
    exact ⟨⟨_, 0, 0⟩, rfl, rfl, HO.out, HB.out⟩
  rw [show trcV p q k f s n = trcL q k f s n.toNat p from if_pos ⟨⟨h0, h1, h2⟩, h3⟩]
  obtain ⟨N, rfl⟩ : ∃ N : Nat, n = (N : Int) := ⟨n.toNat, by omega⟩
  rw [Int.toNat_natCast]
  have HRO := Lib.hid (trcA_ok ⟨h0, h1, h2⟩)
  have HRL := Lib.hid (trcL_len q k f s N p)
  go_enter Try.func19, Try.ntmps19
  go_wp2_with fail
  refine (yes15 (specOk15 p q k _) h0).mono ?_
  rintro e w' ⟨rfl, rfl⟩
  go_wp2_with fail
  refine (l1In_yes f (1) (1000) _ h1.1 h1.2).mono ?_
  rintro e w' ⟨rfl, rfl⟩
  go_wp2_with fail
  refine (l1In_yes s (1) (200) _ h2.1 h2.2).mono ?_
  rintro e w' ⟨rfl, rfl⟩
  go_wp2_with fail
  refine (l1In_yes _ 0 400 _ h3.1 h3.2).mono ?_
  rintro e w' ⟨rfl, rfl⟩
  go_wp2
  go_loopw [0, 13, 14] (fun pv ov kv wr => ∃ (i : Nat) (zs : List Int), i ≤ N ∧ kv = .int .i64 (i : Int) ∧ pv = .int .i64 (trcA q k f s i p) ∧ Hid (zs = (trcL q k f s N p).take i) ∧ Hid (OwnI wr w.heap.size ov zs) ∧ Hid (Below w.heap.size w wr)) (fun _ _ kv _ => N - (intOf kv).toNat)
  case atStart => exact ⟨0, [], Nat.zero_le _, rfl, rfl, Lib.hid rfl, Lib.hid Z0, HB⟩
  case round =>
    obtain ⟨i, zs, hi, rfl, rfl, HZS, HO, HW⟩ := hrel
    clear Z0
    by_cases hlt : i < N
    · have j1 : (i : Int) < (N : Int) := by omega
      have HOK := HRO.out i
      have HNX := Lib.hid (trcA_next q k f s i p)
      have HTK := Lib.hid (trcL_take q k f s N i p hlt)
      generalize trcA q k f s i p = x at *
      have HC := Lib.hid (fun u => specPressStep x q k f s u)
      rw [show prsV x q k f s = nxtN x q k f s from if_pos HOK] at HC
      generalize nxtN x q k f s = nx at *
      clear HOK
      go_wp2_with fail
      refine (HC.out _).mono ?_
      rintro e w' ⟨rfl, rfl⟩
      go_upto_region 8 with fail
      have BX := below_box wr (.cells #[.int .i64 nx] 3)
      have HW5 := Lib.hid (below_call HW.out BX)
      have O5 := Lib.hid (World.ownsRow.alloc HO.out (.cells #[.int .i64 nx] 3))
      have own0 := Lib.hid (World.ownsRow.lt HO.out)
      have HN1 := Lib.hid (cell_one_new wr (.int .i64 nx) 3)
      have HSZ : Hid (w.heap.size ≤ (wr.alloc (.cells #[.int .i64 nx] 3)).heap.size) := Lib.hid HW5.out.size
      have hzl : zs.length ≤ 400 := by rw [HZS.out, List.length_take]; omega
      clear BX
      go_wp2_with (at_builtin; refine wpList_append_lies _ rfl (.tmp 48) (.tmp 50) 33 rfl w.heap.size 3 i0 (.int .i64 0) 1 8 Try.underlying33 hi0 hz0 hz1 hz2 rfl (by decide) _ zs.length (vals zs) rfl O5.out ⟨wr.heap.size, 0, none⟩ 1 1 [.int .i64 nx] rfl rfl HN1.out (by intro u hu; simp at hu; subst hu; rfl) (by omega) (by unfold maxLen; omega) (by omega) HSZ.out _ rfl ?_; intro g9 cap9 w9 own9 grow9 at9 ltg9; have HA9 := Lib.hid (And.intro own9 grow9); clear own9 grow9 at9 ltg9)
      have HW9 := Lib.hid (HW5.out.grown HA9.out.2 HW5.out.size (fun q hq => (own0.out q hq).1))
      have O9 := Lib.hid (show OwnI w9 w.heap.size (.slice (some ⟨g9, 0, none⟩) (zs.length + 1) cap9) (zs ++ [nx]) by
        have := HA9.out.1
        unfold OwnI
        rw [List.length_append, List.length_singleton, show vals (zs ++ [nx]) = vals zs ++ [.int .i64 nx] by simp]
        exact this)
      clear HA9 HW5 O5 HO HW
      go_roundw
      case rel => exact ⟨i + 1, zs ++ [nx], by omega, by congr 1, by rw [HNX.out], Lib.hid (by rw [HTK.out, HNX.out, ← HZS.out]), O9, HW9⟩
      case measure => simp [intOf]; omega
    · obtain rfl : i = N := by omega
      have HF := HO.out
      rw [HZS.out, List.take_of_length_le (by rw [HRL.out]; exact Nat.le_refl _)] at HF
      obtain ⟨⟨oa, ol, oc⟩, rfl, hol⟩ := HF.sl14
      have HF2 := Lib.hid HF
      have hol2 := Lib.hid hol
      clear HF HO hol
      go_wp2
      go_ret
      exact ⟨⟨oa, ol, oc⟩, rfl, hol2.out, HF2.out, HW.out⟩
end Go.Proofs.Ytdjihdnnjkbjbaa
