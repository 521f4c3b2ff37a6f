/- Motors: the document's BrakeTorque, AimTorque and RunMotor. -/
import Derived.Test.YtgnchgmbflkakaaCs14
namespace Go.Proofs.Ytgnchgmbflkakaa
set_option maxRecDepth 100000
open Go.RowKit
attribute [local go_sem ↓] Go.wp_at_zero Go.wp_at_succ
theorem l14Aim (a v g k d : Int) (w : World) (h : okAim a v g k d) :
    Calls Try.prog 52 #[pt a v, .int .i64 g, .int .i64 k, .int .i64 d] w fun e w' => e = .returned (.int .i64 (aimN a v g k d)) ∧ Below w.heap.size w w' := by
  have HB := Lib.hid (below_box w (.cells #[.int .i64 a, .int .i64 v] 24))
  obtain ⟨⟨b1, b2⟩, b3, b4⟩ := aim_small h
  obtain ⟨⟨h1, h2⟩, h3, h4, h5⟩ := h
  obtain ⟨c, hc⟩ : ∃ c, g - a = c := ⟨_, rfl⟩
  obtain ⟨m, hm⟩ : ∃ m, k * c = m := ⟨_, rfl⟩
  obtain ⟨n, hn⟩ : ∃ n, d * v = n := ⟨_, rfl⟩
  obtain ⟨x, hx⟩ : ∃ x, m - n = x := ⟨_, rfl⟩
  rw [hc, hm] at b1 b2
  rw [hn] at b3 b4
  have HE := Lib.hid (show clp (flo x 16) (-100) 100 = aimN a v g k d by unfold aimN; rw [hc, hm, hn, hx])
  have o1 : IntKind.i64.wrap (g - a) = c := by rw [hc]; exact wrap_in (by omega) (by omega)
  have o2 : IntKind.i64.wrap (k * c) = m := by rw [hm]; exact wrap_in (by omega) (by omega)
  have o3 : IntKind.i64.wrap (d * v) = n := by rw [hn]; exact wrap_in (by omega) (by omega)
  have o4 : IntKind.i64.wrap (m - n) = x := by rw [hx]; exact wrap_in (by omega) (by omega)
  have hx1 : -2000000 ≤ x := by omega
  have hx2 : x ≤ 2000000 := by omega
  clear hc hm hn hx h1 h2 h3 h4 h5 b1 b2 b3 b4
  go_enter Try.func52, Try.ntmps52
  go_wp2_with fail
  refine (floor14 x _ hx1 hx2).mono ?_
  rintro e w' ⟨rfl, rfl⟩
  go_wp2_with fail
  refine (clip14 (flo x 16) (-100) 100 _).mono ?_
  rw [HE.out]
  rintro e w' ⟨rfl, rfl⟩
  go_wp2
  go_ret
  exact ⟨rfl, HB.out⟩
set_option maxHeartbeats 2000000 in
theorem specBrakeTorque (a v : Int) (w : World) :
    Calls Try.prog 24 #[pt a v] w fun e w' => e = .returned (.int .i64 (brkV a v)) ∧ Below w.heap.size w w' := by
  have P0 := AtP.box w a v 24
  have HB := Lib.hid (below_box w (.cells #[.int .i64 a, .int .i64 v] 24))
  by_cases h0 : okMotor a v
  rotate_left
  · have HV := Lib.hid (fun w => specMotorValid a v w)
    rw [decide_eq_false h0] at HV
    have EA : brkV a v = 0 := if_neg h0
    rw [EA]
    clear EA
    go_enter Try.func24, Try.ntmps24
    go_wp2_with fail
    refine (HV.out _).mono ?_
    rintro e w2 ⟨rfl, B2⟩
    have HB2 := Lib.hid (below_call HB.out B2)
    have HZ := Lib.hid B2
    clear B2
    clear HZ
    go_wp2
    go_ret
    exact ⟨rfl, HB2.out⟩
  have HV := Lib.hid (fun w => specMotorValid a v w)
  rw [decide_eq_true h0] at HV
  have EA : brkV a v = clp (-v) (-100) 100 := if_pos h0
  rw [EA]
  have HV0 := h0.2
  clear EA
  obtain ⟨z, hz⟩ : ∃ z, -v = z := ⟨_, rfl⟩
  have o1 : IntKind.i64.wrap (-v) = z := by rw [hz]; exact wrap_in (by omega) (by omega)
  rw [hz]
  clear hz HV0
  go_enter Try.func24, Try.ntmps24
  go_wp2_with fail
  refine (HV.out _).mono ?_
  rintro e w2 ⟨rfl, B2⟩
  have HB2 := Lib.hid (below_call HB.out B2)
  have HZ := Lib.hid B2
  clear B2
  obtain ⟨_, p0, p1⟩ := P0.next HZ.out
  clear HZ
  go_wp2_with fail
  refine (clip14 z (-100) 100 _).mono ?_
  rintro e w' ⟨rfl, rfl⟩
  go_wp2
  go_ret
  exact ⟨rfl, HB2.out⟩
set_option maxHeartbeats 2000000 in
theorem specAimTorque (a v g k d : Int) (w : World) :
    Calls Try.prog 27 #[pt a v, .int .i64 g, .int .i64 k, .int .i64 d] w fun e w' => e = .returned (.int .i64 (aimV a v g k d)) ∧ Below w.heap.size w w' := by
  have P0 := AtP.box w a v 24
  have HB := Lib.hid (below_box w (.cells #[.int .i64 a, .int .i64 v] 24))
  by_cases h0 : okMotor a v
  rotate_left
  · have HV := Lib.hid (fun w => specMotorValid a v w)
    rw [decide_eq_false h0] at HV
    have EA : aimV a v g k d = 0 := if_neg (fun q => h0 (q.1))
    rw [EA]
    clear EA
    go_enter Try.func27, Try.ntmps27
    go_wp2_with fail
    refine (HV.out _).mono ?_
    rintro e w2 ⟨rfl, B2⟩
    have HB2 := Lib.hid (below_call HB.out B2)
    have HZ := Lib.hid B2
    clear B2
    clear HZ
    go_wp2
    go_ret
    exact ⟨rfl, HB2.out⟩
  have HV := Lib.hid (fun w => specMotorValid a v w)
  rw [decide_eq_true h0] at HV
  by_cases h1 : -10000 ≤ g ∧ g ≤ 10000
  rotate_left
  · skip
    have EA : aimV a v g k d = 0 := if_neg (fun q => h1 (q.2.1))
    rw [EA]
    clear EA
    go_enter Try.func27, Try.ntmps27
    go_wp2_with fail
    refine (HV.out _).mono ?_
    rintro e w2 ⟨rfl, B2⟩
    have HB2 := Lib.hid (below_call HB.out B2)
    have HZ := Lib.hid B2
    clear B2
    go_wp2_with fail
    refine (l1In_no g (-10000) (10000) _ (by omega)).mono ?_
    rintro e w' ⟨rfl, rfl⟩
    clear HZ
    go_wp2
    go_ret
    exact ⟨rfl, HB2.out⟩
  by_cases h2 : 0 ≤ k ∧ k ≤ 64
  rotate_left
  · skip
    have EA : aimV a v g k d = 0 := if_neg (fun q => h2 (q.2.2.1))
    rw [EA]
    clear EA
    go_enter Try.func27, Try.ntmps27
    go_wp2_with fail
    refine (HV.out _).mono ?_
    rintro e w2 ⟨rfl, B2⟩
    have HB2 := Lib.hid (below_call HB.out B2)
    have HZ := Lib.hid B2
    clear B2
    go_wp2_with fail
    refine (l1In_yes g (-10000) (10000) _ h1.1 h1.2).mono ?_
    rintro e w' ⟨rfl, rfl⟩
    go_wp2_with fail
    refine (l1In_no k (0) (64) _ (by omega)).mono ?_
    rintro e w' ⟨rfl, rfl⟩
    clear HZ
    go_wp2
    go_ret
    exact ⟨rfl, HB2.out⟩
  by_cases h3 : 0 ≤ d ∧ d ≤ 64
  rotate_left
  · skip
    have EA : aimV a v g k d = 0 := if_neg (fun q => h3 (q.2.2.2))
    rw [EA]
    clear EA
    go_enter Try.func27, Try.ntmps27
    go_wp2_with fail
    refine (HV.out _).mono ?_
    rintro e w2 ⟨rfl, B2⟩
    have HB2 := Lib.hid (below_call HB.out B2)
    have HZ := Lib.hid B2
    clear B2
    go_wp2_with fail
    refine (l1In_yes g (-10000) (10000) _ h1.1 h1.2).mono ?_
    rintro e w' ⟨rfl, rfl⟩
    go_wp2_with fail
    refine (l1In_yes k (0) (64) _ h2.1 h2.2).mono ?_
    rintro e w' ⟨rfl, rfl⟩
    go_wp2_with fail
    refine (l1In_no d (0) (64) _ (by omega)).mono ?_
    rintro e w' ⟨rfl, rfl⟩
    clear HZ
    go_wp2
    go_ret
    exact ⟨rfl, HB2.out⟩
  have EA : aimV a v g k d = aimN a v g k d := if_pos ⟨h0, h1, h2, h3⟩
  rw [EA]
  have HL := Lib.hid (fun w => l14Aim a v g k d w ⟨h0, h1, h2, h3⟩)
  generalize aimN a v g k d = n at *
  clear EA
  go_enter Try.func27, Try.ntmps27
  go_wp2_with fail
  refine (HV.out _).mono ?_
  rintro e w2 ⟨rfl, B2⟩
  have HB2 := Lib.hid (below_call HB.out B2)
  have HZ := Lib.hid B2
  clear B2
  go_wp2_with fail
  refine (l1In_yes g (-10000) (10000) _ h1.1 h1.2).mono ?_
  rintro e w' ⟨rfl, rfl⟩
  go_wp2_with fail
  refine (l1In_yes k (0) (64) _ h2.1 h2.2).mono ?_
  rintro e w' ⟨rfl, rfl⟩
  go_wp2_with fail
  refine (l1In_yes d (0) (64) _ h3.1 h3.2).mono ?_
  rintro e w' ⟨rfl, rfl⟩
  obtain ⟨_, p0, p1⟩ := P0.next HZ.out
  clear HZ
  go_wp2_with fail
  refine (HL.out _).mono ?_
  rintro e w3 ⟨rfl, B3⟩
  have HB3 := Lib.hid (below_call HB2.out B3)
  clear B3
  go_wp2
  go_ret
  exact ⟨rfl, HB3.out⟩
end Go.Proofs.Ytgnchgmbflkakaa
