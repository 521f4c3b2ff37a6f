/- Motors: the program's five functions. -/
import Derived.Test.YtgnchgmbflkakaaCi14a
namespace Go.Proofs.Ytgnchgmbflkakaa
set_option maxRecDepth 100000
open Go.RowKit
attribute [local go_sem ↓] Go.wp_at_zero Go.wp_at_succ
theorem yes14 {P : Prop} [Decidable P] {F : Nat} {args : Array Value} {w : World} (c : Calls Try.prog F args w fun e w' => e = .returned (.bool (decide P)) ∧ Below w.heap.size w w') (h : P) : Calls Try.prog F args w fun e w' => e = .returned (.bool true) ∧ Below w.heap.size w w' := by rwa [decide_eq_true h] at c
theorem no14 {P : Prop} [Decidable P] {F : Nat} {args : Array Value} {w : World} (c : Calls Try.prog F args w fun e w' => e = .returned (.bool (decide P)) ∧ Below w.heap.size w w') (h : ¬ P) : Calls Try.prog F args w fun e w' => e = .returned (.bool false) ∧ Below w.heap.size w w' := by rwa [decide_eq_false h] at c
theorem implMotorValid (a v : Int) (w : World) :
    Calls Try.prog 15 #[pt a v] w fun e w' => e = .returned (.bool (decide (okMotor a v))) ∧ Below w.heap.size w w' := by
  have HB := Lib.hid (below_box w (.cells #[.int .i64 a, .int .i64 v] 24))
  have HV := Lib.hid (fun w => motorValidM a v w)
  generalize decide (okMotor a v) = b at *
  go_enter Try.func15, Try.ntmps15
  go_wp2_with fail
  refine (HV.out _).mono ?_
  rintro e w2 ⟨rfl, B2⟩
  have HB2 := Lib.hid (below_call HB.out B2)
  clear B2
  go_wp2
  go_ret
  exact ⟨rfl, HB2.out⟩
set_option maxHeartbeats 2000000 in
theorem implMotorStep (a v t f : Int) (w : World) :
    Calls Try.prog 19 #[pt a v, .int .i64 t, .int .i64 f] w fun e w' => e = .returned (pt (motA a v t f) (motS a v t f)) ∧ Below w.heap.size w w' := by
  have P0 := (AtP.box w a v 24).alloc (.cells #[.int .i64 0, .int .i64 0] 24)
  have R0 := OwnP.box (w.alloc (.cells #[.int .i64 a, .int .i64 v] 24)) 0 0 24
  rw [show (w.alloc (.cells #[.int .i64 a, .int .i64 v] 24)).heap.size = w.heap.size + 1 by simp] at R0
  have HB := Lib.hid (below_box2 w (.cells #[.int .i64 a, .int .i64 v] 24) (.cells #[.int .i64 0, .int .i64 0] 24))
  by_cases h0 : okMotor a v
  rotate_left
  · skip
    have EA : motA a v t f = 0 := if_neg (fun q => h0 q.1)
    have ES : motS a v t f = 0 := if_neg (fun q => h0 q.1)
    rw [EA, ES]
    clear EA ES
    go_enter Try.func19, Try.ntmps19
    go_wp2_with fail
    refine (no14 (motorValidM a v _) h0).mono ?_
    rintro e w2 ⟨rfl, B2⟩
    have HB2 := Lib.hid (below_call HB.out B2)
    have HZ2 := Lib.hid B2
    clear B2
    obtain ⟨⟨_, r0, r1⟩, r2, r3⟩ := R0.next HZ2.out
    go_wp2
    exact bodyPost_ret (v := pt 0 0) (by simp [results, Try.results19, go_sem, r0, r1]) rfl ⟨rfl, (HB2.out.setCell (p := ⟨w.heap.size + 1, 0, none⟩) (Nat.le_succ _) _).setCell (p := ⟨w.heap.size + 1, 1, none⟩) (Nat.le_succ _) _⟩
  by_cases h1 : -100 ≤ t ∧ t ≤ 100
  rotate_left
  · skip
    have EA : motA a v t f = 0 := if_neg (fun q => h1 q.2.1)
    have ES : motS a v t f = 0 := if_neg (fun q => h1 q.2.1)
    rw [EA, ES]
    clear EA ES
    go_enter Try.func19, Try.ntmps19
    go_wp2_with fail
    refine (yes14 (motorValidM a v _) h0).mono ?_
    rintro e w2 ⟨rfl, B2⟩
    have HB2 := Lib.hid (below_call HB.out B2)
    have HZ2 := Lib.hid B2
    clear B2
    go_wp2_with fail
    refine (torqueC_no t _ h1).mono ?_
    rintro e w' ⟨rfl, rfl⟩
    obtain ⟨⟨_, r0, r1⟩, r2, r3⟩ := R0.next HZ2.out
    go_wp2
    exact bodyPost_ret (v := pt 0 0) (by simp [results, Try.results19, go_sem, r0, r1]) rfl ⟨rfl, (HB2.out.setCell (p := ⟨w.heap.size + 1, 0, none⟩) (Nat.le_succ _) _).setCell (p := ⟨w.heap.size + 1, 1, none⟩) (Nat.le_succ _) _⟩
  by_cases h2 : 0 ≤ f ∧ f ≤ 100
  rotate_left
  · skip
    have EA : motA a v t f = 0 := if_neg (fun q => h2 q.2.2)
    have ES : motS a v t f = 0 := if_neg (fun q => h2 q.2.2)
    rw [EA, ES]
    clear EA ES
    go_enter Try.func19, Try.ntmps19
    go_wp2_with fail
    refine (yes14 (motorValidM a v _) h0).mono ?_
    rintro e w2 ⟨rfl, B2⟩
    have HB2 := Lib.hid (below_call HB.out B2)
    have HZ2 := Lib.hid B2
    clear B2
    go_wp2_with fail
    refine (torqueC_yes t _ h1).mono ?_
    rintro e w' ⟨rfl, rfl⟩
    go_wp2_with fail
    refine (fricC_no f _ h2).mono ?_
    rintro e w' ⟨rfl, rfl⟩
    obtain ⟨⟨_, r0, r1⟩, r2, r3⟩ := R0.next HZ2.out
    go_wp2
    exact bodyPost_ret (v := pt 0 0) (by simp [results, Try.results19, go_sem, r0, r1]) rfl ⟨rfl, (HB2.out.setCell (p := ⟨w.heap.size + 1, 0, none⟩) (Nat.le_succ _) _).setCell (p := ⟨w.heap.size + 1, 1, none⟩) (Nat.le_succ _) _⟩
  have EA : motA a v t f = stpA a v t f := if_pos ⟨h0, h1, h2⟩
  have ES : motS a v t f = stpS a v t f := if_pos ⟨h0, h1, h2⟩
  rw [EA, ES]
  have HL := Lib.hid (fun w => motorStepM a v t f w h0.1 h0.2 h1 h2)
  generalize stpA a v t f = na at *
  generalize stpS a v t f = ns at *
  clear EA ES
  go_enter Try.func19, Try.ntmps19
  go_wp2_with fail
  refine (yes14 (motorValidM a v _) h0).mono ?_
  rintro e w2 ⟨rfl, B2⟩
  have HB2 := Lib.hid (below_call HB.out B2)
  have HZ2 := Lib.hid B2
  clear B2
  go_wp2_with fail
  refine (torqueC_yes t _ h1).mono ?_
  rintro e w' ⟨rfl, rfl⟩
  go_wp2_with fail
  refine (fricC_yes f _ h2).mono ?_
  rintro e w' ⟨rfl, rfl⟩
  obtain ⟨_, p0, p1⟩ := P0.next HZ2.out
  have R2 := R0.next HZ2.out
  clear HZ2
  go_wp2_with fail
  refine (HL.out _).mono ?_
  rintro e w3 ⟨rfl, B3⟩
  have HB3 := Lib.hid (below_call HB2.out B3)
  obtain ⟨⟨_, r0, r1⟩, r2, r3⟩ := R2.next B3
  clear B3 p0 p1
  go_wp2
  exact bodyPost_ret (v := pt na ns) (by simp [results, Try.results19, go_sem, r0, r1]) rfl ⟨rfl, (HB3.out.setCell (p := ⟨w.heap.size + 1, 0, none⟩) (Nat.le_succ _) _).setCell (p := ⟨w.heap.size + 1, 1, none⟩) (Nat.le_succ _) _⟩
set_option maxHeartbeats 2000000 in
theorem implBrakeTorque (a v : Int) (w : World) :
    Calls Try.prog 23 #[pt a v] w fun e w' => e = .returned (.int .i64 (brkV a v)) ∧ Below w.heap.size w w' := by
  have P0 := AtP.box w a v 24
  have HB := Lib.hid (below_box w (.cells #[.int .i64 a, .int .i64 v] 24))
  by_cases h0 : okMotor a v
  rotate_left
  · skip
    have EA : brkV a v = 0 := if_neg h0
    rw [EA]
    clear EA
    go_enter Try.func23, Try.ntmps23
    go_wp2_with fail
    refine (no14 (motorValidM a v _) h0).mono ?_
    rintro e w2 ⟨rfl, B2⟩
    have HB2 := Lib.hid (below_call HB.out B2)
    have HZ2 := Lib.hid B2
    clear B2
    clear HZ2
    go_wp2
    go_ret
    exact ⟨rfl, HB2.out⟩
  have EA : brkV a v = clp (-v) (-100) 100 := if_pos h0
  rw [EA]
  have HL := Lib.hid (fun w => brakeM a v w h0.2)
  generalize clp (-v) (-100) 100 = y at *
  clear EA
  go_enter Try.func23, Try.ntmps23
  go_wp2_with fail
  refine (yes14 (motorValidM a v _) h0).mono ?_
  rintro e w2 ⟨rfl, B2⟩
  have HB2 := Lib.hid (below_call HB.out B2)
  have HZ2 := Lib.hid B2
  clear B2
  obtain ⟨_, p0, p1⟩ := P0.next HZ2.out
  clear HZ2
  go_wp2_with fail
  refine (HL.out _).mono ?_
  rintro e w3 ⟨rfl, B3⟩
  have HB3 := Lib.hid (below_call HB2.out B3)
  clear B3
  go_wp2
  go_ret
  exact ⟨rfl, HB3.out⟩
set_option maxHeartbeats 2000000 in
theorem implAimTorque (a v g k d : Int) (w : World) :
    Calls Try.prog 26 #[pt a v, .int .i64 g, .int .i64 k, .int .i64 d] w fun e w' => e = .returned (.int .i64 (aimV a v g k d)) ∧ Below w.heap.size w w' := by
  have P1 := (AtP.box w a v 24).alloc (.cells #[.int .i64 g, .int .i64 k, .int .i64 d] 60)
  have C1 := AtA.box (w.alloc (.cells #[.int .i64 a, .int .i64 v] 24)) (.int .i64 g) (.int .i64 k) (.int .i64 d) 60
  rw [show (w.alloc (.cells #[.int .i64 a, .int .i64 v] 24)).heap.size = w.heap.size + 1 by simp] at C1
  have HB := Lib.hid (below_box2 w (.cells #[.int .i64 a, .int .i64 v] 24) (.cells #[.int .i64 g, .int .i64 k, .int .i64 d] 60))
  by_cases h0 : okMotor a v
  rotate_left
  · skip
    have EA : aimV a v g k d = 0 := if_neg (fun q => h0 q.1)
    rw [EA]
    clear EA
    go_enter Try.func26, Try.ntmps26
    go_upto_region 2 with fail
    generalize (w.alloc (.cells #[.int .i64 a, .int .i64 v] 24)).alloc (.cells #[.int .i64 g, .int .i64 k, .int .i64 d] 60) = w1 at *
    obtain ⟨_, p0, p1⟩ := id P1
    go_wp2_with fail
    refine (no14 (motorValidM a v _) h0).mono ?_
    rintro e w2 ⟨rfl, B2⟩
    have HB2 := Lib.hid (below_call HB.out B2)
    have HZ2 := Lib.hid B2
    clear B2
    go_wp2
    go_ret
    exact ⟨rfl, HB2.out⟩
  by_cases h1 : okCtl g k d
  rotate_left
  · skip
    have EA : aimV a v g k d = 0 := if_neg (fun q => h1 q.2)
    rw [EA]
    clear EA
    go_enter Try.func26, Try.ntmps26
    go_upto_region 2 with fail
    generalize (w.alloc (.cells #[.int .i64 a, .int .i64 v] 24)).alloc (.cells #[.int .i64 g, .int .i64 k, .int .i64 d] 60) = w1 at *
    obtain ⟨_, p0, p1⟩ := id P1
    go_wp2_with fail
    refine (yes14 (motorValidM a v _) h0).mono ?_
    rintro e w2 ⟨rfl, B2⟩
    have HB2 := Lib.hid (below_call HB.out B2)
    have HZ2 := Lib.hid B2
    clear B2
    obtain ⟨_, k0, k1, k2⟩ := C1.next HZ2.out
    go_wp2_with fail
    refine (no14 (ctlValidM g k d _) h1).mono ?_
    rintro e w3 ⟨rfl, B3⟩
    have HB3 := Lib.hid (below_call HB2.out B3)
    have HZ3 := Lib.hid B3
    clear B3
    go_wp2
    go_ret
    exact ⟨rfl, HB3.out⟩
  have EA : aimV a v g k d = aimN a v g k d := if_pos ⟨h0, h1⟩
  rw [EA]
  have HL := Lib.hid (fun w => aimM a v g k d w ⟨h0, h1⟩)
  generalize aimN a v g k d = n at *
  clear EA
  go_enter Try.func26, Try.ntmps26
  go_upto_region 2 with fail
  generalize (w.alloc (.cells #[.int .i64 a, .int .i64 v] 24)).alloc (.cells #[.int .i64 g, .int .i64 k, .int .i64 d] 60) = w1 at *
  obtain ⟨_, p0, p1⟩ := id P1
  go_wp2_with fail
  refine (yes14 (motorValidM a v _) h0).mono ?_
  rintro e w2 ⟨rfl, B2⟩
  have HB2 := Lib.hid (below_call HB.out B2)
  have HZ2 := Lib.hid B2
  clear B2
  obtain ⟨_, k0, k1, k2⟩ := C1.next HZ2.out
  go_wp2_with fail
  refine (yes14 (ctlValidM g k d _) h1).mono ?_
  rintro e w3 ⟨rfl, B3⟩
  have HB3 := Lib.hid (below_call HB2.out B3)
  have HZ3 := Lib.hid B3
  clear B3
  obtain ⟨_, x0, x1⟩ := (P1.next HZ2.out).next HZ3.out
  obtain ⟨_, y0, y1, y2⟩ := (C1.next HZ2.out).next HZ3.out
  clear HZ2 HZ3
  go_wp2_with fail
  refine (HL.out _).mono ?_
  rintro e w4 ⟨rfl, B4⟩
  have HB4 := Lib.hid (below_call HB3.out B4)
  clear B4
  go_wp2
  go_ret
  exact ⟨rfl, HB4.out⟩
theorem off14 {w : World} {B c o n : Nat} {e : TypeId} {size : Nat} {v : Value} {xs : List Value} (h : w.ownsRow B e size v n xs) (hc : c < B) (u : Value) : (w.setCell ⟨c, o, none⟩ u).ownsRow B e size v n xs :=
  World.ownsRow.kept (row := some c) h ⟨rfl, rfl, rfl, by simp [World.setCell], fun k _ hk => Below.heap_setCell w _ _ k (by rintro rfl; exact hk rfl)⟩ (by
    by_cases k : v.ownBlock = some c
    · have := (World.ownsRow.lt h c k).1; omega
    · exact .inr k)
set_option maxHeartbeats 2000000 in
theorem implRunMotor (a v g k d f n : Int) (w : World) :
    Calls Try.prog 29 #[pt a v, .int .i64 g, .int .i64 k, .int .i64 d, .int .i64 f, .int .i64 n] w (Nums14 (runV a v g k d f n) w) := by
  have P1 := (OwnP.box w a v 24).alloc (.cells #[.int .i64 g, .int .i64 k, .int .i64 d] 60)
  have C1 := AtA.box (w.alloc (.cells #[.int .i64 a, .int .i64 v] 24)) (.int .i64 g) (.int .i64 k) (.int .i64 d) 60
  rw [show (w.alloc (.cells #[.int .i64 a, .int .i64 v] 24)).heap.size = w.heap.size + 1 by simp] at C1
  have HB := Lib.hid (below_box2 w (.cells #[.int .i64 a, .int .i64 v] 24) (.cells #[.int .i64 g, .int .i64 k, .int .i64 d] 60))
  obtain ⟨i0, hi0, hz0, hz1, hz2⟩ := info_parts infoInt
  by_cases h0 : okMotor a v
  rotate_left
  · skip
    have EA : runV a v g k d f n = [] := if_neg (fun q => h0 (q.1.1))
    rw [EA]
    clear EA
    go_enter Try.func29, Try.ntmps29
    go_upto_region 2 with fail
    generalize (w.alloc (.cells #[.int .i64 a, .int .i64 v] 24)).alloc (.cells #[.int .i64 g, .int .i64 k, .int .i64 d] 60) = w1 at *
    obtain ⟨_, p0, p1⟩ := id P1.toAtP
    go_wp2_with fail
    refine (no14 (motorValidM a v _) h0).mono ?_
    rintro e w2 ⟨rfl, B2⟩
    have HB2 := Lib.hid (below_call HB.out B2)
    have HZ2 := Lib.hid B2
    clear B2
    go_wp2
    go_ret
    exact ⟨⟨none, 0, 0⟩, rfl, rfl, World.ownsRow_nil _ _ _ _, HB2.out⟩
  by_cases h1 : okCtl g k d
  rotate_left
  · skip
    have EA : runV a v g k d f n = [] := if_neg (fun q => h1 (q.1.2))
    rw [EA]
    clear EA
    go_enter Try.func29, Try.ntmps29
    go_upto_region 2 with fail
    generalize (w.alloc (.cells #[.int .i64 a, .int .i64 v] 24)).alloc (.cells #[.int .i64 g, .int .i64 k, .int .i64 d] 60) = w1 at *
    obtain ⟨_, p0, p1⟩ := id P1.toAtP
    go_wp2_with fail
    refine (yes14 (motorValidM a v _) h0).mono ?_
    rintro e w2 ⟨rfl, B2⟩
    have HB2 := Lib.hid (below_call HB.out B2)
    have HZ2 := Lib.hid B2
    clear B2
    obtain ⟨_, k0, k1, k2⟩ := C1.next HZ2.out
    go_wp2_with fail
    refine (no14 (ctlValidM g k d _) h1).mono ?_
    rintro e w3 ⟨rfl, B3⟩
    have HB3 := Lib.hid (below_call HB2.out B3)
    have HZ3 := Lib.hid B3
    clear B3
    go_wp2
    go_ret
    exact ⟨⟨none, 0, 0⟩, rfl, rfl, World.ownsRow_nil _ _ _ _, HB3.out⟩
  by_cases h2 : 0 ≤ f ∧ f ≤ 100
  rotate_left
  · skip
    have EA : runV a v g k d f n = [] := if_neg (fun q => h2 (q.2.1))
    rw [EA]
    clear EA
    go_enter Try.func29, Try.ntmps29
    go_upto_region 2 with fail
    generalize (w.alloc (.cells #[.int .i64 a, .int .i64 v] 24)).alloc (.cells #[.int .i64 g, .int .i64 k, .int .i64 d] 60) = w1 at *
    obtain ⟨_, p0, p1⟩ := id P1.toAtP
    go_wp2_with fail
    refine (yes14 (motorValidM a v _) h0).mono ?_
    rintro e w2 ⟨rfl, B2⟩
    have HB2 := Lib.hid (below_call HB.out B2)
    have HZ2 := Lib.hid B2
    clear B2
    obtain ⟨_, k0, k1, k2⟩ := C1.next HZ2.out
    go_wp2_with fail
    refine (yes14 (ctlValidM g k d _) h1).mono ?_
    rintro e w3 ⟨rfl, B3⟩
    have HB3 := Lib.hid (below_call HB2.out B3)
    have HZ3 := Lib.hid B3
    clear B3
    go_wp2_with fail
    refine (fricC_no f _ h2).mono ?_
    rintro e w' ⟨rfl, rfl⟩
    go_wp2
    go_ret
    exact ⟨⟨none, 0, 0⟩, rfl, rfl, World.ownsRow_nil _ _ _ _, HB3.out⟩
  by_cases h3 : 0 ≤ n ∧ n ≤ 400
  rotate_left
  · skip
    have EA : runV a v g k d f n = [] := if_neg (fun q => h3 (q.2.2))
    rw [EA]
    clear EA
    go_enter Try.func29, Try.ntmps29
    go_upto_region 2 with fail
    generalize (w.alloc (.cells #[.int .i64 a, .int .i64 v] 24)).alloc (.cells #[.int .i64 g, .int .i64 k, .int .i64 d] 60) = w1 at *
    obtain ⟨_, p0, p1⟩ := id P1.toAtP
    go_wp2_with fail
    refine (yes14 (motorValidM a v _) h0).mono ?_
    rintro e w2 ⟨rfl, B2⟩
    have HB2 := Lib.hid (below_call HB.out B2)
    have HZ2 := Lib.hid B2
    clear B2
    obtain ⟨_, k0, k1, k2⟩ := C1.next HZ2.out
    go_wp2_with fail
    refine (yes14 (ctlValidM g k d _) h1).mono ?_
    rintro e w3 ⟨rfl, B3⟩
    have HB3 := Lib.hid (below_call HB2.out B3)
    have HZ3 := Lib.hid B3
    clear B3
    go_wp2_with fail
    refine (fricC_yes f _ h2).mono ?_
    rintro e w' ⟨rfl, rfl⟩
    go_wp2_with fail
    refine (stepsC_no _ _ h3).mono ?_
    rintro e w' ⟨rfl, rfl⟩
    go_wp2
    go_ret
    exact ⟨⟨none, 0, 0⟩, rfl, rfl, World.ownsRow_nil _ _ _ _, HB3.out⟩
  have EA : runV a v g k d f n = runL g k d f n.toNat a v := if_pos ⟨⟨h0, h1⟩, h2, h3⟩
  rw [EA]
  clear EA
  obtain ⟨N, rfl⟩ : ∃ N : Nat, n = (N : Int) := ⟨n.toNat, by omega⟩
  rw [Int.toNat_natCast]
  have HRO := Lib.hid (runA_ok (g := g) (k := k) (d := d) (f := f) h0)
  have HRL := Lib.hid (runL_len g k d f N a v)
  have HM := Lib.hid (made_zero N fun i => (runL g k d f N a v).getD i 0)
  have HF := Lib.hid (part_all (fun i => (runL g k d f N a v).getD i 0) (List.replicate N 0) (runL g k d f N a v) (by simp [HRL.out]) (fun _ _ => rfl))
  have HPT := Lib.hid (fun j => part_set (fun i => (runL g k d f N a v).getD i 0) (List.replicate N 0) j)
  go_enter Try.func29, Try.ntmps29
  go_upto_region 2 with fail
  generalize (w.alloc (.cells #[.int .i64 a, .int .i64 v] 24)).alloc (.cells #[.int .i64 g, .int .i64 k, .int .i64 d] 60) = w1 at *
  obtain ⟨_, p0, p1⟩ := id P1.toAtP
  go_wp2_with fail
  refine (yes14 (motorValidM a v _) h0).mono ?_
  rintro e w2 ⟨rfl, B2⟩
  have HB2 := Lib.hid (below_call HB.out B2)
  have HZ2 := Lib.hid B2
  clear B2
  obtain ⟨_, k0, k1, k2⟩ := C1.next HZ2.out
  go_wp2_with fail
  refine (yes14 (ctlValidM g k d _) h1).mono ?_
  rintro e w3 ⟨rfl, B3⟩
  have HB3 := Lib.hid (below_call HB2.out B3)
  have HZ3 := Lib.hid B3
  clear B3
  go_wp2_with fail
  refine (fricC_yes f _ h2).mono ?_
  rintro e w' ⟨rfl, rfl⟩
  go_wp2_with fail
  refine (stepsC_yes _ _ h3).mono ?_
  rintro e w' ⟨rfl, rfl⟩
  have P2 := (P1.next HZ2.out).next HZ3.out
  have C2 := (C1.next HZ2.out).next HZ3.out
  have HSW : Hid (w.heap.size + 2 ≤ w3.heap.size) := Lib.hid (by have := C2.lt; omega)
  clear HZ2 HZ3 P1 C1 HB HB2
  go_upto_region 4 with fail
  go_wp2_with (first
    | (at_make; refine wpList_make_full _ rfl _ _ 39 rfl w3.heap.size 3 i0 (.int .i64 0) 1 Try.underlying39 hi0 hz0 hz1 .i64 .i64 _ _ N rfl rfl rfl rfl (by rw [hz2]; omega) (by unfold maxLen; omega) (Nat.le_refl _) ?_; intro w4 own2 grow2))
  have own3 : w4.ownsRow w3.heap.size 3 1 (.slice (some ⟨w3.heap.size, 0, none⟩) N N) N (part (fun i => (runL g k d f N a v).getD i 0) (List.replicate N 0) 0) := by rw [← HM.out]; exact own2
  have P3 := P2.row14 grow2 (by simp)
  have C3 := C2.kept grow2 (by simp)
  have HG : Below w.heap.size w w4 := HB3.out.grown grow2 HB3.out.size (fun q hq => by cases hq)
  clear own2 grow2 P2 C2
  go_loopw [42] (fun iv wr => ∃ i : Nat, i ≤ N ∧ iv = .int .i64 (i : Int) ∧ Hid (wr.ownsRow w3.heap.size 3 1 (.slice (some ⟨w3.heap.size, 0, none⟩) N N) N (part (fun i => (runL g k d f N a v).getD i 0) (List.replicate N 0) i)) ∧ Hid (Below w.heap.size w wr) ∧ Hid (OwnP wr w.heap.size (runA g k d f i a v).1 (runA g k d f i a v).2) ∧ Hid (AtA wr (w.heap.size + 1) (.int .i64 g) (.int .i64 k) (.int .i64 d))) (fun iv _ => N - (intOf iv).toNat)
  case atStart => exact ⟨0, Nat.zero_le _, rfl, Lib.hid own3, Lib.hid HG, Lib.hid P3, Lib.hid C3⟩
  case round =>
    obtain ⟨i, hi, rfl, HO, HW, HP, HK⟩ := hrel
    clear own3 P3 C3 HG
    by_cases hlt : i < N
    · have j0 : (0 : Int) ≤ (i : Int) := by omega
      have j1 : (i : Int) < (N : Int) := by omega
      have HOK := Lib.hid (HRO.out i)
      have HNX := Lib.hid (runA_next g k d f i a v)
      have HPK := HPT.out i
      rw [List.getD_eq_getElem?_getD, runL_at g k d f N i a v hlt] at HPK
      simp only [Option.getD_some] at HPK
      generalize runA g k d f i a v = p at *
      obtain ⟨x, y⟩ := p
      simp only at HOK HNX
      have HP' := HP.out
      simp only at HP'
      obtain ⟨tq, htq⟩ : ∃ tq, aimN x y g k d = tq := ⟨_, rfl⟩
      have hb := aim_bd x y g k d
      rw [htq] at hb HNX
      have HA := Lib.hid (fun (q : Kept wr) => keptCall (aimM x y g k d q.u ⟨HOK.out, h1⟩))
      rw [htq] at HA
      have HS := Lib.hid (fun (q : Kept wr) => keptCall (motorStepM x y tq f q.u HOK.out.1 HOK.out.2 hb h2))
      generalize stpA x y tq f = nx at *
      generalize stpS x y tq f = ny at *
      rw [HNX.out] at HPK
      replace HPK := Lib.hid HPK
      obtain ⟨e0, e1⟩ := HP'.toAtP.kepts
      obtain ⟨e2, e3, e4⟩ := HK.out.kepts
      clear htq hb
      go_upto_region 8 with fail
      refine wp_region_ktail 6 (by kernel_rfl) (by kernel_rfl) ?_
      simp only [List.take_succ_cons, List.take_zero, List.drop_succ_cons, List.drop_zero]
      repeat (go_big_quiet_step ((first | (go_at_call 51; with_reducible exact HA.out _) | (go_at_call 45; with_reducible exact HS.out _))))
      refine wpQuiet_nil ?_
      rintro w4 ⟨⟨_, K2⟩, rfl⟩
      have P3 := HP'.next K2
      obtain ⟨⟨_, c0, c1⟩, z0, z1⟩ := id P3
      have P4 := (P3.put0 nx).put1 ny
      have KC := Lib.hid (((HK.out.next K2).far (c := w.heap.size) (o := 0) (by omega) (.int .i64 nx)).far (c := w.heap.size) (o := 1) (by omega) (.int .i64 ny))
      have O4 := (off14 (off14 (HO.out.kept (row := none) ⟨K2.os, K2.tape, K2.output, K2.size, fun k hk _ => K2.block k hk⟩ (.inr (by simp [Value.ownBlock]))) (c := w.heap.size) (o := 0) (by have := HSW.out; omega) (.int .i64 nx)) (c := w.heap.size) (o := 1) (by have := HSW.out; omega) (.int .i64 ny))
      have HW4 := Lib.hid (((below_call HW.out K2).setCell (p := ⟨w.heap.size, 0, none⟩) (Nat.le_refl _) (.int .i64 nx)).setCell (p := ⟨w.heap.size, 1, none⟩) (Nat.le_refl _) (.int .i64 ny))
      clear P3 K2 HO HW HP HP' HA HS HK e0 e1 e2 e3 e4
      go_upto_region 9 with fail
      generalize (w4.setCell ⟨w.heap.size, 0, none⟩ (.int .i64 nx)).setCell ⟨w.heap.size, 1, none⟩ (.int .i64 ny) = wy at *
      clear c0 c1 z0 z1
      obtain ⟨⟨_, p0, p1⟩, y0, y1⟩ := id P4
      have f2 := O4.cellAt i (by omega)
      rw [List.getElem?_eq_getElem (by rw [part_len]; simpa using hlt)] at f2
      have f3 := O4.frozenAt i
      have HS := O4.stored i (.int .i64 nx)
      rw [HPK.out] at HS
      have HW6 := Lib.hid (HW4.out.grown HS.2 HW4.out.size (fun q hq => by injection hq with hq; have := HSW.out; omega))
      have P6 := Lib.hid (P4.far (c := w3.heap.size) (o := i) (by have := HSW.out; omega) (.int .i64 nx))
      have C6 := Lib.hid (KC.out.far (c := w3.heap.size) (o := i) (by have := HSW.out; omega) (.int .i64 nx))
      replace HS := Lib.hid HS.1
      clear O4 P4 HW4 KC
      go_wp2
      go_roundw
      case rel => exact ⟨i + 1, by omega, by congr 1, HS, HW6, Lib.hid (by rw [HNX.out]; exact P6.out), C6⟩
      case measure => simp [intOf]; omega
    · obtain rfl : i = N := by omega
      have HF2 : OwnI wr w.heap.size (.slice (some ⟨w3.heap.size, 0, none⟩) i i) (runL g k d f i a v) := by
        unfold OwnI
        rw [← HF.out, List.length_replicate, HRL.out]
        exact World.ownsRow_down HO.out (by have := HSW.out; omega)
      replace HF2 := Lib.hid HF2
      go_wp2
      go_ret
      exact ⟨⟨_, i, i⟩, rfl, HRL.out.symm, HF2.out, HW.out⟩
end Go.Proofs.Ytgnchgmbflkakaa
