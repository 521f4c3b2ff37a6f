/- Motors: the program's small functions. -/
import Derived.Test.YtgnchgmbflkakaaCs14c
namespace Go.Proofs.Ytgnchgmbflkakaa
set_option maxRecDepth 100000
open Go.RowKit
attribute [local go_sem ↓] Go.wp_at_zero Go.wp_at_succ
/-- A controller as a value. -/
abbrev ct (g k d : Int) : Value := .agg #[.int .i64 g, .int .i64 k, .int .i64 d]
def okCtl (g k d : Int) : Prop := (-10000 ≤ g ∧ g ≤ 10000) ∧ (0 ≤ k ∧ k ≤ 64) ∧ 0 ≤ d ∧ d ≤ 64
instance (g k d : Int) : Decidable (okCtl g k d) := by unfold okCtl; infer_instance
theorem slow_clp {u f : Int} (hf : 0 ≤ f) : u - clp u (-f) f = slowV u f := by unfold clp slowV; split <;> omega
theorem slow_bd {u f : Int} (hf : 0 ≤ f ∧ f ≤ 100) (hu : -300 ≤ u ∧ u ≤ 300) : -300 ≤ slowV u f ∧ slowV u f ≤ 300 := by unfold slowV; split <;> omega
theorem torqueC (v : Int) (w : World) : Calls Try.prog 43 #[.int .i64 v] w fun e w' => e = .returned (.bool (decide (-100 ≤ v ∧ v ≤ 100))) ∧ w = w' := by
  by_cases h0 : -100 ≤ v
  · have HE := Lib.hid (show decide (v ≤ 100) = decide (-100 ≤ v ∧ v ≤ 100) by rw [Bool.eq_iff_iff]; simp [h0])
    go_enter Try.func43, Try.ntmps43
    go_wp2
    go_ret
    exact ⟨ret_bool HE.out, rfl⟩
  · have HE := Lib.hid (show false = decide (-100 ≤ v ∧ v ≤ 100) from (decide_eq_false (fun q => h0 q.1)).symm)
    have q1 : decide (-100 ≤ v) = false := decide_eq_false h0
    generalize decide (-100 ≤ v ∧ v ≤ 100) = d at *
    go_enter Try.func43, Try.ntmps43
    go_wp2
    go_ret
    exact ⟨ret_bool HE.out, rfl⟩
theorem torqueC_yes (v : Int) (w : World) (h : -100 ≤ v ∧ v ≤ 100) : Calls Try.prog 43 #[.int .i64 v] w fun e w' => e = .returned (.bool true) ∧ w = w' := by
  have := torqueC v w
  rwa [decide_eq_true h] at this
theorem torqueC_no (v : Int) (w : World) (h : ¬ (-100 ≤ v ∧ v ≤ 100)) : Calls Try.prog 43 #[.int .i64 v] w fun e w' => e = .returned (.bool false) ∧ w = w' := by
  have := torqueC v w
  rwa [decide_eq_false h] at this
theorem fricC (v : Int) (w : World) : Calls Try.prog 44 #[.int .i64 v] w fun e w' => e = .returned (.bool (decide (0 ≤ v ∧ v ≤ 100))) ∧ w = w' := by
  by_cases h0 : 0 ≤ v
  · have HE := Lib.hid (show decide (v ≤ 100) = decide (0 ≤ v ∧ v ≤ 100) by rw [Bool.eq_iff_iff]; simp [h0])
    go_enter Try.func44, Try.ntmps44
    go_wp2
    go_ret
    exact ⟨ret_bool HE.out, rfl⟩
  · have HE := Lib.hid (show false = decide (0 ≤ v ∧ v ≤ 100) from (decide_eq_false (fun q => h0 q.1)).symm)
    have q1 : decide (0 ≤ v) = false := decide_eq_false h0
    generalize decide (0 ≤ v ∧ v ≤ 100) = d at *
    go_enter Try.func44, Try.ntmps44
    go_wp2
    go_ret
    exact ⟨ret_bool HE.out, rfl⟩
theorem fricC_yes (v : Int) (w : World) (h : 0 ≤ v ∧ v ≤ 100) : Calls Try.prog 44 #[.int .i64 v] w fun e w' => e = .returned (.bool true) ∧ w = w' := by
  have := fricC v w
  rwa [decide_eq_true h] at this
theorem fricC_no (v : Int) (w : World) (h : ¬ (0 ≤ v ∧ v ≤ 100)) : Calls Try.prog 44 #[.int .i64 v] w fun e w' => e = .returned (.bool false) ∧ w = w' := by
  have := fricC v w
  rwa [decide_eq_false h] at this
theorem gainC (v : Int) (w : World) : Calls Try.prog 61 #[.int .i64 v] w fun e w' => e = .returned (.bool (decide (0 ≤ v ∧ v ≤ 64))) ∧ w = w' := by
  by_cases h0 : 0 ≤ v
  · have HE := Lib.hid (show decide (v ≤ 64) = decide (0 ≤ v ∧ v ≤ 64) by rw [Bool.eq_iff_iff]; simp [h0])
    go_enter Try.func61, Try.ntmps61
    go_wp2
    go_ret
    exact ⟨ret_bool HE.out, rfl⟩
  · have HE := Lib.hid (show false = decide (0 ≤ v ∧ v ≤ 64) from (decide_eq_false (fun q => h0 q.1)).symm)
    have q1 : decide (0 ≤ v) = false := decide_eq_false h0
    generalize decide (0 ≤ v ∧ v ≤ 64) = d at *
    go_enter Try.func61, Try.ntmps61
    go_wp2
    go_ret
    exact ⟨ret_bool HE.out, rfl⟩
theorem gainC_yes (v : Int) (w : World) (h : 0 ≤ v ∧ v ≤ 64) : Calls Try.prog 61 #[.int .i64 v] w fun e w' => e = .returned (.bool true) ∧ w = w' := by
  have := gainC v w
  rwa [decide_eq_true h] at this
theorem gainC_no (v : Int) (w : World) (h : ¬ (0 ≤ v ∧ v ≤ 64)) : Calls Try.prog 61 #[.int .i64 v] w fun e w' => e = .returned (.bool false) ∧ w = w' := by
  have := gainC v w
  rwa [decide_eq_false h] at this
theorem crdC (v : Int) (w : World) : Calls Try.prog 55 #[.int .i64 v] w fun e w' => e = .returned (.bool (decide (-10000 ≤ v ∧ v ≤ 10000))) ∧ w = w' := by
  by_cases h0 : -10000 ≤ v
  · have HE := Lib.hid (show decide (v ≤ 10000) = decide (-10000 ≤ v ∧ v ≤ 10000) by rw [Bool.eq_iff_iff]; simp [h0])
    go_enter Try.func55, Try.ntmps55
    go_wp2
    go_ret
    exact ⟨ret_bool HE.out, rfl⟩
  · have HE := Lib.hid (show false = decide (-10000 ≤ v ∧ v ≤ 10000) from (decide_eq_false (fun q => h0 q.1)).symm)
    have q1 : decide (-10000 ≤ v) = false := decide_eq_false h0
    generalize decide (-10000 ≤ v ∧ v ≤ 10000) = d at *
    go_enter Try.func55, Try.ntmps55
    go_wp2
    go_ret
    exact ⟨ret_bool HE.out, rfl⟩
theorem crdC_yes (v : Int) (w : World) (h : -10000 ≤ v ∧ v ≤ 10000) : Calls Try.prog 55 #[.int .i64 v] w fun e w' => e = .returned (.bool true) ∧ w = w' := by
  have := crdC v w
  rwa [decide_eq_true h] at this
theorem crdC_no (v : Int) (w : World) (h : ¬ (-10000 ≤ v ∧ v ≤ 10000)) : Calls Try.prog 55 #[.int .i64 v] w fun e w' => e = .returned (.bool false) ∧ w = w' := by
  have := crdC v w
  rwa [decide_eq_false h] at this
theorem stepsC (v : Int) (w : World) : Calls Try.prog 53 #[.int .i64 v] w fun e w' => e = .returned (.bool (decide (0 ≤ v ∧ v ≤ 400))) ∧ w = w' := by
  by_cases h0 : 0 ≤ v
  · have HE := Lib.hid (show decide (v ≤ 400) = decide (0 ≤ v ∧ v ≤ 400) by rw [Bool.eq_iff_iff]; simp [h0])
    go_enter Try.func53, Try.ntmps53
    go_wp2
    go_ret
    exact ⟨ret_bool HE.out, rfl⟩
  · have HE := Lib.hid (show false = decide (0 ≤ v ∧ v ≤ 400) from (decide_eq_false (fun q => h0 q.1)).symm)
    have q1 : decide (0 ≤ v) = false := decide_eq_false h0
    generalize decide (0 ≤ v ∧ v ≤ 400) = d at *
    go_enter Try.func53, Try.ntmps53
    go_wp2
    go_ret
    exact ⟨ret_bool HE.out, rfl⟩
theorem stepsC_yes (v : Int) (w : World) (h : 0 ≤ v ∧ v ≤ 400) : Calls Try.prog 53 #[.int .i64 v] w fun e w' => e = .returned (.bool true) ∧ w = w' := by
  have := stepsC v w
  rwa [decide_eq_true h] at this
theorem stepsC_no (v : Int) (w : World) (h : ¬ (0 ≤ v ∧ v ≤ 400)) : Calls Try.prog 53 #[.int .i64 v] w fun e w' => e = .returned (.bool false) ∧ w = w' := by
  have := stepsC v w
  rwa [decide_eq_false h] at this
theorem nearC (l n : Int) (w : World) (hl : 0 ≤ l ∧ l ≤ 10000) : Calls Try.prog 60 #[.int .i64 l, .int .i64 n] w fun e w' => e = .returned (.int .i64 (clp n (-l) l)) ∧ w = w' := by
  obtain ⟨m, hm⟩ : ∃ m, -l = m := ⟨_, rfl⟩
  obtain ⟨v, hv⟩ : ∃ v, clp n m l = v := ⟨_, rfl⟩
  have o1 : IntKind.i64.wrap (-l) = m := by rw [hm]; exact wrap_in (by omega) (by omega)
  rw [hm, hv]
  have HE := Lib.hid hv
  clear hv hm hl
  go_enter Try.func60, Try.ntmps60
  go_wp2
  all_goals
    go_ret
    exact ⟨ret_int (by rw [← HE.out]; unfold clp; omega), rfl⟩
set_option maxHeartbeats 1000000 in
theorem motorValidM (a v : Int) (w : World) : Calls Try.prog 39 #[pt a v] w fun e w' => e = .returned (.bool (decide (okMotor a v))) ∧ Below w.heap.size w w' := by
  have HB := Lib.hid (below_box w (.cells #[.int .i64 a, .int .i64 v] 24))
  have HE : ∀ b, (b = true ↔ okMotor a v) → b = decide (okMotor a v) := fun b h => by rw [Bool.eq_iff_iff, h]; simp
  by_cases h0 : -10000 ≤ a ∧ a ≤ 10000
  rotate_left
  · have HV := Lib.hid (HE false ⟨(fun h => by cases h), fun h => absurd h.1 h0⟩)
    clear HE
    go_enter Try.func39, Try.ntmps39
    go_wp2_with fail
    refine (crdC_no a _ h0).mono ?_
    rintro e w' ⟨rfl, rfl⟩
    go_wp2
    go_ret
    exact ⟨ret_bool HV.out, HB.out⟩
  by_cases h1 : -200 ≤ v
  rotate_left
  · have HV := Lib.hid (HE false ⟨(fun h => by cases h), fun h => absurd h.2.1 h1⟩)
    have q1 : decide (-200 ≤ v) = false := decide_eq_false h1
    clear HE
    generalize decide (okMotor a v) = d at *
    go_enter Try.func39, Try.ntmps39
    go_wp2_with fail
    refine (crdC_yes a _ h0).mono ?_
    rintro e w' ⟨rfl, rfl⟩
    go_wp2
    go_ret
    exact ⟨ret_bool HV.out, HB.out⟩
  have HV := Lib.hid (HE (decide (v ≤ 200)) ⟨fun h => by have hh := of_decide_eq_true h; exact ⟨h0, h1, hh⟩, fun h => decide_eq_true h.2.2⟩)
  clear HE
  go_enter Try.func39, Try.ntmps39
  go_wp2_with fail
  refine (crdC_yes a _ h0).mono ?_
  rintro e w' ⟨rfl, rfl⟩
  go_wp2
  go_ret
  exact ⟨ret_bool HV.out, HB.out⟩
set_option maxHeartbeats 1000000 in
theorem ctlValidM (g k d : Int) (w : World) : Calls Try.prog 50 #[ct g k d] w fun e w' => e = .returned (.bool (decide (okCtl g k d))) ∧ Below w.heap.size w w' := by
  have HB := Lib.hid (below_box w (.cells #[.int .i64 g, .int .i64 k, .int .i64 d] 60))
  have HE : ∀ b, (b = true ↔ okCtl g k d) → b = decide (okCtl g k d) := fun b h => by rw [Bool.eq_iff_iff, h]; simp
  by_cases h0 : -10000 ≤ g ∧ g ≤ 10000
  rotate_left
  · have HV := Lib.hid (HE false ⟨(fun h => by cases h), fun h => absurd h.1 h0⟩)
    clear HE
    go_enter Try.func50, Try.ntmps50
    go_wp2_with fail
    refine (crdC_no g _ h0).mono ?_
    rintro e w' ⟨rfl, rfl⟩
    go_wp2
    go_ret
    exact ⟨ret_bool HV.out, HB.out⟩
  by_cases h1 : 0 ≤ k ∧ k ≤ 64
  rotate_left
  · have HV := Lib.hid (HE false ⟨(fun h => by cases h), fun h => absurd h.2.1 h1⟩)
    clear HE
    go_enter Try.func50, Try.ntmps50
    go_wp2_with fail
    refine (crdC_yes g _ h0).mono ?_
    rintro e w' ⟨rfl, rfl⟩
    go_wp2_with fail
    refine (gainC_no k _ h1).mono ?_
    rintro e w' ⟨rfl, rfl⟩
    go_wp2
    go_ret
    exact ⟨ret_bool HV.out, HB.out⟩
  by_cases h2 : 0 ≤ d ∧ d ≤ 64
  rotate_left
  · have HV := Lib.hid (HE false ⟨(fun h => by cases h), fun h => absurd h.2.2 h2⟩)
    clear HE
    go_enter Try.func50, Try.ntmps50
    go_wp2_with fail
    refine (crdC_yes g _ h0).mono ?_
    rintro e w' ⟨rfl, rfl⟩
    go_wp2_with fail
    refine (gainC_yes k _ h1).mono ?_
    rintro e w' ⟨rfl, rfl⟩
    go_wp2_with fail
    refine (gainC_no d _ h2).mono ?_
    rintro e w' ⟨rfl, rfl⟩
    go_wp2
    go_ret
    exact ⟨ret_bool HV.out, HB.out⟩
  have HV := Lib.hid (HE true ⟨fun _ => ⟨h0, h1, h2⟩, fun _ => rfl⟩)
  clear HE
  go_enter Try.func50, Try.ntmps50
  go_wp2_with fail
  refine (crdC_yes g _ h0).mono ?_
  rintro e w' ⟨rfl, rfl⟩
  go_wp2_with fail
  refine (gainC_yes k _ h1).mono ?_
  rintro e w' ⟨rfl, rfl⟩
  go_wp2_with fail
  refine (gainC_yes d _ h2).mono ?_
  rintro e w' ⟨rfl, rfl⟩
  go_wp2
  go_ret
  exact ⟨ret_bool HV.out, HB.out⟩
theorem accelM (a v t : Int) (w : World) (hv : -200 ≤ v ∧ v ≤ 200) (ht : -100 ≤ t ∧ t ≤ 100) :
    Calls Try.prog 57 #[pt a v, .int .i64 t] w fun e w' => e = .returned (pt a (v + t)) ∧ Below w.heap.size w w' := by
  obtain ⟨u, hu⟩ : ∃ u, v + t = u := ⟨_, rfl⟩
  have o1 : IntKind.i64.wrap (v + t) = u := by rw [hu]; exact wrap_in (by omega) (by omega)
  rw [hu]
  clear hu hv ht
  go_enter Try.func57, Try.ntmps57
  go_wp2
  refine bodyPost_ret (v := pt a u) (by simp [results, Try.results57, go_sem]) rfl ⟨rfl, ?_⟩
  exact below_box2 _ _ _
set_option maxHeartbeats 2000000 in
theorem slowedM (a u f : Int) (w : World) (hu : -300 ≤ u ∧ u ≤ 300) (hf : 0 ≤ f ∧ f ≤ 100) :
    Calls Try.prog 58 #[pt a u, .int .i64 f] w fun e w' => e = .returned (pt a (slowV u f)) ∧ Below w.heap.size w w' := by
  have hb := slow_bd hf hu
  have he := slow_clp (u := u) (f := f) hf.1
  obtain ⟨s, hs⟩ : ∃ s, slowV u f = s := ⟨_, rfl⟩
  rw [hs] at hb he ⊢
  have HN0 := Lib.hid (fun w => nearC f u w (by omega))
  obtain ⟨c, hc⟩ : ∃ c, clp u (-f) f = c := ⟨_, rfl⟩
  rw [hc] at HN0 he
  have o1 : IntKind.i64.wrap (u - c) = s := by rw [he]; exact wrap_in (by omega) (by omega)
  have P0 := (OwnP.box w a u 24).next (below_box _ (.cells #[.int .i64 0, .int .i64 0] 24))
  have R0 := OwnP.box (w.alloc (.cells #[.int .i64 a, .int .i64 u] 24)) 0 0 24
  have B0 := below_box2 w (.cells #[.int .i64 a, .int .i64 u] 24) (.cells #[.int .i64 0, .int .i64 0] 24)
  rw [show (w.alloc (.cells #[.int .i64 a, .int .i64 u] 24)).heap.size = w.heap.size + 1 by simp] at R0
  clear hs hc he hb hu hf
  go_enter Try.func58, Try.ntmps58
  go_upto_region 1 with fail
  generalize (w.alloc (.cells #[.int .i64 a, .int .i64 u] 24)).alloc (.cells #[.int .i64 0, .int .i64 0] 24) = w1 at *
  have HN := Lib.hid (fun (q : Kept w1) => keptSame (n := q) (HN0.out q.u))
  clear HN0
  obtain ⟨e0, e1⟩ := P0.toAtP.kepts
  refine wp_region_ktail 7 (by kernel_rfl) (by kernel_rfl) ?_
  simp only [List.take_succ_cons, List.take_zero, List.drop_succ_cons, List.drop_zero]
  repeat (go_big_quiet_step ((go_at_call 60; with_reducible exact HN.out _)))
  refine wpQuiet_nil ?_
  rintro w4 ⟨⟨_, K2⟩, rfl⟩
  have P3 := P0.next K2
  have R3 := R0.next K2
  obtain ⟨⟨_, c0, c1⟩, z0, z1⟩ := id P3
  have P4 := P3.put1 s
  have R4 := R3.far (c := w.heap.size) (o := 1) (by omega) (.int .i64 s)
  have HB4 := Lib.hid ((below_call B0 K2).setCell (p := ⟨w.heap.size, 1, none⟩) (Nat.le_refl _) (.int .i64 s))
  clear P0 R0 P3 R3 B0 K2 HN e0 e1
  go_upto_region 2 with fail
  generalize w4.setCell ⟨w.heap.size, 1, none⟩ (.int .i64 s) = w5 at *
  clear c0 c1 z0 z1
  obtain ⟨⟨_, p0, p1⟩, _, _⟩ := id P4
  obtain ⟨⟨_, r0, r1⟩, r2, r3⟩ := id R4
  clear P4 R4
  go_wp2
  exact bodyPost_ret (v := pt a s) (by simp [results, Try.results58, go_sem, r0, r1]) rfl ⟨rfl, (HB4.out.setCell (p := ⟨w.heap.size + 1, 0, none⟩) (Nat.le_succ _) _).setCell (p := ⟨w.heap.size + 1, 1, none⟩) (Nat.le_succ _) _⟩
set_option maxHeartbeats 4000000 in
theorem movedM (a v t f : Int) (w : World) (ha : -10000 ≤ a ∧ a ≤ 10000) :
    Calls Try.prog 59 #[pt a (slowV (v + t) f)] w fun e w' => e = .returned (pt (stpA a v t f) (stpS a v t f)) ∧ Below w.heap.size w w' := by
  have hb := spd_bd v t f
  have HN := Lib.hid (fun w => nearC 200 (slowV (v + t) f) w (by omega))
  obtain ⟨sp, hsp⟩ : ∃ sp, spdV v t f = sp := ⟨_, rfl⟩
  obtain ⟨g, hg⟩ : ∃ g, a + sp = g := ⟨_, rfl⟩
  rw [show clp (slowV (v + t) f) (-200) 200 = sp from hsp] at HN
  rw [hsp] at hb
  have o3 : IntKind.i64.wrap (a + sp) = g := by rw [hg]; exact wrap_in (by omega) (by omega)
  have HL := Lib.hid (fun w => nearC 10000 g w (by omega))
  have HIN : (inA g ∧ stpA a v t f = g ∧ stpS a v t f = sp) ∨ (¬ inA g ∧ stpA a v t f = clp g (-10000) 10000 ∧ stpS a v t f = 0) := by
    by_cases k : inA g
    · have e := stp_in (a := a) (v := v) (t := t) (f := f) (by rw [hsp, hg]; exact k)
      rw [hsp, hg] at e
      exact .inl ⟨k, e⟩
    · have e := stp_out (a := a) (v := v) (t := t) (f := f) (by rw [hsp, hg]; exact k)
      refine .inr ⟨k, ?_, e⟩
      unfold stpA; rw [hsp, hg]
  generalize slowV (v + t) f = s at *
  clear hsp hg hb ha
  rcases HIN with ⟨q, hA, hS⟩ | ⟨q, hA, hS⟩
  · have HC := Lib.hid (fun w => crdC_yes g w q)
    rw [hA, hS]
    clear hA hS q HL
    go_enter Try.func59, Try.ntmps59
    go_wp2_with fail
    refine (HN.out _).mono ?_
    rintro e w' ⟨rfl, rfl⟩
    go_wp2_with fail
    refine (HC.out _).mono ?_
    rintro e w' ⟨rfl, rfl⟩
    go_wp2
    refine bodyPost_ret (v := pt g sp) (by simp [results, Try.results59, go_sem]) rfl ⟨rfl, ?_⟩
    exact below_box2 _ _ _
  · have HC := Lib.hid (fun w => crdC_no g w q)
    rw [hA, hS]
    clear hA hS q
    generalize clp g (-10000) 10000 = y at *
    go_enter Try.func59, Try.ntmps59
    go_wp2_with fail
    refine (HN.out _).mono ?_
    rintro e w' ⟨rfl, rfl⟩
    go_wp2_with fail
    refine (HC.out _).mono ?_
    rintro e w' ⟨rfl, rfl⟩
    go_wp2_with fail
    refine (HL.out _).mono ?_
    rintro e w' ⟨rfl, rfl⟩
    go_wp2
    refine bodyPost_ret (v := pt y 0) (by simp [results, Try.results59, go_sem]) rfl ⟨rfl, ?_⟩
    exact below_box2 _ _ _
set_option maxHeartbeats 2000000 in
theorem motorStepM (a v t f : Int) (w : World) (ha : -10000 ≤ a ∧ a ≤ 10000) (hv : -200 ≤ v ∧ v ≤ 200) (ht : -100 ≤ t ∧ t ≤ 100) (hf : 0 ≤ f ∧ f ≤ 100) :
    Calls Try.prog 45 #[pt a v, .int .i64 t, .int .i64 f] w fun e w' => e = .returned (pt (stpA a v t f) (stpS a v t f)) ∧ Below w.heap.size w w' := by
  have H1 := Lib.hid (fun w => accelM a v t w hv ht)
  have H2 := Lib.hid (fun w => slowedM a (v + t) f w (by omega) hf)
  have H3 := Lib.hid (fun w => movedM a v t f w ha)
  have R0 := OwnP.box (w.alloc (.cells #[.int .i64 a, .int .i64 v] 24)) 0 0 24
  have HB := Lib.hid (below_box2 w (.cells #[.int .i64 a, .int .i64 v] 24) (.cells #[.int .i64 0, .int .i64 0] 24))
  rw [show (w.alloc (.cells #[.int .i64 a, .int .i64 v] 24)).heap.size = w.heap.size + 1 by simp] at R0
  generalize slowV (v + t) f = s at *
  generalize v + t = u at *
  generalize stpA a v t f = na at *
  generalize stpS a v t f = ns at *
  clear ha hv ht hf
  go_enter Try.func45, Try.ntmps45
  go_wp2_with fail
  refine (H1.out _).mono ?_
  rintro e w2 ⟨rfl, B2⟩
  have R2 := Lib.hid (R0.next B2)
  have HB2 := Lib.hid (below_call HB.out B2)
  clear B2 R0 HB H1
  go_wp2_with fail
  refine (H2.out _).mono ?_
  rintro e w3 ⟨rfl, B3⟩
  have R3 := Lib.hid (R2.out.next B3)
  have HB3 := Lib.hid (below_call HB2.out B3)
  clear B3 R2 HB2 H2
  go_wp2_with fail
  refine (H3.out _).mono ?_
  rintro e w4 ⟨rfl, B4⟩
  obtain ⟨⟨_, r0, r1⟩, r2, r3⟩ := R3.out.next B4
  have HB4 := Lib.hid (below_call HB3.out B4)
  clear B4 R3 HB3 H3
  go_wp2
  exact bodyPost_ret (v := pt na ns) (by simp [results, Try.results45, go_sem, r0, r1]) rfl ⟨rfl, (HB4.out.setCell (p := ⟨w.heap.size + 1, 0, none⟩) (Nat.le_succ _) _).setCell (p := ⟨w.heap.size + 1, 1, none⟩) (Nat.le_succ _) _⟩
theorem brakeM (a v : Int) (w : World) (hv : -200 ≤ v ∧ v ≤ 200) :
    Calls Try.prog 47 #[pt a v] w fun e w' => e = .returned (.int .i64 (clp (-v) (-100) 100)) ∧ Below w.heap.size w w' := by
  have HB := Lib.hid (below_box w (.cells #[.int .i64 a, .int .i64 v] 24))
  have HN := Lib.hid (fun w => nearC 100 (-v) w (by omega))
  have o1 : IntKind.i64.wrap (-v) = -v := wrap_in (by omega) (by omega)
  generalize clp (-v) (-100) 100 = y at *
  obtain ⟨z, hz⟩ : ∃ z, -v = z := ⟨_, rfl⟩
  have o2 : IntKind.i64.wrap (-v) = z := by rw [o1, hz]
  rw [hz] at HN
  clear o1 hz hv
  go_enter Try.func47, Try.ntmps47
  go_wp2_with fail
  refine (HN.out _).mono ?_
  rintro e w' ⟨rfl, rfl⟩
  go_wp2
  go_ret
  exact ⟨rfl, HB.out⟩
theorem floor14i (n : Int) (w : World) (h1 : -2000000 ≤ n) (h2 : n ≤ 2000000) :
    Calls Try.prog 62 #[.int .i64 n, .int .i64 16] w fun e w' => e = .returned (.int .i64 (flo n 16)) ∧ w = w' := by
  by_cases h : n.tmod 16 < 0
  · have HE := Lib.hid (flo_neg n 16 (by omega) h)
    have b : -2000000 ≤ n.tdiv 16 ∧ n.tdiv 16 ≤ 2000000 := by have := HE.out; unfold flo at this; omega
    go_enter Try.func62, Try.ntmps62
    go_wp2
    go_ret
    exact ⟨ret_int HE.out, rfl⟩
  · have HE := Lib.hid (flo_pos n 16 (by omega) (by omega))
    have b : -2000000 ≤ n.tdiv 16 ∧ n.tdiv 16 ≤ 2000000 := by have := HE.out; unfold flo at this; omega
    go_enter Try.func62, Try.ntmps62
    go_wp2
    go_ret
    exact ⟨ret_int HE.out, rfl⟩
set_option maxHeartbeats 2000000 in
theorem aimM (a v g k d : Int) (w : World) (h : okAim a v g k d) :
    Calls Try.prog 51 #[ct g k d, pt a v] w fun e w' => e = .returned (.int .i64 (aimN a v g k d)) ∧ Below w.heap.size w w' := by
  have HB := Lib.hid (below_box2 w (.cells #[.int .i64 g, .int .i64 k, .int .i64 d] 60) (.cells #[.int .i64 a, .int .i64 v] 24))
  obtain ⟨⟨b1, b2⟩, b3, b4⟩ := aim_small h
  obtain ⟨⟨h1, h2⟩, h3, h4, h5⟩ := h
  obtain ⟨c, hc⟩ : ∃ c, g - a = c := ⟨_, rfl⟩
  obtain ⟨m, hm⟩ : ∃ m, k * c = m := ⟨_, rfl⟩
  obtain ⟨n, hn⟩ : ∃ n, d * v = n := ⟨_, rfl⟩
  obtain ⟨x, hx⟩ : ∃ x, m - n = x := ⟨_, rfl⟩
  rw [hc, hm] at b1 b2
  rw [hn] at b3 b4
  have HF := Lib.hid (fun w => floor14i x w (by omega) (by omega))
  have he : clp (flo x 16) (-100) 100 = aimN a v g k d := by unfold aimN; rw [hc, hm, hn, hx]
  have HN := Lib.hid (fun w => nearC 100 (flo x 16) w (by omega))
  rw [he] at HN
  generalize flo x 16 = y at *
  generalize aimN a v g k d = z at *
  have o1 : IntKind.i64.wrap (g - a) = c := by rw [hc]; exact wrap_in (by omega) (by omega)
  have o2 : IntKind.i64.wrap (k * c) = m := by rw [hm]; exact wrap_in (by omega) (by omega)
  have o3 : IntKind.i64.wrap (d * v) = n := by rw [hn]; exact wrap_in (by omega) (by omega)
  have o4 : IntKind.i64.wrap (m - n) = x := by rw [hx]; exact wrap_in (by omega) (by omega)
  clear hc hm hn hx h1 h2 h3 h4 h5 b1 b2 b3 b4 he
  go_enter Try.func51, Try.ntmps51
  go_wp2_with fail
  refine (HF.out _).mono ?_
  rintro e w' ⟨rfl, rfl⟩
  go_wp2_with fail
  refine (HN.out _).mono ?_
  rintro e w' ⟨rfl, rfl⟩
  go_wp2
  go_ret
  exact ⟨rfl, HB.out⟩
end Go.Proofs.Ytgnchgmbflkakaa
