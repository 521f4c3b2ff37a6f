/- Motors: the document's functions. -/
import Derived.Test.YtgnchgmbflkakaaNum14
import Derived.Test.YtgnchgmbflkakaaZcPts
import Derived.Test.YtgnchgmbflkakaaZbArm
import Derived.Test.YtgnchgmbflkakaaZbKt
import Derived.Below
import Derived.Outline
import Derived.Deep.RegionHeld3
import Derived.Deep.AppendLies
namespace Go.Proofs.Ytgnchgmbflkakaa
set_option maxRecDepth 100000
open Go.RowKit
attribute [local go_sem ↓] Go.wp_at_zero Go.wp_at_succ
/-- Numbers of the call's own. -/
def Nums14 (zs : List Int) (w : World) (e : Ending) (w' : World) : Prop :=
  ∃ s : Sl, e = .returned (.slice s.a s.len s.cap) ∧ s.len = zs.length ∧ OwnI w' w.heap.size (.slice s.a s.len s.cap) zs ∧ Below w.heap.size w w'
theorem clip14 (d o h : Int) (w : World) : Calls Try.prog 48 #[.int .i64 d, .int .i64 o, .int .i64 h] w fun e w' => e = .returned (.int .i64 (clp d o h)) ∧ w = w' := by
  obtain ⟨v, hv⟩ : ∃ v, clp d o h = v := ⟨_, rfl⟩
  have HE := Lib.hid hv
  rw [hv]
  clear hv
  go_enter Try.func48, Try.ntmps48
  go_wp2
  all_goals
    go_ret
    exact ⟨ret_int (by rw [← HE.out]; unfold clp; omega), rfl⟩
theorem floor14 (n : Int) (w : World) (h1 : -2000000 ≤ n) (h2 : n ≤ 2000000) :
    Calls Try.prog 63 #[.int .i64 n, .int .i64 16] w fun e w' => e = .returned (.int .i64 (flo n 16)) ∧ w = w' := by
  by_cases h : n.tmod 16 < 0
  · have HE := Lib.hid (flo_neg n 16 (by omega) h)
    have b : -2000000 ≤ n.tdiv 16 ∧ n.tdiv 16 ≤ 2000000 := by have := HE.out; unfold flo at this; omega
    go_enter Try.func63, Try.ntmps63
    go_wp2
    go_ret
    exact ⟨ret_int HE.out, rfl⟩
  · have HE := Lib.hid (flo_pos n 16 (by omega) (by omega))
    have b : -2000000 ≤ n.tdiv 16 ∧ n.tdiv 16 ≤ 2000000 := by have := HE.out; unfold flo at this; omega
    go_enter Try.func63, Try.ntmps63
    go_wp2
    go_ret
    exact ⟨ret_int HE.out, rfl⟩
set_option maxHeartbeats 1000000 in
theorem specMotorValid (a v : Int) (w : World) : Calls Try.prog 16 #[pt a v] w fun e w' => e = .returned (.bool (decide (okMotor a v))) ∧ Below w.heap.size w w' := by
  have HB := Lib.hid (below_box w (.cells #[.int .i64 a, .int .i64 v] 24))
  have HE : ∀ b, (b = true ↔ okMotor a v) → b = decide (okMotor a v) := fun b h => by rw [Bool.eq_iff_iff, h]; simp
  by_cases h0 : -10000 ≤ a ∧ a ≤ 10000
  rotate_left
  · have HV := Lib.hid (HE false ⟨(fun h => by cases h), fun h => absurd h.1 h0⟩)
    clear HE
    go_enter Try.func16, Try.ntmps16
    go_wp2_with fail
    refine (l1In_no a (-10000) 10000 _ (by omega)).mono ?_
    rintro e w' ⟨rfl, rfl⟩
    go_wp2
    go_ret
    exact ⟨ret_bool HV.out, HB.out⟩
  by_cases h1 : -200 ≤ v ∧ v ≤ 200
  rotate_left
  · have HV := Lib.hid (HE false ⟨(fun h => by cases h), fun h => absurd h.2 h1⟩)
    clear HE
    go_enter Try.func16, Try.ntmps16
    go_wp2_with fail
    refine (l1In_yes a (-10000) 10000 _ h0.1 h0.2).mono ?_
    rintro e w' ⟨rfl, rfl⟩
    go_wp2_with fail
    refine (l1In_no v (-200) 200 _ (by omega)).mono ?_
    rintro e w' ⟨rfl, rfl⟩
    go_wp2
    go_ret
    exact ⟨ret_bool HV.out, HB.out⟩
  have HV := Lib.hid (HE true ⟨fun _ => ⟨h0, h1⟩, fun _ => rfl⟩)
  clear HE
  go_enter Try.func16, Try.ntmps16
  go_wp2_with fail
  refine (l1In_yes a (-10000) 10000 _ h0.1 h0.2).mono ?_
  rintro e w' ⟨rfl, rfl⟩
  go_wp2_with fail
  refine (l1In_yes v (-200) 200 _ h1.1 h1.2).mono ?_
  rintro e w' ⟨rfl, rfl⟩
  go_wp2
  go_ret
  exact ⟨ret_bool HV.out, HB.out⟩
set_option maxHeartbeats 4000000 in
theorem l14Step (a v t f : Int) (w : World) (ha : -10000 ≤ a ∧ a ≤ 10000) (hv : -200 ≤ v ∧ v ≤ 200) (ht : -100 ≤ t ∧ t ≤ 100) (hf : 0 ≤ f ∧ f ≤ 100) :
    Calls Try.prog 46 #[pt a v, .int .i64 t, .int .i64 f] w fun e w' => e = .returned (pt (stpA a v t f) (stpS a v t f)) ∧ Below w.heap.size w w' := by
  obtain ⟨u, hu⟩ : ∃ u, v + t = u := ⟨_, rfl⟩
  obtain ⟨s, hs⟩ : ∃ s, slowV u f = s := ⟨_, rfl⟩
  obtain ⟨sp, hsp⟩ : ∃ sp, spdV v t f = sp := ⟨_, rfl⟩
  obtain ⟨g, hg⟩ : ∃ g, a + sp = g := ⟨_, rfl⟩
  have HSP := Lib.hid (show clp s (-200) 200 = sp by rw [← hs, ← hu, ← hsp]; rfl)
  have hb := spd_bd v t f
  rw [hsp] at hb
  have HIN : Hid ((inA g ∧ stpA a v t f = g ∧ stpS a v t f = sp) ∨ ((g < -10000 ∨ 10000 < g) ∧ stpA a v t f = clp g (-10000) 10000 ∧ stpS a v t f = 0)) := Lib.hid (by
    by_cases k : inA g
    · have e := stp_in (a := a) (v := v) (t := t) (f := f) (by rw [hsp, hg]; exact k)
      rw [hsp, hg] at e
      exact .inl ⟨k, e⟩
    · have e := stp_out (a := a) (v := v) (t := t) (f := f) (by rw [hsp, hg]; exact k)
      refine .inr ⟨by unfold inA at k; omega, ?_, e⟩
      unfold stpA; rw [hsp, hg])
  have o1 : IntKind.i64.wrap (v + t) = u := by rw [hu]; exact wrap_in (by omega) (by omega)
  have o3 : IntKind.i64.wrap (a + sp) = g := by rw [hg]; exact wrap_in (by omega) (by omega)
  have hu2 : -300 ≤ u ∧ u ≤ 300 := by omega
  clear hu hg hsp ha hv ht hb
  unfold slowV at hs
  by_cases h0 : 0 < u
  · rw [if_pos h0] at hs
    by_cases h1 : 0 < u - f
    · obtain rfl : s = u - f := by omega
      have o2 : IntKind.i64.wrap (u - f) = u - f := wrap_in (by omega) (by omega)
      clear hs hf hu2
      go_enter Try.func46, Try.ntmps46
      skip
      go_wp2_with fail
      refine (clip14 (u - f) (-200) 200 _).mono ?_
      rw [HSP.out]
      rintro e w' ⟨rfl, rfl⟩
      clear o1 o2 h0 h1
      go_wp2_with fail
      rcases HIN.out with ⟨k, hA, hS⟩ | ⟨k, hA, hS⟩
      · refine (l1In_yes g (-10000) 10000 _ k.1 k.2).mono ?_
        rintro e w' ⟨rfl, rfl⟩
        clear k
        go_wp2
        refine bodyPost_ret (v := pt g sp) (by simp [results, Try.results46, go_sem]) rfl ⟨by rw [hA, hS], ?_⟩
        exact below_box2 w _ _
      · refine (l1In_no g (-10000) 10000 _ k).mono ?_
        rintro e w' ⟨rfl, rfl⟩
        clear k
        go_wp2_with fail
        refine (clip14 g (-10000) 10000 _).mono ?_
        rintro e w' ⟨rfl, rfl⟩
        go_wp2
        refine bodyPost_ret (v := pt (clp g (-10000) 10000) 0) (by simp [results, Try.results46, go_sem]) rfl ⟨by rw [hA, hS], ?_⟩
        exact below_box2 w _ _
    · obtain rfl : s = 0 := by omega
      have o2 : IntKind.i64.wrap (u - f) = u - f := wrap_in (by omega) (by omega)
      clear hs hf hu2
      go_enter Try.func46, Try.ntmps46
      skip
      go_wp2_with fail
      refine (clip14 0 (-200) 200 _).mono ?_
      rw [HSP.out]
      rintro e w' ⟨rfl, rfl⟩
      clear o1 o2 h0 h1
      go_wp2_with fail
      rcases HIN.out with ⟨k, hA, hS⟩ | ⟨k, hA, hS⟩
      · refine (l1In_yes g (-10000) 10000 _ k.1 k.2).mono ?_
        rintro e w' ⟨rfl, rfl⟩
        clear k
        go_wp2
        refine bodyPost_ret (v := pt g sp) (by simp [results, Try.results46, go_sem]) rfl ⟨by rw [hA, hS], ?_⟩
        exact below_box2 w _ _
      · refine (l1In_no g (-10000) 10000 _ k).mono ?_
        rintro e w' ⟨rfl, rfl⟩
        clear k
        go_wp2_with fail
        refine (clip14 g (-10000) 10000 _).mono ?_
        rintro e w' ⟨rfl, rfl⟩
        go_wp2
        refine bodyPost_ret (v := pt (clp g (-10000) 10000) 0) (by simp [results, Try.results46, go_sem]) rfl ⟨by rw [hA, hS], ?_⟩
        exact below_box2 w _ _
  · rw [if_neg h0] at hs
    by_cases h1 : u + f < 0
    · obtain rfl : s = u + f := by omega
      have o2 : IntKind.i64.wrap (u + f) = u + f := wrap_in (by omega) (by omega)
      clear hs hf hu2
      go_enter Try.func46, Try.ntmps46
      skip
      go_wp2_with fail
      refine (clip14 (u + f) (-200) 200 _).mono ?_
      rw [HSP.out]
      rintro e w' ⟨rfl, rfl⟩
      clear o1 o2 h0 h1
      go_wp2_with fail
      rcases HIN.out with ⟨k, hA, hS⟩ | ⟨k, hA, hS⟩
      · refine (l1In_yes g (-10000) 10000 _ k.1 k.2).mono ?_
        rintro e w' ⟨rfl, rfl⟩
        clear k
        go_wp2
        refine bodyPost_ret (v := pt g sp) (by simp [results, Try.results46, go_sem]) rfl ⟨by rw [hA, hS], ?_⟩
        exact below_box2 w _ _
      · refine (l1In_no g (-10000) 10000 _ k).mono ?_
        rintro e w' ⟨rfl, rfl⟩
        clear k
        go_wp2_with fail
        refine (clip14 g (-10000) 10000 _).mono ?_
        rintro e w' ⟨rfl, rfl⟩
        go_wp2
        refine bodyPost_ret (v := pt (clp g (-10000) 10000) 0) (by simp [results, Try.results46, go_sem]) rfl ⟨by rw [hA, hS], ?_⟩
        exact below_box2 w _ _
    · obtain rfl : s = 0 := by omega
      have o2 : IntKind.i64.wrap (u + f) = u + f := wrap_in (by omega) (by omega)
      clear hs hf hu2
      go_enter Try.func46, Try.ntmps46
      skip
      go_wp2_with fail
      refine (clip14 0 (-200) 200 _).mono ?_
      rw [HSP.out]
      rintro e w' ⟨rfl, rfl⟩
      clear o1 o2 h0 h1
      go_wp2_with fail
      rcases HIN.out with ⟨k, hA, hS⟩ | ⟨k, hA, hS⟩
      · refine (l1In_yes g (-10000) 10000 _ k.1 k.2).mono ?_
        rintro e w' ⟨rfl, rfl⟩
        clear k
        go_wp2
        refine bodyPost_ret (v := pt g sp) (by simp [results, Try.results46, go_sem]) rfl ⟨by rw [hA, hS], ?_⟩
        exact below_box2 w _ _
      · refine (l1In_no g (-10000) 10000 _ k).mono ?_
        rintro e w' ⟨rfl, rfl⟩
        clear k
        go_wp2_with fail
        refine (clip14 g (-10000) 10000 _).mono ?_
        rintro e w' ⟨rfl, rfl⟩
        go_wp2
        refine bodyPost_ret (v := pt (clp g (-10000) 10000) 0) (by simp [results, Try.results46, go_sem]) rfl ⟨by rw [hA, hS], ?_⟩
        exact below_box2 w _ _
set_option maxHeartbeats 2000000 in
theorem specMotorStep (a v t f : Int) (w : World) :
    Calls Try.prog 20 #[pt a v, .int .i64 t, .int .i64 f] w fun e w' => e = .returned (pt (motA a v t f) (motS a v t f)) ∧ Below w.heap.size w w' := by
  have P0 := (AtP.box w a v 24).alloc (.cells #[.int .i64 0, .int .i64 0] 24)
  have R0 := OwnP.box (w.alloc (.cells #[.int .i64 a, .int .i64 v] 24)) 0 0 24
  rw [show (w.alloc (.cells #[.int .i64 a, .int .i64 v] 24)).heap.size = w.heap.size + 1 by simp] at R0
  have HB := Lib.hid (below_box2 w (.cells #[.int .i64 a, .int .i64 v] 24) (.cells #[.int .i64 0, .int .i64 0] 24))
  by_cases h0 : okMotor a v
  rotate_left
  · have HV := Lib.hid (fun w => specMotorValid a v w)
    rw [decide_eq_false h0] at HV
    have EA : motA a v t f = 0 := if_neg (fun q => h0 q.1)
    have ES : motS a v t f = 0 := if_neg (fun q => h0 q.1)
    rw [EA, ES]
    clear EA ES
    go_enter Try.func20, Try.ntmps20
    go_wp2_with fail
    refine (HV.out _).mono ?_
    rintro e w2 ⟨rfl, B2⟩
    have HB2 := Lib.hid (below_call HB.out B2)
    have HZ := Lib.hid B2
    clear B2
    obtain ⟨⟨_, r0, r1⟩, r2, r3⟩ := R0.next HZ.out
    go_wp2
    exact bodyPost_ret (v := pt 0 0) (by simp [results, Try.results20, go_sem, r0, r1]) rfl ⟨rfl, (HB2.out.setCell (p := ⟨w.heap.size + 1, 0, none⟩) (Nat.le_succ _) _).setCell (p := ⟨w.heap.size + 1, 1, none⟩) (Nat.le_succ _) _⟩
  have HV := Lib.hid (fun w => specMotorValid a v w)
  rw [decide_eq_true h0] at HV
  by_cases h1 : -100 ≤ t ∧ t ≤ 100
  rotate_left
  · skip
    have EA : motA a v t f = 0 := if_neg (fun q => h1 q.2.1)
    have ES : motS a v t f = 0 := if_neg (fun q => h1 q.2.1)
    rw [EA, ES]
    clear EA ES
    go_enter Try.func20, Try.ntmps20
    go_wp2_with fail
    refine (HV.out _).mono ?_
    rintro e w2 ⟨rfl, B2⟩
    have HB2 := Lib.hid (below_call HB.out B2)
    have HZ := Lib.hid B2
    clear B2
    go_wp2_with fail
    refine (l1In_no t (-100) (100) _ (by omega)).mono ?_
    rintro e w' ⟨rfl, rfl⟩
    obtain ⟨⟨_, r0, r1⟩, r2, r3⟩ := R0.next HZ.out
    go_wp2
    exact bodyPost_ret (v := pt 0 0) (by simp [results, Try.results20, go_sem, r0, r1]) rfl ⟨rfl, (HB2.out.setCell (p := ⟨w.heap.size + 1, 0, none⟩) (Nat.le_succ _) _).setCell (p := ⟨w.heap.size + 1, 1, none⟩) (Nat.le_succ _) _⟩
  by_cases h2 : 0 ≤ f ∧ f ≤ 100
  rotate_left
  · skip
    have EA : motA a v t f = 0 := if_neg (fun q => h2 q.2.2)
    have ES : motS a v t f = 0 := if_neg (fun q => h2 q.2.2)
    rw [EA, ES]
    clear EA ES
    go_enter Try.func20, Try.ntmps20
    go_wp2_with fail
    refine (HV.out _).mono ?_
    rintro e w2 ⟨rfl, B2⟩
    have HB2 := Lib.hid (below_call HB.out B2)
    have HZ := Lib.hid B2
    clear B2
    go_wp2_with fail
    refine (l1In_yes t (-100) (100) _ h1.1 h1.2).mono ?_
    rintro e w' ⟨rfl, rfl⟩
    go_wp2_with fail
    refine (l1In_no f (0) (100) _ (by omega)).mono ?_
    rintro e w' ⟨rfl, rfl⟩
    obtain ⟨⟨_, r0, r1⟩, r2, r3⟩ := R0.next HZ.out
    go_wp2
    exact bodyPost_ret (v := pt 0 0) (by simp [results, Try.results20, go_sem, r0, r1]) rfl ⟨rfl, (HB2.out.setCell (p := ⟨w.heap.size + 1, 0, none⟩) (Nat.le_succ _) _).setCell (p := ⟨w.heap.size + 1, 1, none⟩) (Nat.le_succ _) _⟩
  have EA : motA a v t f = stpA a v t f := if_pos ⟨h0, h1, h2⟩
  have ES : motS a v t f = stpS a v t f := if_pos ⟨h0, h1, h2⟩
  rw [EA, ES]
  have HL := Lib.hid (fun w => l14Step a v t f w h0.1 h0.2 h1 h2)
  generalize stpA a v t f = na at *
  generalize stpS a v t f = ns at *
  clear EA ES
  go_enter Try.func20, Try.ntmps20
  go_wp2_with fail
  refine (HV.out _).mono ?_
  rintro e w2 ⟨rfl, B2⟩
  have HB2 := Lib.hid (below_call HB.out B2)
  have HZ := Lib.hid B2
  clear B2
  go_wp2_with fail
  refine (l1In_yes t (-100) (100) _ h1.1 h1.2).mono ?_
  rintro e w' ⟨rfl, rfl⟩
  go_wp2_with fail
  refine (l1In_yes f (0) (100) _ h2.1 h2.2).mono ?_
  rintro e w' ⟨rfl, rfl⟩
  obtain ⟨_, p0, p1⟩ := P0.next HZ.out
  have R2 := R0.next HZ.out
  clear HZ
  go_wp2_with fail
  refine (HL.out _).mono ?_
  rintro e w3 ⟨rfl, B3⟩
  have HB3 := Lib.hid (below_call HB2.out B3)
  obtain ⟨⟨_, r0, r1⟩, r2, r3⟩ := R2.next B3
  clear B3 p0 p1
  go_wp2
  exact bodyPost_ret (v := pt na ns) (by simp [results, Try.results20, go_sem, r0, r1]) rfl ⟨rfl, (HB3.out.setCell (p := ⟨w.heap.size + 1, 0, none⟩) (Nat.le_succ _) _).setCell (p := ⟨w.heap.size + 1, 1, none⟩) (Nat.le_succ _) _⟩
end Go.Proofs.Ytgnchgmbflkakaa
