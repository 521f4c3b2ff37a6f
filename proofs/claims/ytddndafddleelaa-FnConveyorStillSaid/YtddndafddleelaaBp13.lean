/- Items and conveyors: the program's small functions and the document's. -/
import Derived.Test.YtddndafddleelaaNum13
import Derived.Test.YtddndafddleelaaZcPts
import Derived.Below
import Derived.Outline
import Derived.Deep.RegionHeld3
import Derived.Deep.AppendLies
import Derived.Deep.QuietTactic
import Derived.BigQuiet
import Derived.Deep.DrawnRows
import Derived.Deep.DeepCutAuto
import Derived.Deep.RegionWith
import Derived.StillTailTactics
namespace Go.Proofs.Ytddndafddleelaa
set_option maxRecDepth 100000
open Go.RowKit
attribute [local go_sem ↓] Go.wp_at_zero Go.wp_at_succ
/-- A conveyor as a value. -/
abbrev cv (s lo hi : Int) : Value := .agg #[.int .i64 s, .int .i64 lo, .int .i64 hi]
/-- A conveyor's box. -/
structure At3 (w : World) (b : Nat) (x y z : Int) : Prop where
  lt : b < w.heap.size
  c0 : w.cell? ⟨b, 0, none⟩ = some (.int .i64 x)
  c1 : w.cell? ⟨b, 1, none⟩ = some (.int .i64 y)
  c2 : w.cell? ⟨b, 2, none⟩ = some (.int .i64 z)
theorem At3.new (w : World) (x y z : Int) (T : TypeId) : At3 (w.alloc (.cells #[.int .i64 x, .int .i64 y, .int .i64 z] T)) w.heap.size x y z := by
  refine ⟨by simp, ?_, ?_, ?_⟩ <;>
  (rw [World.cell?_alloc_at _ _ _ _ rfl]; rfl)
theorem At3.next {w w' : World} {b : Nat} {x y z : Int} (h : At3 w b x y z) (hb : Below w.heap.size w w') : At3 w' b x y z :=
  ⟨Nat.lt_of_lt_of_le h.lt hb.size, (hb.cell (p := ⟨b, 0, none⟩) h.lt).trans h.c0, (hb.cell (p := ⟨b, 1, none⟩) h.lt).trans h.c1, (hb.cell (p := ⟨b, 2, none⟩) h.lt).trans h.c2⟩
theorem timeC (v : Int) (w : World) : Calls Try.prog 42 #[.int .i64 v] w fun e w' => e = .returned (.bool (decide (0 ≤ v ∧ v ≤ 2000))) ∧ w = w' := by
  by_cases h0 : 0 ≤ v
  · have HE := Lib.hid (show decide (v ≤ 2000) = decide (0 ≤ v ∧ v ≤ 2000) by rw [Bool.eq_iff_iff]; simp [h0])
    go_enter Try.func42, Try.ntmps42
    go_wp2
    go_ret
    exact ⟨ret_bool HE.out, rfl⟩
  · have HE := Lib.hid (show false = decide (0 ≤ v ∧ v ≤ 2000) from (decide_eq_false (fun q => h0 q.1)).symm)
    have q1 : decide (0 ≤ v) = false := decide_eq_false h0
    generalize decide (0 ≤ v ∧ v ≤ 2000) = d at *
    go_enter Try.func42, Try.ntmps42
    go_wp2
    go_ret
    exact ⟨ret_bool HE.out, rfl⟩
theorem timeC_yes (v : Int) (w : World) (h : 0 ≤ v ∧ v ≤ 2000) : Calls Try.prog 42 #[.int .i64 v] w fun e w' => e = .returned (.bool true) ∧ w = w' := by
  have := timeC v w
  rwa [decide_eq_true h] at this
theorem timeC_no (v : Int) (w : World) (h : ¬ (0 ≤ v ∧ v ≤ 2000)) : Calls Try.prog 42 #[.int .i64 v] w fun e w' => e = .returned (.bool false) ∧ w = w' := by
  have := timeC v w
  rwa [decide_eq_false h] at this
theorem speedC (v : Int) (w : World) : Calls Try.prog 51 #[.int .i64 v] w fun e w' => e = .returned (.bool (decide (0 ≤ v ∧ v ≤ 200))) ∧ w = w' := by
  by_cases h0 : 0 ≤ v
  · have HE := Lib.hid (show decide (v ≤ 200) = decide (0 ≤ v ∧ v ≤ 200) by rw [Bool.eq_iff_iff]; simp [h0])
    go_enter Try.func51, Try.ntmps51
    go_wp2
    go_ret
    exact ⟨ret_bool HE.out, rfl⟩
  · have HE := Lib.hid (show false = decide (0 ≤ v ∧ v ≤ 200) from (decide_eq_false (fun q => h0 q.1)).symm)
    have q1 : decide (0 ≤ v) = false := decide_eq_false h0
    generalize decide (0 ≤ v ∧ v ≤ 200) = d at *
    go_enter Try.func51, Try.ntmps51
    go_wp2
    go_ret
    exact ⟨ret_bool HE.out, rfl⟩
theorem speedC_yes (v : Int) (w : World) (h : 0 ≤ v ∧ v ≤ 200) : Calls Try.prog 51 #[.int .i64 v] w fun e w' => e = .returned (.bool true) ∧ w = w' := by
  have := speedC v w
  rwa [decide_eq_true h] at this
theorem speedC_no (v : Int) (w : World) (h : ¬ (0 ≤ v ∧ v ≤ 200)) : Calls Try.prog 51 #[.int .i64 v] w fun e w' => e = .returned (.bool false) ∧ w = w' := by
  have := speedC v w
  rwa [decide_eq_false h] at this
theorem coordC (v : Int) (w : World) : Calls Try.prog 41 #[.int .i64 v] w fun e w' => e = .returned (.bool (decide (-10000 ≤ v ∧ v ≤ 10000))) ∧ w = w' := by
  by_cases h0 : -10000 ≤ v
  · have HE := Lib.hid (show decide (v ≤ 10000) = decide (-10000 ≤ v ∧ v ≤ 10000) by rw [Bool.eq_iff_iff]; simp [h0])
    go_enter Try.func41, Try.ntmps41
    go_wp2
    go_ret
    exact ⟨ret_bool HE.out, rfl⟩
  · have HE := Lib.hid (show false = decide (-10000 ≤ v ∧ v ≤ 10000) from (decide_eq_false (fun q => h0 q.1)).symm)
    have q1 : decide (-10000 ≤ v) = false := decide_eq_false h0
    generalize decide (-10000 ≤ v ∧ v ≤ 10000) = d at *
    go_enter Try.func41, Try.ntmps41
    go_wp2
    go_ret
    exact ⟨ret_bool HE.out, rfl⟩
theorem coordC_yes (v : Int) (w : World) (h : -10000 ≤ v ∧ v ≤ 10000) : Calls Try.prog 41 #[.int .i64 v] w fun e w' => e = .returned (.bool true) ∧ w = w' := by
  have := coordC v w
  rwa [decide_eq_true h] at this
theorem coordC_no (v : Int) (w : World) (h : ¬ (-10000 ≤ v ∧ v ≤ 10000)) : Calls Try.prog 41 #[.int .i64 v] w fun e w' => e = .returned (.bool false) ∧ w = w' := by
  have := coordC v w
  rwa [decide_eq_false h] at this
set_option maxHeartbeats 1000000 in
theorem itemValid (p t : Int) (w : World) : Calls Try.prog 35 #[pt p t] w fun e w' => e = .returned (.bool (decide (okItem (p, t)))) ∧ Below w.heap.size w w' := by
  have HB := Lib.hid (below_box w (.cells #[.int .i64 p, .int .i64 t] 27))
  have HE : ∀ b, (b = true ↔ okItem (p, t)) → b = decide (okItem (p, t)) := fun b h => by rw [Bool.eq_iff_iff, h]; simp
  by_cases h0 : -10000 ≤ p ∧ p ≤ 10000
  rotate_left
  · have HV := Lib.hid (HE false ⟨(fun h => by cases h), fun h => absurd h.1 h0⟩)
    clear HE
    go_enter Try.func35, Try.ntmps35
    go_wp2_with fail
    refine (coordC_no p _ h0).mono ?_
    rintro e w' ⟨rfl, rfl⟩
    go_wp2
    go_ret
    exact ⟨ret_bool HV.out, HB.out⟩
  by_cases h1 : 1 ≤ t
  rotate_left
  · have HV := Lib.hid (HE false ⟨(fun h => by cases h), fun h => absurd h.2.1 h1⟩)
    have q1 : decide (1 ≤ t) = false := decide_eq_false h1
    clear HE
    generalize decide (okItem (p, t)) = d at *
    go_enter Try.func35, Try.ntmps35
    go_wp2_with fail
    refine (coordC_yes p _ h0).mono ?_
    rintro e w' ⟨rfl, rfl⟩
    go_wp2
    go_ret
    exact ⟨ret_bool HV.out, HB.out⟩
  have HV := Lib.hid (HE (decide (t ≤ 100)) ⟨fun h => by have hh := of_decide_eq_true h; exact ⟨h0, h1, hh⟩, fun h => decide_eq_true h.2.2⟩)
  clear HE
  go_enter Try.func35, Try.ntmps35
  go_wp2_with fail
  refine (coordC_yes p _ h0).mono ?_
  rintro e w' ⟨rfl, rfl⟩
  go_wp2
  go_ret
  exact ⟨ret_bool HV.out, HB.out⟩
set_option maxHeartbeats 1000000 in
theorem convValid (s lo hi : Int) (w : World) : Calls Try.prog 40 #[cv s lo hi] w fun e w' => e = .returned (.bool (decide (okConv s lo hi))) ∧ Below w.heap.size w w' := by
  have HB := Lib.hid (below_box w (.cells #[.int .i64 s, .int .i64 lo, .int .i64 hi] 56))
  have HE : ∀ b, (b = true ↔ okConv s lo hi) → b = decide (okConv s lo hi) := fun b h => by rw [Bool.eq_iff_iff, h]; simp
  by_cases h0 : 0 ≤ s ∧ s ≤ 200
  rotate_left
  · have HV := Lib.hid (HE false ⟨(fun h => by cases h), fun h => absurd h.1 h0⟩)
    clear HE
    go_enter Try.func40, Try.ntmps40
    go_wp2_with fail
    refine (speedC_no s _ h0).mono ?_
    rintro e w' ⟨rfl, rfl⟩
    go_wp2
    go_ret
    exact ⟨ret_bool HV.out, HB.out⟩
  by_cases h1 : -10000 ≤ lo ∧ lo ≤ 10000
  rotate_left
  · have HV := Lib.hid (HE false ⟨(fun h => by cases h), fun h => absurd h.2.1 h1⟩)
    clear HE
    go_enter Try.func40, Try.ntmps40
    go_wp2_with fail
    refine (speedC_yes s _ h0).mono ?_
    rintro e w' ⟨rfl, rfl⟩
    go_wp2_with fail
    refine (coordC_no lo _ h1).mono ?_
    rintro e w' ⟨rfl, rfl⟩
    go_wp2
    go_ret
    exact ⟨ret_bool HV.out, HB.out⟩
  by_cases h2 : -10000 ≤ hi ∧ hi ≤ 10000
  rotate_left
  · have HV := Lib.hid (HE false ⟨(fun h => by cases h), fun h => absurd (show -10000 ≤ hi ∧ hi ≤ 10000 from ⟨by have := h.2.1; have := h.2.2; omega, h.2.2.2⟩) h2⟩)
    clear HE
    go_enter Try.func40, Try.ntmps40
    go_wp2_with fail
    refine (speedC_yes s _ h0).mono ?_
    rintro e w' ⟨rfl, rfl⟩
    go_wp2_with fail
    refine (coordC_yes lo _ h1).mono ?_
    rintro e w' ⟨rfl, rfl⟩
    go_wp2_with fail
    refine (coordC_no hi _ h2).mono ?_
    rintro e w' ⟨rfl, rfl⟩
    go_wp2
    go_ret
    exact ⟨ret_bool HV.out, HB.out⟩
  have HV := Lib.hid (HE (decide (lo ≤ hi)) ⟨fun h => by have hh := of_decide_eq_true h; exact ⟨h0, h1, hh, h2.2⟩, fun h => decide_eq_true h.2.2.1⟩)
  clear HE
  go_enter Try.func40, Try.ntmps40
  go_wp2_with fail
  refine (speedC_yes s _ h0).mono ?_
  rintro e w' ⟨rfl, rfl⟩
  go_wp2_with fail
  refine (coordC_yes lo _ h1).mono ?_
  rintro e w' ⟨rfl, rfl⟩
  go_wp2_with fail
  refine (coordC_yes hi _ h2).mono ?_
  rintro e w' ⟨rfl, rfl⟩
  go_wp2
  go_ret
  exact ⟨ret_bool HV.out, HB.out⟩
set_option maxHeartbeats 1000000 in
theorem windowHas (s lo hi p : Int) (w : World) : Calls Try.prog 53 #[cv s lo hi, .int .i64 p] w fun e w' => e = .returned (.bool (decide (lo ≤ p ∧ p ≤ hi))) ∧ Below w.heap.size w w' := by
  have HB := Lib.hid (below_box w (.cells #[.int .i64 s, .int .i64 lo, .int .i64 hi] 56))
  have HE : ∀ b, (b = true ↔ lo ≤ p ∧ p ≤ hi) → b = decide (lo ≤ p ∧ p ≤ hi) := fun b h => by rw [Bool.eq_iff_iff, h]; simp
  by_cases h0 : lo ≤ p
  rotate_left
  · have HV := Lib.hid (HE false ⟨(fun h => by cases h), fun h => absurd h.1 h0⟩)
    have q0 : decide (lo ≤ p) = false := decide_eq_false h0
    clear HE
    generalize decide (lo ≤ p ∧ p ≤ hi) = d at *
    go_enter Try.func53, Try.ntmps53
    go_wp2
    go_ret
    exact ⟨ret_bool HV.out, HB.out⟩
  have HV := Lib.hid (HE (decide (p ≤ hi)) ⟨fun h => by have hh := of_decide_eq_true h; exact ⟨h0, hh⟩, fun h => decide_eq_true h.2⟩)
  clear HE
  go_enter Try.func53, Try.ntmps53
  go_wp2
  go_ret
  exact ⟨ret_bool HV.out, HB.out⟩
set_option maxHeartbeats 1000000 in
theorem l13Ok (s lo hi : Int) (w : World) : Calls Try.prog 44 #[.int .i64 s, .int .i64 lo, .int .i64 hi] w fun e w' => e = .returned (.bool (decide (okConv s lo hi))) ∧ w = w' := by
  have HE : ∀ b, (b = true ↔ okConv s lo hi) → b = decide (okConv s lo hi) := fun b h => by rw [Bool.eq_iff_iff, h]; simp
  by_cases h0 : 0 ≤ s ∧ s ≤ 200
  rotate_left
  · have HV := Lib.hid (HE false ⟨(fun h => by cases h), fun h => absurd h.1 h0⟩)
    clear HE
    go_enter Try.func44, Try.ntmps44
    go_wp2_with fail
    refine (l1In_no s 0 200 _ (by omega)).mono ?_
    rintro e w' ⟨rfl, rfl⟩
    go_wp2
    go_ret
    exact ⟨ret_bool HV.out, rfl⟩
  by_cases h1 : -10000 ≤ lo ∧ lo ≤ 10000
  rotate_left
  · have HV := Lib.hid (HE false ⟨(fun h => by cases h), fun h => absurd h.2.1 h1⟩)
    clear HE
    go_enter Try.func44, Try.ntmps44
    go_wp2_with fail
    refine (l1In_yes s 0 200 _ h0.1 h0.2).mono ?_
    rintro e w' ⟨rfl, rfl⟩
    go_wp2_with fail
    refine (l1In_no lo (-10000) 10000 _ (by omega)).mono ?_
    rintro e w' ⟨rfl, rfl⟩
    go_wp2
    go_ret
    exact ⟨ret_bool HV.out, rfl⟩
  by_cases h2 : lo ≤ hi ∧ hi ≤ 10000
  rotate_left
  · have HV := Lib.hid (HE false ⟨(fun h => by cases h), fun h => absurd h.2.2 h2⟩)
    clear HE
    go_enter Try.func44, Try.ntmps44
    go_wp2_with fail
    refine (l1In_yes s 0 200 _ h0.1 h0.2).mono ?_
    rintro e w' ⟨rfl, rfl⟩
    go_wp2_with fail
    refine (l1In_yes lo (-10000) 10000 _ h1.1 h1.2).mono ?_
    rintro e w' ⟨rfl, rfl⟩
    go_wp2_with fail
    refine (l1In_no hi lo 10000 _ (by omega)).mono ?_
    rintro e w' ⟨rfl, rfl⟩
    go_wp2
    go_ret
    exact ⟨ret_bool HV.out, rfl⟩
  have HV := Lib.hid (HE true ⟨fun _ => ⟨h0, h1, h2⟩, fun _ => rfl⟩)
  clear HE
  go_enter Try.func44, Try.ntmps44
  go_wp2_with fail
  refine (l1In_yes s 0 200 _ h0.1 h0.2).mono ?_
  rintro e w' ⟨rfl, rfl⟩
  go_wp2_with fail
  refine (l1In_yes lo (-10000) 10000 _ h1.1 h1.2).mono ?_
  rintro e w' ⟨rfl, rfl⟩
  go_wp2_with fail
  refine (l1In_yes hi lo 10000 _ h2.1 h2.2).mono ?_
  rintro e w' ⟨rfl, rfl⟩
  go_wp2
  go_ret
  exact ⟨ret_bool HV.out, rfl⟩
end Go.Proofs.Ytddndafddleelaa
