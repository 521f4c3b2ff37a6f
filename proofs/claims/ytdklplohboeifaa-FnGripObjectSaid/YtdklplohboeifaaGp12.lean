/- The program's gripper: a valid one, a step of its fingers, the time to rest. -/
import Derived.Test.YtdklplohboeifaaNum12
import Derived.Test.YtdklplohboeifaaBase
import Derived.Test.YtdklplohboeifaaPts
import Derived.Below
import Derived.Outline
import Derived.Deep.RegionHeld3
import Derived.Deep.AppendLies
import Derived.Deep.QuietTactic
import Derived.BigQuiet
import Derived.Deep.DrawnRows
import Derived.Deep.DeepCutAuto
import Derived.Deep.RegionWith
import Derived.StillTailTactics
namespace Go.Proofs.Ytdklplohboeifaa
set_option maxRecDepth 100000
open Go.RowKit
attribute [local go_sem ↓] Go.wp_at_zero Go.wp_at_succ
/-- A gripper as a value. -/
abbrev gpr (w t s o : Int) : Value := .agg #[.int .i64 w, .int .i64 t, .int .i64 s, .int .i64 o]
/-- A gripper's box. -/
structure At4 (w : World) (b : Nat) (x y z t : Int) : Prop where
  lt : b < w.heap.size
  c0 : w.cell? ⟨b, 0, none⟩ = some (.int .i64 x)
  c1 : w.cell? ⟨b, 1, none⟩ = some (.int .i64 y)
  c2 : w.cell? ⟨b, 2, none⟩ = some (.int .i64 z)
  c3 : w.cell? ⟨b, 3, none⟩ = some (.int .i64 t)
  f0 : w.frozen? ⟨b, 0, none⟩ = false
  f1 : w.frozen? ⟨b, 1, none⟩ = false
  f2 : w.frozen? ⟨b, 2, none⟩ = false
  f3 : w.frozen? ⟨b, 3, none⟩ = false
theorem At4.new (w : World) (x y z t : Int) (T : TypeId) : At4 (w.alloc (.cells #[.int .i64 x, .int .i64 y, .int .i64 z, .int .i64 t] T)) w.heap.size x y z t := by
  refine ⟨by simp, ?_, ?_, ?_, ?_, World.frozen?_alloc_at _ _ _ _ rfl, World.frozen?_alloc_at _ _ _ _ rfl, World.frozen?_alloc_at _ _ _ _ rfl, World.frozen?_alloc_at _ _ _ _ rfl⟩ <;>
  (rw [World.cell?_alloc_at _ _ _ _ rfl]; rfl)
theorem At4.next {w w' : World} {b : Nat} {x y z t : Int} (h : At4 w b x y z t) (hb : Below w.heap.size w w') : At4 w' b x y z t :=
  ⟨Nat.lt_of_lt_of_le h.lt hb.size, (hb.cell (p := ⟨b, 0, none⟩) h.lt).trans h.c0, (hb.cell (p := ⟨b, 1, none⟩) h.lt).trans h.c1, (hb.cell (p := ⟨b, 2, none⟩) h.lt).trans h.c2, (hb.cell (p := ⟨b, 3, none⟩) h.lt).trans h.c3,
    (hb.frozen (p := ⟨b, 0, none⟩) h.lt).trans h.f0, (hb.frozen (p := ⟨b, 1, none⟩) h.lt).trans h.f1, (hb.frozen (p := ⟨b, 2, none⟩) h.lt).trans h.f2, (hb.frozen (p := ⟨b, 3, none⟩) h.lt).trans h.f3⟩
/-- Four cells written. -/
def set4 (w : World) (b : Nat) (x y z t : Int) : World := (((w.setCell ⟨b, 0, none⟩ (.int .i64 x)).setCell ⟨b, 1, none⟩ (.int .i64 y)).setCell ⟨b, 2, none⟩ (.int .i64 z)).setCell ⟨b, 3, none⟩ (.int .i64 t)
theorem At4.far1 {w : World} {b c o : Nat} {x y z t : Int} (h : At4 w b x y z t) (hc : c ≠ b) (v : Value) : At4 (w.setCell ⟨c, o, none⟩ v) b x y z t :=
  ⟨by simpa [World.setCell] using h.lt, (World.cell?_setCell_far _ _ _ _ hc).trans h.c0, (World.cell?_setCell_far _ _ _ _ hc).trans h.c1, (World.cell?_setCell_far _ _ _ _ hc).trans h.c2, (World.cell?_setCell_far _ _ _ _ hc).trans h.c3,
    (World.frozen?_setCell _ _ _ _).trans h.f0, (World.frozen?_setCell _ _ _ _).trans h.f1, (World.frozen?_setCell _ _ _ _).trans h.f2, (World.frozen?_setCell _ _ _ _).trans h.f3⟩
theorem At4.far {w : World} {b c : Nat} {x y z t x' y' z' t' : Int} (h : At4 w b x y z t) (hc : c ≠ b) : At4 (set4 w c x' y' z' t') b x y z t :=
  (((h.far1 hc _).far1 hc _).far1 hc _).far1 hc _
theorem At4.put {w : World} {b : Nat} {x y z t x' y' z' t' : Int} (h : At4 w b x y z t) : At4 (set4 w b x' y' z' t') b x' y' z' t' := by
  have a0 := World.cell?_setCell_same w ⟨b, 0, none⟩ (.int .i64 x') h.c0
  have g1 := (World.cell?_setCell_other w ⟨b, 0, none⟩ ⟨b, 1, none⟩ (.int .i64 x') (by simp)).trans h.c1
  have g2 := (World.cell?_setCell_other w ⟨b, 0, none⟩ ⟨b, 2, none⟩ (.int .i64 x') (by simp)).trans h.c2
  have g3 := (World.cell?_setCell_other w ⟨b, 0, none⟩ ⟨b, 3, none⟩ (.int .i64 x') (by simp)).trans h.c3
  generalize hw1 : w.setCell ⟨b, 0, none⟩ (.int .i64 x') = w1 at *
  have b0 := (World.cell?_setCell_other w1 ⟨b, 1, none⟩ ⟨b, 0, none⟩ (.int .i64 y') (by simp)).trans a0
  have b1 := World.cell?_setCell_same w1 ⟨b, 1, none⟩ (.int .i64 y') g1
  have h2 := (World.cell?_setCell_other w1 ⟨b, 1, none⟩ ⟨b, 2, none⟩ (.int .i64 y') (by simp)).trans g2
  have h3 := (World.cell?_setCell_other w1 ⟨b, 1, none⟩ ⟨b, 3, none⟩ (.int .i64 y') (by simp)).trans g3
  generalize hw2 : w1.setCell ⟨b, 1, none⟩ (.int .i64 y') = w2 at *
  have k0 := (World.cell?_setCell_other w2 ⟨b, 2, none⟩ ⟨b, 0, none⟩ (.int .i64 z') (by simp)).trans b0
  have k1 := (World.cell?_setCell_other w2 ⟨b, 2, none⟩ ⟨b, 1, none⟩ (.int .i64 z') (by simp)).trans b1
  have k2 := World.cell?_setCell_same w2 ⟨b, 2, none⟩ (.int .i64 z') h2
  have k3 := (World.cell?_setCell_other w2 ⟨b, 2, none⟩ ⟨b, 3, none⟩ (.int .i64 z') (by simp)).trans h3
  have hs : set4 w b x' y' z' t' = (w2.setCell ⟨b, 2, none⟩ (.int .i64 z')).setCell ⟨b, 3, none⟩ (.int .i64 t') := by unfold set4; rw [hw1, hw2]
  have fr : ∀ o, w.frozen? ⟨b, o, none⟩ = false → (set4 w b x' y' z' t').frozen? ⟨b, o, none⟩ = false := fun o ho =>
    ((((World.frozen?_setCell _ _ _ _).trans (World.frozen?_setCell _ _ _ _)).trans (World.frozen?_setCell _ _ _ _)).trans (World.frozen?_setCell _ _ _ _)).trans ho
  refine ⟨by simpa [set4, World.setCell] using h.lt, ?_, ?_, ?_, ?_, fr 0 h.f0, fr 1 h.f1, fr 2 h.f2, fr 3 h.f3⟩ <;> rw [hs]
  · exact (World.cell?_setCell_other _ ⟨b, 3, none⟩ ⟨b, 0, none⟩ _ (by simp)).trans k0
  · exact (World.cell?_setCell_other _ ⟨b, 3, none⟩ ⟨b, 1, none⟩ _ (by simp)).trans k1
  · exact (World.cell?_setCell_other _ ⟨b, 3, none⟩ ⟨b, 2, none⟩ _ (by simp)).trans k2
  · exact World.cell?_setCell_same _ ⟨b, 3, none⟩ _ k3
theorem below_set4 {w u : World} {B b : Nat} (h : Below B w u) (hb : B ≤ b) (x y z t : Int) : Below B w (set4 u b x y z t) :=
  (((h.setCell (p := ⟨b, 0, none⟩) hb _).setCell (p := ⟨b, 1, none⟩) hb _).setCell (p := ⟨b, 2, none⟩) hb _).setCell (p := ⟨b, 3, none⟩) hb _
theorem set4_size (w : World) (b : Nat) (x y z t : Int) : (set4 w b x y z t).heap.size = w.heap.size := by simp [set4, World.setCell]
theorem openingC (v : Int) (w : World) : Calls Try.prog 31 #[.int .i64 v] w fun e w' => e = .returned (.bool (decide (0 ≤ v ∧ v ≤ 200))) ∧ w = w' := by
  by_cases h0 : 0 ≤ v
  · have HE := Lib.hid (show decide (v ≤ 200) = decide (0 ≤ v ∧ v ≤ 200) by rw [Bool.eq_iff_iff]; simp [h0])
    go_enter Try.func31, Try.ntmps31
    go_wp2
    go_ret
    exact ⟨ret_bool HE.out, rfl⟩
  · have HE := Lib.hid (show false = decide (0 ≤ v ∧ v ≤ 200) from (decide_eq_false (fun q => h0 q.1)).symm)
    have q1 : decide (0 ≤ v) = false := decide_eq_false h0
    generalize decide (0 ≤ v ∧ v ≤ 200) = d at *
    go_enter Try.func31, Try.ntmps31
    go_wp2
    go_ret
    exact ⟨ret_bool HE.out, rfl⟩
theorem opening_yes (v : Int) (w : World) (h : 0 ≤ v ∧ v ≤ 200) : Calls Try.prog 31 #[.int .i64 v] w fun e w' => e = .returned (.bool true) ∧ w = w' := by
  have := openingC v w
  rwa [decide_eq_true h] at this
theorem opening_no (v : Int) (w : World) (h : ¬ (0 ≤ v ∧ v ≤ 200)) : Calls Try.prog 31 #[.int .i64 v] w fun e w' => e = .returned (.bool false) ∧ w = w' := by
  have := openingC v w
  rwa [decide_eq_false h] at this
set_option maxHeartbeats 1000000 in
theorem gripValid (x t s o : Int) (w : World) : Calls Try.prog 23 #[gpr x t s o] w fun e w' => e = .returned (.bool (decide (okGrip x t s o))) ∧ Below w.heap.size w w' := by
  have HB := Lib.hid (below_box w (.cells #[.int .i64 x, .int .i64 t, .int .i64 s, .int .i64 o] 39))
  have HA := Lib.hid (At4.new w x t s o 39)
  have HE : ∀ b, (b = true ↔ okGrip x t s o) → b = decide (okGrip x t s o) := fun b h => by rw [Bool.eq_iff_iff, h]; simp
  by_cases h1 : 0 ≤ x ∧ x ≤ 200
  rotate_left
  · have HV := Lib.hid (HE false ⟨(fun h => by cases h), fun h => absurd h.1 h1⟩)
    clear HE
    go_enter Try.func23, Try.ntmps23
    go_wp2_with fail
    refine (opening_no x _ h1).mono ?_
    rintro e w' ⟨rfl, rfl⟩
    go_wp2
    go_ret
    exact ⟨ret_bool HV.out, HB.out⟩
  by_cases h2 : 0 ≤ t ∧ t ≤ 200
  rotate_left
  · have HV := Lib.hid (HE false ⟨(fun h => by cases h), fun h => absurd h.2.1 h2⟩)
    clear HE
    go_enter Try.func23, Try.ntmps23
    go_wp2_with fail
    refine (opening_yes x _ h1).mono ?_
    rintro e w' ⟨rfl, rfl⟩
    go_wp2_with fail
    refine (opening_no t _ h2).mono ?_
    rintro e w' ⟨rfl, rfl⟩
    go_wp2
    go_ret
    exact ⟨ret_bool HV.out, HB.out⟩
  by_cases h3 : 0 ≤ o ∧ o ≤ 200
  rotate_left
  · have HV := Lib.hid (HE false ⟨(fun h => by cases h), fun h => absurd h.2.2.1 h3⟩)
    clear HE
    go_enter Try.func23, Try.ntmps23
    go_wp2_with fail
    refine (opening_yes x _ h1).mono ?_
    rintro e w' ⟨rfl, rfl⟩
    go_wp2_with fail
    refine (opening_yes t _ h2).mono ?_
    rintro e w' ⟨rfl, rfl⟩
    go_wp2_with fail
    refine (opening_no o _ h3).mono ?_
    rintro e w' ⟨rfl, rfl⟩
    go_wp2
    go_ret
    exact ⟨ret_bool HV.out, HB.out⟩
  by_cases h4 : 1 ≤ s
  · have HV := Lib.hid (HE (decide (s ≤ 200)) ⟨fun h => ⟨h1, h2, h3, h4, by simpa using h⟩, fun h => by simpa using h.2.2.2.2⟩)
    clear HE
    go_enter Try.func23, Try.ntmps23
    go_wp2_with fail
    refine (opening_yes x _ h1).mono ?_
    rintro e w' ⟨rfl, rfl⟩
    go_wp2_with fail
    refine (opening_yes t _ h2).mono ?_
    rintro e w' ⟨rfl, rfl⟩
    go_wp2_with fail
    refine (opening_yes o _ h3).mono ?_
    rintro e w' ⟨rfl, rfl⟩
    go_wp2
    go_ret
    exact ⟨ret_bool HV.out, HB.out⟩
  · have HV := Lib.hid (HE false ⟨(fun h => by cases h), fun h => absurd h.2.2.2.1 h4⟩)
    have q1 : decide (1 ≤ s) = false := decide_eq_false h4
    clear HE
    go_enter Try.func23, Try.ntmps23
    go_wp2_with fail
    refine (opening_yes x _ h1).mono ?_
    rintro e w' ⟨rfl, rfl⟩
    go_wp2_with fail
    refine (opening_yes t _ h2).mono ?_
    rintro e w' ⟨rfl, rfl⟩
    go_wp2_with fail
    refine (opening_yes o _ h3).mono ?_
    rintro e w' ⟨rfl, rfl⟩
    go_wp2
    go_ret
    exact ⟨ret_bool HV.out, HB.out⟩
set_option maxHeartbeats 2000000 in
theorem gripStep (x t s o : Int) (w : World) (h : okGrip x t s o) : Calls Try.prog 24 #[gpr x t s o] w fun e w' => e = .returned (gpr (gripN x t s o) t s o) ∧ Below w.heap.size w w' := by
  have HB := Lib.hid (fun (p q r k p' q' r' k' : Int) => below_box2 w (.cells #[.int .i64 p, .int .i64 q, .int .i64 r, .int .i64 k] 39) (.cells #[.int .i64 p', .int .i64 q', .int .i64 r', .int .i64 k'] 39))
  obtain ⟨h1, h2, h3, h4⟩ := h
  by_cases hx : o ≤ x
  · have HE := Lib.hid (show gripN x t s o = max (min (max t (x - s)) (x + s)) o from if_pos hx)
    go_enter Try.func24, Try.ntmps24
    go_wp2
    all_goals
      refine bodyPost_ret (v := gpr (gripN x t s o) t s o) ?_ rfl ⟨rfl, HB.out _ _ _ _ _ _ _ _⟩
      simp [results, Try.results24, go_sem]
      have e := HE.out
      clear HE HB
      repeat' split at *
      all_goals omega
  · have HE := Lib.hid (show gripN x t s o = min (max t (x - s)) (x + s) from if_neg hx)
    go_enter Try.func24, Try.ntmps24
    go_wp2
    all_goals
      refine bodyPost_ret (v := gpr (gripN x t s o) t s o) ?_ rfl ⟨rfl, HB.out _ _ _ _ _ _ _ _⟩
      simp [results, Try.results24, go_sem]
      have e := HE.out
      clear HE HB
      repeat' split at *
      all_goals omega
theorem gripHolds (x t s o : Int) (w : World) (h : okGrip x t s o) : Calls Try.prog 25 #[gpr (gripN x t s o) t s o] w fun e w' => e = .returned (.bool (gripH x t s o)) ∧ Below w.heap.size w w' := by
  have HB := Lib.hid (fun p : Int => below_box w (.cells #[.int .i64 p, .int .i64 t, .int .i64 s, .int .i64 o] 39))
  obtain ⟨n, hn⟩ : ∃ n, gripN x t s o = n := ⟨_, rfl⟩
  by_cases hq : n = o
  · have HE := Lib.hid (show decide (t < o) = gripH x t s o by
      obtain ⟨h1, h2, h3, h4⟩ := id h
      unfold gripH
      rw [hn, Bool.eq_iff_iff]
      simp only [decide_eq_true_eq]
      exact ⟨fun k => ⟨h, by omega, hq, k⟩, fun k => k.2.2.2⟩)
    rw [hn]
    clear hn
    have e1 : (n == o) = true := by simp [hq]
    clear hq h
    go_enter Try.func25, Try.ntmps25
    go_wp2
    go_ret
    exact ⟨ret_bool HE.out, HB.out _⟩
  · have HE := Lib.hid (show false = gripH x t s o by
      unfold gripH
      rw [hn]
      exact (decide_eq_false (fun k => hq k.2.2.1)).symm)
    rw [hn]
    clear hn
    have e1 : (n == o) = false := by simp [hq]
    clear hq h
    go_enter Try.func25, Try.ntmps25
    go_wp2
    go_ret
    exact ⟨ret_bool HE.out, HB.out _⟩
set_option maxHeartbeats 2000000 in
theorem gripRest (x t s o : Int) (w : World) (h : okGrip x t s o) : Calls Try.prog 29 #[gpr x t s o] w fun e w' => e = .returned (.int .i64 (gripT x t s o)) ∧ Below w.heap.size w w' := by
  have A0 := At4.new w x t s o 39
  have B0 := Lib.hid (below_box w (.cells #[.int .i64 x, .int .i64 t, .int .i64 s, .int .i64 o] 39))
  obtain ⟨T0, hT0⟩ : ∃ T0, gripT x t s o = T0 := ⟨_, rfl⟩
  have HT := Lib.hid hT0
  rw [hT0]
  clear hT0
  go_enter Try.func29, Try.ntmps29
  go_upto_region 2 with fail
  generalize w.alloc (.cells #[.int .i64 x, .int .i64 t, .int .i64 s, .int .i64 o] 39) = w1 at *
  obtain ⟨_, c0, c1, c2, c3, _, _, _, _⟩ := id A0
  go_wp2_with fail
  refine (gripStep x t s o _ h).mono ?_
  rintro e w2 ⟨rfl, B2⟩
  have A2 := A0.next B2
  have HB2 := Lib.hid (below_call B0.out B2)
  have N2 := At4.new w2 (gripN x t s o) t s o 39
  have A3 := A2.next (below_box w2 (.cells #[.int .i64 (gripN x t s o), .int .i64 t, .int .i64 s, .int .i64 o] 39))
  have HB3 := Lib.hid (below_call HB2.out (below_box w2 (.cells #[.int .i64 (gripN x t s o), .int .i64 t, .int .i64 s, .int .i64 o] 39)))
  have HTL := Lib.hid (gripT_le h)
  obtain ⟨nb, hnb⟩ : ∃ nb, w2.heap.size = nb := ⟨_, rfl⟩
  rw [hnb] at N2
  have hlt : w.heap.size < nb := by have := A2.lt; omega
  clear A2 A0 B0 B2 HB2 c0 c1 c2 c3
  go_wp2
  clear hnb
  generalize w2.alloc (.cells #[.int .i64 (gripN x t s o), .int .i64 t, .int .i64 s, .int .i64 o] 39) = w3 at *
  go_loopw [3, 4] (fun st np wr => ∃ (k nb : Nat) (W : Int), st = .int .i64 (k : Int) ∧ np = .pointer (some ⟨nb, 0, none⟩) ∧ nb ≠ w.heap.size ∧ w.heap.size ≤ nb ∧ okGrip W t s o ∧ Hid ((k : Int) + gripT W t s o = T0) ∧ At4 wr w.heap.size W t s o ∧ At4 wr nb (gripN W t s o) t s o ∧ Hid (Below w.heap.size w wr)) (fun _ _ wr => match wr.cell? ⟨w.heap.size, 0, none⟩ with | some v => farW (intOf v) t o | none => 0)
  case atStart => exact ⟨0, nb, x, rfl, rfl, by omega, by omega, h, Lib.hid (by have := HT.out; omega), A3, N2, HB3⟩
  case round =>
    obtain ⟨k, nb, W, rfl, rfl, hne, hge, hW, HK, AG, AN, HW⟩ := hrel
    clear A3 N2 HB3 h
    obtain ⟨_, c0, c1, c2, c3, f0, f1, f2, f3⟩ := id AG
    obtain ⟨_, d0, d1, d2, d3, g0, g1, g2, g3⟩ := id AN
    have HM := Lib.hid c0
    have hT := gripT_le hW
    have hT0 := gripT_nonneg hW
    obtain ⟨n, hn⟩ : ∃ n, gripN W t s o = n := ⟨_, rfl⟩
    have HN := Lib.hid hn
    have hk : (k : Int) ≤ 1000 := by have := HK.out; have := HT.out; have := HTL.out; omega
    rw [hn] at d0
    by_cases hq : n = W
    · have e1 : (n == W) = true := by simp [hq]
      have HR := Lib.hid (show (k : Int) = T0 by have := HK.out; have := gripT_rest hW (hn.trans hq); omega)
      clear hn hq AN AG hT hT0
      go_wp2_with fail
      go_ret
      exact ⟨ret_int HR.out, HW.out⟩
    · have e1 : (n == W) = false := by simp [hq]
      have HS := Lib.hid (gripT_step hW (fun e => hq (hn.symm.trans e)))
      have HF := Lib.hid (show farW n t o < farW W t o by
        have q1 := farW_step hW
        have q2 := farW_rest hW
        have q3 := hW.2.2.2
        rw [hn] at q1 q2
        omega)
      have hWn : okGrip n t s o := hn ▸ gripN_ok hW
      rw [hn] at AN
      have P1 : At4 (set4 wr w.heap.size n t s o) w.heap.size n t s o := AG.put
      have Q1 := below_set4 HW.out (Nat.le_refl _) n t s o
      have X1 := below_box (set4 wr w.heap.size n t s o) (.cells #[.int .i64 n, .int .i64 t, .int .i64 s, .int .i64 o] 39)
      have P2 := P1.next X1
      have N2 := At4.new (set4 wr w.heap.size n t s o) n t s o 39
      rw [set4_size] at N2
      have Q2 := below_call Q1 X1
      have hlt : w.heap.size < wr.heap.size := AG.lt
      clear hn hT hT0 P1 Q1 X1 AG AN
      go_wp2_with fail
      refine (gripStep n t s o _ hWn).mono ?_
      change At4 ((((((wr.setCell _ _).setCell _ _).setCell _ _).setCell _ _).alloc _)) _ _ _ _ _ at P2 N2
      change Below _ _ ((((((wr.setCell _ _).setCell _ _).setCell _ _).setCell _ _).alloc _)) at Q2
      generalize (World.alloc _ _) = w4 at *
      rintro e w5 ⟨rfl, B5⟩
      have P3 := P2.next B5
      have N3 := N2.next B5
      have HQ := Lib.hid (below_call Q2 B5)
      have HG := Lib.hid (P3.far (c := wr.heap.size) (x' := gripN n t s o) (y' := t) (z' := s) (t' := o) (by omega))
      have HNN := Lib.hid (N3.put (x' := gripN n t s o) (y' := t) (z' := s) (t' := o))
      have HQ2 := Lib.hid (below_set4 HQ.out (show w.heap.size ≤ wr.heap.size by omega) (gripN n t s o) t s o)
      clear c0 c1 c2 c3 f0 f1 f2 f3 d0 d1 d2 d3 g0 g1 g2 g3 P2 N2 Q2 B5 P3
      obtain ⟨_, d0, d1, d2, d3, g0, g1, g2, g3⟩ := id N3
      go_wp2
      go_roundw
      case rel => exact ⟨k + 1, wr.heap.size, n, by congr 1, rfl, by omega, by omega, hWn, Lib.hid (by have := HK.out; have := HS.out; rw [HN.out] at this; omega), HG.out, HNN.out, HQ2.out⟩
      case measure =>
        have m1 := HG.out.c0
        unfold set4 at m1
        rw [m1, HM.out]
        exact HF.out
end Go.Proofs.Ytdklplohboeifaa
