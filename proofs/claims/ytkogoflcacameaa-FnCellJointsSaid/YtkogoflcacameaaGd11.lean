/- Plain mathematics of grids: sizes, cells and their angles. -/
import Derived.Test.YtkogoflcacameaaBf11
import Derived.Test.YtkogoflcacameaaZbArm
namespace Go.Proofs.Ytkogoflcacameaa
set_option maxRecDepth 100000
/-- The number of cells of a joint. -/
def cellsN (lo hi : List Int) (step : Int) (i : Nat) : Int := (hi.getD i 0 - lo.getD i 0) / step + 1
/-- There is a grid. -/
def okGrid (ls lo hi : List Int) (step : Int) : Prop := okArm ls lo hi ∧ ls.length = 2 ∧ 1 ≤ step ∧ step ≤ 360 ∧ cellsN lo hi step 0 ≤ 20 ∧ cellsN lo hi step 1 ≤ 20
instance (ls lo hi : List Int) (step : Int) : Decidable (okGrid ls lo hi step) := by unfold okGrid; infer_instance
def gridX (ls lo hi : List Int) (step : Int) : Int := if okGrid ls lo hi step then cellsN lo hi step 0 else 0
def gridY (ls lo hi : List Int) (step : Int) : Int := if okGrid ls lo hi step then cellsN lo hi step 1 else 0
theorem gridX_in {ls lo hi : List Int} {step : Int} (h : okGrid ls lo hi step) : gridX ls lo hi step = cellsN lo hi step 0 := if_pos h
theorem gridY_in {ls lo hi : List Int} {step : Int} (h : okGrid ls lo hi step) : gridY ls lo hi step = cellsN lo hi step 1 := if_pos h
theorem gridX_out {ls lo hi : List Int} {step : Int} (h : ¬ okGrid ls lo hi step) : gridX ls lo hi step = 0 := if_neg h
theorem gridY_out {ls lo hi : List Int} {step : Int} (h : ¬ okGrid ls lo hi step) : gridY ls lo hi step = 0 := if_neg h
theorem arm_span {ls lo hi : List Int} (h : okArm ls lo hi) {k : Nat} (hk : k < ls.length) : -180 ≤ lo.getD k 0 ∧ lo.getD k 0 ≤ hi.getD k 0 ∧ hi.getD k 0 ≤ 180 := by
  have := h.2.2.2.2 k hk
  unfold okLink at this
  omega
theorem cellsN_pos {ls lo hi : List Int} {step : Int} (h : okArm ls lo hi) (h2 : ls.length = 2) (hs : 1 ≤ step) {k : Nat} (hk : k < 2) : 1 ≤ cellsN lo hi step k ∧ cellsN lo hi step k ≤ 361 := by
  have a := arm_span h (k := k) (by omega)
  have d0 : 0 ≤ (hi.getD k 0 - lo.getD k 0) / step := Int.ediv_nonneg (by omega) (by omega)
  have d1 : (hi.getD k 0 - lo.getD k 0) / step ≤ hi.getD k 0 - lo.getD k 0 := Int.ediv_le_self _ (by omega)
  unfold cellsN
  omega
theorem cellsN_coarser {ls lo hi : List Int} {step step' : Int} (h : okArm ls lo hi) (h2 : ls.length = 2) (hs : 1 ≤ step) (hss : step ≤ step') {k : Nat} (hk : k < 2) : cellsN lo hi step' k ≤ cellsN lo hi step k := by
  have a := arm_span h (k := k) (by omega)
  have d : (hi.getD k 0 - lo.getD k 0) / step' ≤ (hi.getD k 0 - lo.getD k 0) / step := by
    refine Int.le_ediv_of_mul_le (by omega) ?_
    have e0 : 0 ≤ (hi.getD k 0 - lo.getD k 0) / step' := Int.ediv_nonneg (by omega) (by omega)
    have e1 := Int.ediv_mul_le (hi.getD k 0 - lo.getD k 0) (show step' ≠ 0 by omega)
    have e2 := Int.mul_le_mul_of_nonneg_left hss e0
    omega
  unfold cellsN
  omega
/-- A coarser grid has no more cells, and at least one. -/
theorem grid_coarser {ls lo hi : List Int} {step step' : Int} (h : okGrid ls lo hi step) (hss : step ≤ step') (h36 : step' ≤ 360) :
    okGrid ls lo hi step' ∧ 1 ≤ gridX ls lo hi step' ∧ 1 ≤ gridY ls lo hi step' ∧ gridX ls lo hi step' ≤ gridX ls lo hi step ∧ gridY ls lo hi step' ≤ gridY ls lo hi step := by
  obtain ⟨h1, h2, h3, h4, h5, h6⟩ := id h
  have c0 := cellsN_coarser h1 h2 h3 hss (k := 0) (by omega)
  have c1 := cellsN_coarser h1 h2 h3 hss (k := 1) (by omega)
  have p0 := (cellsN_pos h1 h2 (step := step') (by omega) (k := 0) (by omega)).1
  have p1 := (cellsN_pos h1 h2 (step := step') (by omega) (k := 1) (by omega)).1
  have k : okGrid ls lo hi step' := ⟨h1, h2, by omega, h36, by omega, by omega⟩
  rw [gridX_in k, gridY_in k, gridX_in h, gridY_in h]
  exact ⟨k, p0, p1, c0, c1⟩
theorem grid_pos {ls lo hi : List Int} {step : Int} (h : okGrid ls lo hi step) : 1 ≤ gridX ls lo hi step ∧ gridX ls lo hi step ≤ 20 ∧ 1 ≤ gridY ls lo hi step ∧ gridY ls lo hi step ≤ 20 := by
  obtain ⟨h1, h2, h3, h4, h5, h6⟩ := id h
  rw [gridX_in h, gridY_in h]
  exact ⟨(cellsN_pos h1 h2 h3 (k := 0) (by omega)).1, h5, (cellsN_pos h1 h2 h3 (k := 1) (by omega)).1, h6⟩
/-- There is such a cell. -/
def okCell (ls lo hi : List Int) (step : Int) (c : C2) : Prop := okGrid ls lo hi step ∧ 0 ≤ c.1 ∧ c.1 < cellsN lo hi step 0 ∧ 0 ≤ c.2 ∧ c.2 < cellsN lo hi step 1
instance (ls lo hi : List Int) (step : Int) (c : C2) : Decidable (okCell ls lo hi step c) := by unfold okCell; infer_instance
/-- The angles of a cell. -/
def angL (lo : List Int) (step : Int) (c : C2) : List Int := [lo.getD 0 0 + c.1 * step, lo.getD 1 0 + c.2 * step]
def jointsV (ls lo hi : List Int) (step : Int) (c : C2) : List Int := if okCell ls lo hi step c then angL lo step c else []
theorem jointsV_in {ls lo hi : List Int} {step : Int} {c : C2} (h : okCell ls lo hi step c) : jointsV ls lo hi step c = angL lo step c := if_pos h
theorem jointsV_out {ls lo hi : List Int} {step : Int} {c : C2} (h : ¬ okCell ls lo hi step c) : jointsV ls lo hi step c = [] := if_neg h
theorem cell_span {x n step : Int} (h0 : 0 ≤ x) (h1 : x < n / step + 1) (hs : 1 ≤ step) : 0 ≤ x * step ∧ x * step ≤ n := by
  refine ⟨Int.mul_nonneg h0 (by omega), ?_⟩
  have e1 := Int.ediv_mul_le n (show step ≠ 0 by omega)
  have e2 := Int.mul_le_mul_of_nonneg_right (show x ≤ n / step by omega) (show 0 ≤ step by omega)
  omega
/-- The angles of a cell are valid. -/
theorem cell_okJoints {ls lo hi : List Int} {step : Int} {c : C2} (h : okCell ls lo hi step c) : okJoints ls lo hi (angL lo step c) := by
  obtain ⟨⟨h1, h2, h3, h4, h5, h6⟩, c1, c2, c3, c4⟩ := h
  have a0 := arm_span h1 (k := 0) (by omega)
  have a1 := arm_span h1 (k := 1) (by omega)
  unfold cellsN at c2 c4
  have s0 := cell_span c1 c2 h3
  have s1 := cell_span c3 c4 h3
  refine ⟨h1, by rw [h2]; rfl, fun k hk => ?_⟩
  have hk' : k < 2 := hk
  have : k = 0 ∨ k = 1 := by omega
  rcases this with rfl | rfl
  · show lo.getD 0 0 ≤ lo.getD 0 0 + c.1 * step ∧ lo.getD 0 0 + c.1 * step ≤ hi.getD 0 0
    omega
  · show lo.getD 1 0 ≤ lo.getD 1 0 + c.2 * step ∧ lo.getD 1 0 + c.2 * step ≤ hi.getD 1 0
    omega
theorem cell_zero {ls lo hi : List Int} {step : Int} (h : okGrid ls lo hi step) : okCell ls lo hi step (0, 0) ∧ angL lo step (0, 0) = lo := by
  obtain ⟨h1, h2, h3, h4, h5, h6⟩ := id h
  have p0 := (cellsN_pos h1 h2 h3 (k := 0) (by omega)).1
  have p1 := (cellsN_pos h1 h2 h3 (k := 1) (by omega)).1
  refine ⟨⟨h, by simp only; omega, by simp only; omega, by simp only; omega, by simp only; omega⟩, ?_⟩
  have hl : lo.length = 2 := by rw [h1.2.2.1, h2]
  match lo, hl with
  | [a, b], _ => simp [angL]
end Go.Proofs.Ytkogoflcacameaa
