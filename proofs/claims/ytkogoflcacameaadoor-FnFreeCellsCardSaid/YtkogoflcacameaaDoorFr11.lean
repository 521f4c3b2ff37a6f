/- Plain mathematics: the cells that are free of obstacles; planned paths over them have no contact. -/
import Derived.Test.YtkogoflcacameaaDoorZc11m
import Derived.Test.YtkogoflcacameaaDoorZb10c
namespace Go.Proofs.YtkogoflcacameaaDoor
set_option maxRecDepth 100000
/-- Which cells are free of obstacles. -/
noncomputable def freeT (ls lo hi : List Int) (step : Int) (pss : List (List P2)) : List (List Bool) :=
  @ite _ (okGrid ls lo hi step ∧ scnV pss) (Classical.propDecidable _) ((List.range (cellsN lo hi step 0).toNat).map fun (i : Nat) => (List.range (cellsN lo hi step 1).toNat).map fun (j : Nat) => @decide (clrV pss (ptsL ls (angL lo step ((i : Int), (j : Int))))) (Classical.propDecidable _)) []
theorem freeT_out {ls lo hi : List Int} {step : Int} {pss : List (List P2)} (h : ¬ (okGrid ls lo hi step ∧ scnV pss)) : freeT ls lo hi step pss = [] := if_neg h
theorem freeT_len {ls lo hi : List Int} {step : Int} {pss : List (List P2)} (h : okGrid ls lo hi step ∧ scnV pss) : (freeT ls lo hi step pss).length = (cellsN lo hi step 0).toNat := by
  unfold freeT; rw [if_pos h, List.length_map, List.length_range]
theorem freeT_row {ls lo hi : List Int} {step : Int} {pss : List (List P2)} (h : okGrid ls lo hi step ∧ scnV pss) {i : Nat} (hi2 : i < (cellsN lo hi step 0).toNat) :
    rowB (freeT ls lo hi step pss) i = (List.range (cellsN lo hi step 1).toNat).map fun (j : Nat) => @decide (clrV pss (ptsL ls (angL lo step ((i : Int), (j : Int))))) (Classical.propDecidable _) := by
  unfold freeT rowB
  rw [if_pos h, List.getD_eq_getElem?_getD, List.getElem?_map, List.getElem?_range hi2]
  rfl
theorem freeT_at {ls lo hi : List Int} {step : Int} {pss : List (List P2)} (h : okGrid ls lo hi step ∧ scnV pss) {i j : Nat} (hi2 : i < (cellsN lo hi step 0).toNat) (hj : j < (cellsN lo hi step 1).toNat) :
    (rowB (freeT ls lo hi step pss) i).getD j false = @decide (clrV pss (ptsL ls (angL lo step ((i : Int), (j : Int))))) (Classical.propDecidable _) := by
  rw [freeT_row h hi2, List.getD_eq_getElem?_getD, List.getElem?_map, List.getElem?_range hj]
  rfl
/-- A free cell's angles are valid, and there is no contact. -/
theorem freeT_free {ls lo hi : List Int} {step : Int} {pss : List (List P2)} {c : C2} (h : freeV (freeT ls lo hi step pss) c = true) : okCell ls lo hi step c ∧ okRow ls lo hi pss (angL lo step c) := by
  obtain ⟨h1, h2, h3, h4, h5⟩ := freeV_iff.1 h
  by_cases k : okGrid ls lo hi step ∧ scnV pss
  · rw [freeT_len k] at h2
    have hi2 : c.1.toNat < (cellsN lo hi step 0).toNat := by omega
    rw [freeT_row k hi2, List.length_map, List.length_range] at h4
    have hj : c.2.toNat < (cellsN lo hi step 1).toNat := by omega
    rw [freeT_at k hi2 hj, show (((c.1.toNat : Nat) : Int), ((c.2.toNat : Nat) : Int)) = c from Prod.ext (by simp only; omega) (by simp only; omega)] at h5
    have hc : okCell ls lo hi step c := ⟨k.1, h1, by omega, h3, by omega⟩
    exact ⟨hc, cell_okJoints hc, @of_decide_eq_true _ (Classical.propDecidable _) h5⟩
  · rw [freeT_out k] at h2
    simp at h2; omega
theorem firstV_all {good : List Int → Prop} : ∀ (rows : List (List Int)) (k : Int), (∀ r ∈ rows, good r) → firstV good rows k = -1
  | [], _, _ => rfl
  | r :: rs, k, h => by
    unfold firstV
    rw [if_pos (h r (List.mem_cons_self))]
    exact firstV_all rs (k + 1) fun q hq => h q (List.mem_cons_of_mem _ hq)
/-- The angles of the cells of a planned path have no contact. -/
theorem path_clear {ls lo hi : List Int} {step : Int} {pss : List (List P2)} {a b : C2} (hg : okGrid ls lo hi step ∧ scnV pss) :
    fcV ls lo hi ((planV (freeT ls lo hi step pss) a b).map fun c => jointsV ls lo hi step c) pss = -1 := by
  have hl : (planV (freeT ls lo hi step pss) a b).length ≤ 400 := by
    by_cases e : planV (freeT ls lo hi step pss) a b = []
    · rw [e]; exact Nat.zero_le _
    · exact (plan_valid e).2.2.1
  unfold fcV
  rw [if_pos ⟨hg.1.1, hg.2, by rw [List.length_map]; exact hl⟩]
  refine firstV_all _ _ fun r hr => ?_
  obtain ⟨c, hc, rfl⟩ := List.mem_map.1 hr
  by_cases e : planV (freeT ls lo hi step pss) a b = []
  · rw [e] at hc; cases hc
  · obtain ⟨i, hi2, hic⟩ := List.getElem_of_mem hc
    have hf := (plan_valid e).2.2.2.1 i hi2
    rw [List.getD_eq_getElem?_getD, List.getElem?_eq_getElem hi2, hic] at hf
    obtain ⟨h1, h2⟩ := freeT_free (c := c) hf
    rw [jointsV_in h1]
    exact h2
end Go.Proofs.YtkogoflcacameaaDoor
