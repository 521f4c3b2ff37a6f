/- A region that draws its order, by an invariant over the operations that have come up: one step an operation, whatever the orders. -/
import Derived.Orders
import Derived.RegionTactic
import Derived.WalkKit
namespace Go.Proofs.Ytkmopgdnaohcdaa
set_option maxRecDepth 100000
open Go.RowKit
section
variable {P : Program} {ops : Array Oper} {Q : Exit → Act → World → Prop}

/-- How many have not come up. -/
def unl : List Bool → Nat
  | [] => 0
  | b :: l => (if b then 0 else 1) + unl l
theorem unl_set : ∀ (l : List Bool) (i : Nat), l[i]? = some false → unl (l.set i true) + 1 = unl l
  | [], i, h => by simp at h
  | b :: l, 0, h => by
    simp at h; subst h; simp [unl]; omega
  | b :: l, i + 1, h => by
    have := unl_set l i (by simpa using h)
    simp only [List.set_cons_succ, unl]; omega
theorem unl_zero : ∀ (l : List Bool), unl l = 0 → ∀ i : Nat, l[i]? ≠ some false
  | [], _, i => by simp
  | b :: l, h, 0 => by
    intro hb; simp at hb; subst hb; simp [unl] at h
  | b :: l, h, i + 1 => by
    have := unl_zero l (by simp only [unl] at h; omega) i
    simpa using this
theorem getD_false {listed : Array Bool} {i : Nat} (h : listed.getD i true = false) : listed.toList[i]? = some false := by
  rw [Array.getD_eq_getD_getElem?] at h
  rw [Array.getElem?_toList]
  cases hx : listed[i]? with
  | none => rw [hx] at h; cases h
  | some b => rw [hx] at h; simp at h; rw [h]
/-- All have come up where none may: every edge that binds leads back. -/
theorem all_up {listed : Array Bool} (hlt : ∀ j o, ops[j]? = some o → ∀ e ∈ o.after, Region.binds .any e = true → e.on < j) (hs : listed.size = ops.size) (h : Region.ready .any ops listed = []) : ∀ j, j < ops.size → listed.getD j true = true := by
  intro j
  induction j using Nat.strongRecOn with
  | _ j ih =>
    intro hj
    cases hb : listed.getD j true with
    | true => rfl
    | false =>
      exfalso
      have hm : j ∈ Region.ready .any ops listed := by
        refine mem_ready.2 ⟨hb, ops[j], Array.getElem?_eq_getElem hj, fun e he hbe => ?_⟩
        have h1 := hlt j _ (Array.getElem?_eq_getElem hj) e he hbe
        have h2 := ih e.on h1 (by omega)
        have h3 : e.on < listed.size := by omega
        rw [Array.getD_eq_getD_getElem?, Array.getElem?_eq_getElem h3] at h2 ⊢
        exact h2
      rw [h] at hm
      cases hm
theorem wpAny_inv (R : Array Bool → Act → World → Prop) (hlt : ∀ j o, ops[j]? = some o → ∀ e ∈ o.after, Region.binds .any e = true → e.on < j) (hsz : ∀ listed a w, R listed a w → listed.size = ops.size)
    (hstep : ∀ listed a w i o, R listed a w → ops[i]? = some o → listed.getD i true = false → (∀ e ∈ o.after, Region.binds .any e = true → listed.getD e.on false = true) → wpOp P ops Q i (R (listed.setIfInBounds i true)) a w)
    (hdone : ∀ listed a w, R listed a w → (∀ j, j < ops.size → listed.getD j true = true) → Q .normal a w) :
    ∀ (fuel : Nat) (listed : Array Bool) (a : Act) (w : World), R listed a w → unl listed.toList ≤ fuel → wpAny P .any ops Q fuel listed a w
  | 0, listed, a, w, hR, hf => by
    have h0 : Region.ready .any ops listed = [] := by
      cases hr : Region.ready .any ops listed with
      | nil => rfl
      | cons i rs =>
        exfalso
        have hm : i ∈ Region.ready .any ops listed := by rw [hr]; exact List.mem_cons_self
        exact unl_zero _ (by omega) i (getD_false (mem_ready.1 hm).1)
    exact ⟨h0, hdone listed a w hR (all_up hlt (hsz _ _ _ hR) h0)⟩
  | fuel + 1, listed, a, w, hR, hf => by
    refine ⟨fun h0 => hdone listed a w hR (all_up hlt (hsz _ _ _ hR) h0), fun i hi => ?_⟩
    obtain ⟨hl, o, ho, hd⟩ := mem_ready.1 hi
    refine wpOp_mono (fun a' w' h' => wpAny_inv R hlt hsz hstep hdone fuel _ a' w' h' ?_) (hstep listed a w i o hR ho hl hd)
    have := unl_set listed.toList i (getD_false hl)
    rw [Array.toList_setIfInBounds]
    omega
theorem unl_new : ∀ n, unl (List.replicate n false) = n
  | 0 => rfl
  | n + 1 => by rw [List.replicate_succ]; simp only [unl]; rw [unl_new n]; simp; omega
/-- **A region by an invariant.** -/
theorem wp_region_inv {id : Nat} {a : Act} {w : World} (R : Array Bool → Act → World → Prop) (hm : P.follows .mixedOrders = true) (hlt : ∀ j o, ops[j]? = some o → ∀ e ∈ o.after, Region.binds .any e = true → e.on < j)
    (hsz : ∀ listed a w, R listed a w → listed.size = ops.size) (h0 : R (Array.replicate ops.size false) a w.drew)
    (hstep : ∀ listed a w i o, R listed a w → ops[i]? = some o → listed.getD i true = false → (∀ e ∈ o.after, Region.binds .any e = true → listed.getD e.on false = true) → wpOp P ops Q i (R (listed.setIfInBounds i true)) a w)
    (hdone : ∀ listed a w, R listed a w → (∀ j, j < ops.size → listed.getD j true = true) → Q .normal a w) : (Code.region id ops true).wp P Q a w :=
  wp_region_any hm (wpAny_inv R hlt hsz hstep hdone _ _ _ _ h0 (by simp [unl_new]))
end
end Go.Proofs.Ytkmopgdnaohcdaa
