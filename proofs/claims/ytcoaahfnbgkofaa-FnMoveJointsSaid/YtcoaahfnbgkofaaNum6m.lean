/- Plain facts on coordinated motions. -/
import Derived.Test.YtcoaahfnbgkofaaNum5
import Derived.Test.YtcoaahfnbgkofaaMp5
import Derived.Test.YtcoaahfnbgkofaaArmH
namespace Go.Proofs.Ytcoaahfnbgkofaa
set_option maxRecDepth 100000
/-- The greatest turn of the first k joints. -/
def mostD (fs ts : List Int) : Nat → Int
  | 0 => 0
  | k + 1 => max (mostD fs ts k) (max (ts.getD k 0 - fs.getD k 0) (fs.getD k 0 - ts.getD k 0))
def mostV (fs ts : List Int) : Int := mostD fs ts fs.length
/-- Angles of at most half a turn. -/
def half (js : List Int) : Prop := ∀ i, i < js.length → -180 ≤ js.getD i 0 ∧ js.getD i 0 ≤ 180
theorem okJoints.half {ls lo hi js : List Int} (h : okJoints ls lo hi js) : half js := fun k hk => by
  have h1 := h.2.2 k (by omega)
  have h2 := h.1.2.2.2.2 k (by have := h.2.1; omega)
  unfold okLink at h2
  omega
theorem mostD_bd {fs ts : List Int} (hf : half fs) (ht : half ts) (k : Nat) (h1 : k ≤ fs.length) (h2 : k ≤ ts.length) : 0 ≤ mostD fs ts k ∧ mostD fs ts k ≤ 360 := by
  induction k with
  | zero => simp [mostD]
  | succ k ih =>
    have := ih (by omega) (by omega)
    have := hf k (by omega)
    have := ht k (by omega)
    simp only [mostD]
    omega
theorem mostD_nn (fs ts : List Int) (k : Nat) : 0 ≤ mostD fs ts k := by
  induction k with
  | zero => simp [mostD]
  | succ k ih => simp only [mostD]; omega
theorem mostD_ge (fs ts : List Int) {i k : Nat} (h : i < k) : ts.getD i 0 - fs.getD i 0 ≤ mostD fs ts k ∧ fs.getD i 0 - ts.getD i 0 ≤ mostD fs ts k := by
  induction k with
  | zero => omega
  | succ k ih =>
    simp only [mostD]
    by_cases hk : i = k
    · subst hk; omega
    · have := ih (by omega); omega
theorem mostD_swap (fs ts : List Int) (k : Nat) : mostD fs ts k = mostD ts fs k := by
  induction k with
  | zero => rfl
  | succ k ih => simp only [mostD, ih]; omega
theorem mostD_zero (fs ts : List Int) (k : Nat) : mostD fs ts k = 0 ↔ ∀ i, i < k → fs.getD i 0 = ts.getD i 0 := by
  constructor
  · intro h i hi
    have := mostD_ge fs ts hi
    omega
  · induction k with
    | zero => intro _; rfl
    | succ k ih =>
      intro h
      have h1 := ih (fun i hi => h i (by omega))
      have h2 := h k (by omega)
      simp only [mostD, h1, h2]
      omega
/-- Both angles are valid. -/
def okBoth (ls lo hi fs ts : List Int) : Prop := okJoints ls lo hi fs ∧ okJoints ls lo hi ts
instance (ls lo hi fs ts : List Int) : Decidable (okBoth ls lo hi fs ts) := by unfold okBoth; infer_instance
/-- What MoveTime returns. -/
def moveT (ls lo hi fs ts : List Int) (t r : Int) : Int := if okBoth ls lo hi fs ts then timeV (mostV fs ts) t r else -1
theorem moveT_in {ls lo hi fs ts : List Int} {t r : Int} (h : okBoth ls lo hi fs ts) : moveT ls lo hi fs ts t r = timeV (mostV fs ts) t r := by unfold moveT; rw [if_pos h]
theorem moveT_out {ls lo hi fs ts : List Int} {t r : Int} (h : ¬ okBoth ls lo hi fs ts) : moveT ls lo hi fs ts t r = -1 := by unfold moveT; rw [if_neg h]
theorem okBoth.len {ls lo hi fs ts : List Int} (h : okBoth ls lo hi fs ts) : fs.length = ls.length ∧ ts.length = ls.length ∧ 1 ≤ ls.length ∧ ls.length ≤ 4 := ⟨h.1.2.1, h.2.2.1, h.1.1.1, h.1.1.2.1⟩
theorem okBoth.most {ls lo hi fs ts : List Int} (h : okBoth ls lo hi fs ts) : 0 ≤ mostV fs ts ∧ mostV fs ts ≤ 360 := mostD_bd h.1.half h.2.half _ (Nat.le_refl _) (by have := h.len; omega)
theorem okBoth.move {ls lo hi fs ts : List Int} {t r : Int} (h : okBoth ls lo hi fs ts) (h1 : 1 ≤ t ∧ t ≤ 200) (h2 : 1 ≤ r ∧ r ≤ 50) : okMove (mostV fs ts) t r := ⟨⟨h.most.1, by have := h.most.2; omega⟩, h1, h2⟩
end Go.Proofs.Ytcoaahfnbgkofaa
