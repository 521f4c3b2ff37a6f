/- Plain mathematics: motors, their steps, brakes and controllers. -/
import Derived.Test.YtdjihdnnjkbjbaaZcPts
namespace Go.Proofs.Ytdjihdnnjkbjbaa
set_option maxRecDepth 100000
/-- The nearest number in o..h. -/
def clp (x o h : Int) : Int := max o (min h x)
def okMotor (a v : Int) : Prop := (-10000 ≤ a ∧ a ≤ 10000) ∧ -200 ≤ v ∧ v ≤ 200
instance (a v : Int) : Decidable (okMotor a v) := by unfold okMotor; infer_instance
/-- Friction moves a speed towards 0. -/
def slowV (u f : Int) : Int := if 0 < u then max 0 (u - f) else min 0 (u + f)
/-- The speed of a step, ahead of the end of the range. -/
def spdV (v t f : Int) : Int := clp (slowV (v + t) f) (-200) 200
def inA (x : Int) : Prop := -10000 ≤ x ∧ x ≤ 10000
instance (x : Int) : Decidable (inA x) := by unfold inA; infer_instance
def stpA (a v t f : Int) : Int := clp (a + spdV v t f) (-10000) 10000
def stpS (a v t f : Int) : Int := if inA (a + spdV v t f) then spdV v t f else 0
def okStp (a v t f : Int) : Prop := okMotor a v ∧ (-100 ≤ t ∧ t ≤ 100) ∧ 0 ≤ f ∧ f ≤ 100
instance (a v t f : Int) : Decidable (okStp a v t f) := by unfold okStp; infer_instance
def motA (a v t f : Int) : Int := if okStp a v t f then stpA a v t f else 0
def motS (a v t f : Int) : Int := if okStp a v t f then stpS a v t f else 0
def brkV (a v : Int) : Int := if okMotor a v then clp (-v) (-100) 100 else 0
def aimN (a v g k d : Int) : Int := clp (flo (k * (g - a) - d * v) 16) (-100) 100
def okAim (a v g k d : Int) : Prop := okMotor a v ∧ (-10000 ≤ g ∧ g ≤ 10000) ∧ (0 ≤ k ∧ k ≤ 64) ∧ 0 ≤ d ∧ d ≤ 64
instance (a v g k d : Int) : Decidable (okAim a v g k d) := by unfold okAim; infer_instance
def aimV (a v g k d : Int) : Int := if okAim a v g k d then aimN a v g k d else 0
theorem clp_bd {x o h : Int} (q : o ≤ h) : o ≤ clp x o h ∧ clp x o h ≤ h := by unfold clp; omega
theorem spd_bd (v t f : Int) : -200 ≤ spdV v t f ∧ spdV v t f ≤ 200 := clp_bd (by omega)
theorem stp_ok (a v t f : Int) : okMotor (stpA a v t f) (stpS a v t f) := by
  refine ⟨clp_bd (by omega), ?_⟩
  unfold stpS
  split
  · exact spd_bd v t f
  · omega
/-- Within the range the angle is the sum. -/
theorem stp_in {a v t f : Int} (h : inA (a + spdV v t f)) : stpA a v t f = a + spdV v t f ∧ stpS a v t f = spdV v t f := by
  unfold stpA stpS
  rw [if_pos h]
  unfold inA at h
  unfold clp
  exact ⟨by omega, rfl⟩
theorem stp_out {a v t f : Int} (h : ¬ inA (a + spdV v t f)) : stpS a v t f = 0 := if_neg h
theorem slow_neg {u f : Int} (hf : 0 ≤ f) : slowV (-u) f = -slowV u f := by unfold slowV; split <;> split <;> omega
theorem spd_neg {v t f : Int} (hf : 0 ≤ f) : spdV (-v) (-t) f = -spdV v t f := by
  unfold spdV
  rw [show -v + -t = -(v + t) by omega, slow_neg hf]
  unfold clp; omega
/-- A step is symmetric. -/
theorem stp_neg {a v t f : Int} (hf : 0 ≤ f) : stpA (-a) (-v) (-t) f = -stpA a v t f ∧ stpS (-a) (-v) (-t) f = -stpS a v t f := by
  have e := spd_neg (v := v) (t := t) hf
  unfold stpA stpS clp
  rw [e]
  obtain ⟨s, hs⟩ : ∃ s, spdV v t f = s := ⟨_, rfl⟩
  rw [hs]
  refine ⟨by omega, ?_⟩
  by_cases k : inA (a + s)
  · rw [if_pos k, if_pos (by unfold inA at *; omega)]
  · rw [if_neg k, if_neg (by unfold inA at *; omega)]; rfl
/-- Without torque the speed does not grow, nor change its sign. -/
theorem stp_free {a v f : Int} (hv : -200 ≤ v ∧ v ≤ 200) (hf : 0 ≤ f) : ((0 ≤ v → 0 ≤ stpS a v 0 f ∧ stpS a v 0 f ≤ v) ∧ (v ≤ 0 → v ≤ stpS a v 0 f ∧ stpS a v 0 f ≤ 0)) := by
  have h1 : (0 ≤ v → 0 ≤ spdV v 0 f ∧ spdV v 0 f ≤ v) ∧ (v ≤ 0 → v ≤ spdV v 0 f ∧ spdV v 0 f ≤ 0) := by
    unfold spdV slowV clp
    split <;> omega
  unfold stpS
  split <;> omega
/-- Friction of 1 takes at least 1 off. -/
theorem stp_one {a v : Int} (hv : -200 ≤ v ∧ v ≤ 200) : ((stpS a v 0 1).natAbs : Int) ≤ max 0 ((v.natAbs : Int) - 1) := by
  have h1 : ((spdV v 0 1).natAbs : Int) ≤ max 0 ((v.natAbs : Int) - 1) := by
    unfold spdV slowV clp
    split <;> omega
  unfold stpS
  split <;> omega
/-- Two braked steps. -/
theorem brake_two {a v : Int} (h : okMotor a v) : stpS (stpA a v (clp (-v) (-100) 100) 0) (stpS a v (clp (-v) (-100) 100) 0) (clp (-stpS a v (clp (-v) (-100) 100) 0) (-100) 100) 0 = 0 := by
  obtain ⟨_, h1, h2⟩ := h
  have e : ∀ a v : Int, -100 ≤ v → v ≤ 100 → stpS a v (clp (-v) (-100) 100) 0 = 0 := fun a v k1 k2 => by
    have : spdV v (clp (-v) (-100) 100) 0 = 0 := by unfold spdV slowV clp; split <;> omega
    unfold stpS
    rw [this]; split <;> rfl
  have b : -100 ≤ stpS a v (clp (-v) (-100) 100) 0 ∧ stpS a v (clp (-v) (-100) 100) 0 ≤ 100 := by
    have : -100 ≤ spdV v (clp (-v) (-100) 100) 0 ∧ spdV v (clp (-v) (-100) 100) 0 ≤ 100 := by unfold spdV slowV clp; split <;> omega
    unfold stpS
    split <;> omega
  exact e _ _ b.1 b.2
/-- The controller is bounded. -/
theorem aim_bd (a v g k d : Int) : -100 ≤ aimN a v g k d ∧ aimN a v g k d ≤ 100 := clp_bd (by omega)
theorem aim_home (g k d : Int) : aimN g 0 g k d = 0 := by
  unfold aimN
  rw [Int.sub_self, Int.mul_zero, Int.mul_zero]
  decide
theorem flo_mono16 {x y : Int} (h : x ≤ y) : flo x 16 ≤ flo y 16 := by unfold flo; omega
theorem clp_mono {x y o h : Int} (q : x ≤ y) : clp x o h ≤ clp y o h := by unfold clp; omega
/-- More stiffness, more torque towards the target. -/
theorem aim_more {a g k k' d : Int} (hk : k ≤ k') : (a ≤ g → aimN a 0 g k d ≤ aimN a 0 g k' d) ∧ (g ≤ a → aimN a 0 g k' d ≤ aimN a 0 g k d) := by
  unfold aimN
  rw [Int.mul_zero, Int.sub_zero, Int.sub_zero]
  refine ⟨fun h => clp_mono (flo_mono16 (Int.mul_le_mul_of_nonneg_right hk (by omega))), fun h => clp_mono (flo_mono16 ?_)⟩
  have := Int.mul_le_mul_of_nonneg_right hk (show 0 ≤ a - g by omega)
  have e : ∀ z : Int, z * (g - a) = -(z * (a - g)) := fun z => by rw [← Int.mul_neg, Int.neg_sub]
  rw [e, e]; omega
/-- What the controller reckons with stays small. -/
theorem aim_small {a v g k d : Int} (h : okAim a v g k d) : (-1300000 ≤ k * (g - a) ∧ k * (g - a) ≤ 1300000) ∧ -13000 ≤ d * v ∧ d * v ≤ 13000 := by
  obtain ⟨⟨⟨h1, h2⟩, h3, h4⟩, ⟨h5, h6⟩, ⟨h7, h8⟩, h9, h10⟩ := h
  have b : ∀ x y M : Int, 0 ≤ x → x ≤ 64 → -M ≤ y → y ≤ M → 0 ≤ M → -(64 * M) ≤ x * y ∧ x * y ≤ 64 * M := fun x y M x0 x1 y0 y1 m0 => by
    have a1 := Int.mul_le_mul_of_nonneg_left y1 x0
    have a2 := Int.mul_le_mul_of_nonneg_left y0 x0
    have a3 := Int.mul_le_mul_of_nonneg_right x1 m0
    rw [Int.mul_neg] at a2
    omega
  have p := b k (g - a) 20000 h7 h8 (by omega) (by omega) (by omega)
  have q := b d v 200 h9 h10 (by omega) (by omega) (by omega)
  omega
/-- A run's angles. -/
def runL (g k d f : Int) : Nat → Int → Int → List Int
  | 0, _, _ => []
  | n + 1, a, v => stpA a v (aimN a v g k d) f :: runL g k d f n (stpA a v (aimN a v g k d) f) (stpS a v (aimN a v g k d) f)
/-- A run's motor behind the first n steps. -/
def runA (g k d f : Int) : Nat → Int → Int → Int × Int
  | 0, a, v => (a, v)
  | n + 1, a, v => runA g k d f n (stpA a v (aimN a v g k d) f) (stpS a v (aimN a v g k d) f)
theorem runL_len (g k d f : Int) : ∀ (n : Nat) (a v : Int), (runL g k d f n a v).length = n
  | 0, _, _ => rfl
  | n + 1, a, v => by unfold runL; rw [List.length_cons, runL_len]
theorem runA_next (g k d f : Int) : ∀ (n : Nat) (a v : Int), runA g k d f (n + 1) a v = (stpA (runA g k d f n a v).1 (runA g k d f n a v).2 (aimN (runA g k d f n a v).1 (runA g k d f n a v).2 g k d) f, stpS (runA g k d f n a v).1 (runA g k d f n a v).2 (aimN (runA g k d f n a v).1 (runA g k d f n a v).2 g k d) f)
  | 0, a, v => rfl
  | n + 1, a, v => by
    rw [runA, runA_next g k d f n]
    rfl
theorem runL_at (g k d f : Int) : ∀ (n i : Nat) (a v : Int), i < n → (runL g k d f n a v)[i]? = some (runA g k d f (i + 1) a v).1
  | 0, _, _, _, h => by omega
  | n + 1, 0, a, v, _ => rfl
  | n + 1, i + 1, a, v, h => by
    unfold runL
    rw [List.getElem?_cons_succ, runL_at g k d f n i _ _ (by omega)]
    rfl
theorem runA_ok {g k d f a v : Int} (h : okMotor a v) : ∀ n, okMotor (runA g k d f n a v).1 (runA g k d f n a v).2
  | 0 => h
  | n + 1 => by rw [runA_next]; exact stp_ok _ _ _ _
/-- Up to n steps do not depend on how many come behind. -/
theorem runL_home {g k d f : Int} (hg : inA g) (hf : 0 ≤ f) : ∀ n, runL g k d f n g 0 = List.replicate n g
  | 0 => rfl
  | n + 1 => by
    have e1 : aimN g 0 g k d = 0 := aim_home g k d
    have e2 : spdV 0 0 f = 0 := by unfold spdV slowV clp; split <;> omega
    unfold inA at hg
    have e3 : stpA g 0 0 f = g := by unfold stpA; rw [e2]; unfold clp; omega
    have e4 : stpS g 0 0 f = 0 := by unfold stpS; rw [e2]; split <;> rfl
    unfold runL
    rw [e1, e3, e4, runL_home hg hf n]
    rfl
def okRun (a v g k d f n : Int) : Prop := okAim a v g k d ∧ (0 ≤ f ∧ f ≤ 100) ∧ 0 ≤ n ∧ n ≤ 400
instance (a v g k d f n : Int) : Decidable (okRun a v g k d f n) := by unfold okRun; infer_instance
def runV (a v g k d f n : Int) : List Int := if okRun a v g k d f n then runL g k d f n.toNat a v else []
end Go.Proofs.Ytdjihdnnjkbjbaa
