/- Plain mathematics: a tool that presses against an elastic wall. -/
import Derived.Test.YtdjihdnnjkbjbaaNum14
namespace Go.Proofs.Ytdjihdnnjkbjbaa
set_option maxRecDepth 100000
def okPlc (p w k : Int) : Prop := (-10000 ≤ p ∧ p ≤ 10000) ∧ (-10000 ≤ w ∧ w ≤ 10000) ∧ 1 ≤ k ∧ k ≤ 100
instance (p w k : Int) : Decidable (okPlc p w k) := by unfold okPlc; infer_instance
/-- The wall's force. -/
def frc (p w k : Int) : Int := k * max 0 (p - w)
def frcV (p w k : Int) : Int := if okPlc p w k then frc p w k else -1
def okPrs (p w k f s : Int) : Prop := okPlc p w k ∧ (1 ≤ f ∧ f ≤ 1000) ∧ 1 ≤ s ∧ s ≤ 200
instance (p w k f s : Int) : Decidable (okPrs p w k f s) := by unfold okPrs; infer_instance
/-- How far the speed and the force that is left let the tool go. -/
def reach15 (p w k f s : Int) : Int := min s ((f - frc p w k).tdiv k)
def advV (p w k f s : Int) : Int := if reach15 p w k f s < 1 ∧ frc (p + 1) w k ≤ f then 1 else reach15 p w k f s
def nxtN (p w k f s : Int) : Int := if f < frc p w k then clp (p - 1) (-10000) 10000 else clp (p + advV p w k f s) (-10000) 10000
def prsV (p w k f s : Int) : Int := if okPrs p w k f s then nxtN p w k f s else p
theorem frc_pos {p w k : Int} (hk : 1 ≤ k) : 0 ≤ frc p w k := Int.mul_nonneg (by omega) (by omega)
theorem frc_mono {p q w k : Int} (hk : 1 ≤ k) (h : p ≤ q) : frc p w k ≤ frc q w k := Int.mul_le_mul_of_nonneg_left (by omega) (by omega)
/-- One unit farther the force grows by the stiffness, behind the wall. -/
theorem frc_step (p w k : Int) : frc (p + 1) w k = frc p w k + k * max 0 (min 1 (p + 1 - w)) := by
  unfold frc
  rw [← Int.mul_add]
  congr 1
  omega
theorem frc_far {p d w k : Int} (hk : 1 ≤ k) (hd : 0 ≤ d) : frc (p + d) w k ≤ frc p w k + k * d := by
  unfold frc
  rw [← Int.mul_add]
  exact Int.mul_le_mul_of_nonneg_left (by omega) (by omega)
theorem frc_bd {p w k : Int} (hk : 1 ≤ k ∧ k ≤ 100) (h : p - w ≤ 20300) : frc p w k ≤ 2030000 := by
  have h1 := Int.mul_le_mul_of_nonneg_left (show max 0 (p - w) ≤ 20300 by omega) (show 0 ≤ k by omega)
  have h2 := Int.mul_le_mul_of_nonneg_right hk.2 (show (0 : Int) ≤ 20300 by omega)
  unfold frc
  omega
/-- The quotient of what is left by the stiffness. -/
theorem left_div {n f k : Int} (hk : 1 ≤ k) (h : n ≤ f) : 0 ≤ (f - n).tdiv k ∧ k * (f - n).tdiv k ≤ f - n ∧ (f - n).tdiv k ≤ f - n := by
  have e : (f - n).tdiv k = (f - n) / k := Int.tdiv_eq_ediv_of_nonneg (by omega)
  rw [e]
  have h0 : 0 ≤ (f - n) / k := Int.ediv_nonneg (by omega) (by omega)
  have h1 := Int.mul_ediv_self_le (x := f - n) (k := k) (by omega)
  have h2 := Int.mul_le_mul_of_nonneg_right hk h0
  omega
theorem adv_bd {p w k f s : Int} (h : okPrs p w k f s) (hf : frc p w k ≤ f) : 0 ≤ advV p w k f s ∧ advV p w k f s ≤ s := by
  obtain ⟨⟨_, _, hk, _⟩, _, hs, _⟩ := h
  have := (left_div hk hf).1
  unfold advV reach15
  split <;> omega
/-- As far as the quotient the force is not exceeded. -/
theorem reach_fits {p w k f : Int} (hk : 1 ≤ k) (hf : frc p w k ≤ f) {d : Int} (h0 : 0 ≤ d) (hd : d ≤ (f - frc p w k).tdiv k) : frc (p + d) w k ≤ f := by
  have h1 := (left_div hk hf).2.1
  have h2 := Int.mul_le_mul_of_nonneg_left hd (show 0 ≤ k by omega)
  have h3 := frc_far (p := p) (w := w) hk h0
  omega
theorem adv_fits {p w k f s : Int} (h : okPrs p w k f s) (hf : frc p w k ≤ f) : frc (p + advV p w k f s) w k ≤ f := by
  obtain ⟨⟨_, _, hk, _⟩, _, hs, _⟩ := h
  have h0 := (left_div hk hf).1
  unfold advV
  split
  · rename_i q; exact q.2
  · exact reach_fits hk hf (by unfold reach15; omega) (by unfold reach15; omega)
theorem adv_rest {p w k f s : Int} (h : okPrs p w k f s) (h0 : advV p w k f s = 0) : f < frc (p + 1) w k := by
  unfold advV at h0
  split at h0
  · omega
  · rename_i q
    have := h.2.2.1
    omega
/-- The greatest number of units, however it is found. -/
theorem adv_of {p w k f s d : Int} (h : okPrs p w k f s) (hf : frc p w k ≤ f) (h0 : 0 ≤ d) (hl : d ≤ min s (max 1 ((f - frc p w k).tdiv k))) (hd : frc (p + d) w k ≤ f)
    (ht : d < min s (max 1 ((f - frc p w k).tdiv k)) → f < frc (p + (d + 1)) w k) : d = advV p w k f s := by
  obtain ⟨⟨_, _, hk, _⟩, _, hs, _⟩ := h
  have hb := (left_div hk hf).1
  have hr := @reach_fits p w k f hk hf (d + 1) (by omega)
  unfold advV reach15
  by_cases q : (f - frc p w k).tdiv k = 0
  · rw [q] at hl ht ⊢
    have e1 : min s (max 1 0) = 1 := by omega
    have e2 : min s 0 = 0 := by omega
    rw [e1] at hl ht
    rw [e2]
    rcases (show d = 0 ∨ d = 1 by omega) with rfl | rfl
    · rw [if_neg (by have := ht (by omega); rw [Int.zero_add] at this; omega)]
    · rw [if_pos ⟨by omega, hd⟩]
  · rw [if_neg (by omega)]
    rcases Int.lt_or_le d (min s (max 1 ((f - frc p w k).tdiv k))) with c | c
    · have := ht c
      have := hr (by omega)
      omega
    · omega
/-- A step's place. -/
theorem nxt_ok (p w k f s : Int) : -10000 ≤ nxtN p w k f s ∧ nxtN p w k f s ≤ 10000 := by
  unfold nxtN
  split <;> exact clp_bd (by omega)
theorem nxt_prs {p w k f s : Int} (h : okPrs p w k f s) : okPrs (nxtN p w k f s) w k f s := ⟨⟨nxt_ok p w k f s, h.1.2⟩, h.2⟩
/-- A force that is exceeded moves the tool back. -/
theorem nxt_back {p w k f s : Int} (h : okPrs p w k f s) (hf : f < frc p w k) : nxtN p w k f s = p - 1 ∨ p = -10000 := by
  obtain ⟨⟨⟨h1, h2⟩, _⟩, _⟩ := h
  unfold nxtN
  rw [if_pos hf]
  unfold clp
  omega
/-- A force that is not exceeded is not exceeded after the step. -/
theorem nxt_on {p w k f s : Int} (h : okPrs p w k f s) (hf : frc p w k ≤ f) : p ≤ nxtN p w k f s ∧ nxtN p w k f s ≤ p + s ∧ frc (nxtN p w k f s) w k ≤ f := by
  have h1 := adv_bd h hf
  have h2 := adv_fits h hf
  have hk := h.1.2.2.1
  obtain ⟨⟨⟨h3, h4⟩, _⟩, _⟩ := h
  have e : nxtN p w k f s = clp (p + advV p w k f s) (-10000) 10000 := if_neg (by omega)
  rw [e]
  obtain ⟨d, hd⟩ : ∃ d, advV p w k f s = d := ⟨_, rfl⟩
  rw [hd] at h1 h2 ⊢
  have b : clp (p + d) (-10000) 10000 ≤ p + d := by unfold clp; omega
  exact ⟨by unfold clp; omega, by omega, Int.le_trans (frc_mono hk b) h2⟩
/-- A tool that has come to rest presses with the force. -/
theorem nxt_rest {p w k f s : Int} (h : okPrs p w k f s) (he : nxtN p w k f s = p) : frc p w k ≤ f ∧ (p = 10000 ∨ f < frcV (p + 1) w k) := by
  have hw := h.1.2.1
  have hk := h.1.2.2
  have hp := h.1.1
  have hF := h.2.1
  rcases Int.lt_or_le f (frc p w k) with c | c
  · exfalso
    rcases nxt_back h c with q | q
    · omega
    · have : frc p w k = 0 := by unfold frc; rw [show max 0 (p - w) = 0 by omega, Int.mul_zero]
      omega
  · refine ⟨c, ?_⟩
    by_cases q : p = 10000
    · exact .inl q
    · right
      have e : nxtN p w k f s = clp (p + advV p w k f s) (-10000) 10000 := if_neg (by omega)
      have h1 := adv_bd h c
      have h2 := adv_rest h (f := f) (p := p)
      rw [e] at he
      have h0 : advV p w k f s = 0 := by unfold clp at he; omega
      unfold frcV
      rw [if_pos ⟨by omega, hw, hk⟩]
      exact h2 h0
/-- A trace's places. -/
def trcL (w k f s : Int) : Nat → Int → List Int
  | 0, _ => []
  | n + 1, p => nxtN p w k f s :: trcL w k f s n (nxtN p w k f s)
/-- The place behind the first n steps. -/
def trcA (w k f s : Int) : Nat → Int → Int
  | 0, p => p
  | n + 1, p => trcA w k f s n (nxtN p w k f s)
theorem trcL_len (w k f s : Int) : ∀ (n : Nat) (p : Int), (trcL w k f s n p).length = n
  | 0, _ => rfl
  | n + 1, p => by unfold trcL; rw [List.length_cons, trcL_len]
theorem trcA_next (w k f s : Int) : ∀ (n : Nat) (p : Int), trcA w k f s (n + 1) p = nxtN (trcA w k f s n p) w k f s
  | 0, _ => rfl
  | n + 1, p => by rw [trcA, trcA_next w k f s n]; rfl
theorem trcL_at (w k f s : Int) : ∀ (n i : Nat) (p : Int), i < n → (trcL w k f s n p)[i]? = some (trcA w k f s (i + 1) p)
  | 0, _, _, h => by omega
  | n + 1, 0, p, _ => rfl
  | n + 1, i + 1, p, h => by
    unfold trcL
    rw [List.getElem?_cons_succ, trcL_at w k f s n i _ (by omega)]
    rfl
theorem trcA_ok {p w k f s : Int} (h : okPrs p w k f s) : ∀ n, okPrs (trcA w k f s n p) w k f s
  | 0 => h
  | n + 1 => by rw [trcA_next]; exact nxt_prs (trcA_ok h n)
theorem trcL_take (w k f s : Int) (n i : Nat) (p : Int) (h : i < n) : (trcL w k f s n p).take (i + 1) = (trcL w k f s n p).take i ++ [trcA w k f s (i + 1) p] := by
  have e := trcL_at w k f s n i p h
  have hl := (List.getElem?_eq_some_iff.1 e).1
  rw [List.take_succ_eq_append_getElem hl, (List.getElem?_eq_some_iff.1 e).2]
def okTrc (p w k f s n : Int) : Prop := okPrs p w k f s ∧ 0 ≤ n ∧ n ≤ 400
instance (p w k f s n : Int) : Decidable (okTrc p w k f s n) := by unfold okTrc; infer_instance
def trcV (p w k f s n : Int) : List Int := if okTrc p w k f s n then trcL w k f s n.toNat p else []
/-- The law on traces: the last two places alike. -/
theorem trc_rest {p w k f s n : Int} (h : okTrc p w k f s n) (m : Nat) (he : trcA w k f s (m + 2) p = trcA w k f s (m + 1) p) :
    frcV (trcA w k f s (m + 2) p) w k ≤ f ∧ (trcA w k f s (m + 2) p = 10000 ∨ f < frcV (trcA w k f s (m + 2) p + 1) w k) := by
  have h1 := trcA_ok h.1 (m + 1)
  rw [trcA_next] at he
  have h2 := nxt_rest h1 he
  rw [trcA_next, he]
  refine ⟨?_, h2.2⟩
  unfold frcV
  rw [if_pos h1.1]
  exact h2.1
end Go.Proofs.Ytdjihdnnjkbjbaa
