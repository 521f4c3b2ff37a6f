/- Plain facts on arms: sums of lengths and angles, the points of an arm, and how far they lie apart. -/
import Derived.Test.YtolkihibjabmhaaDoorNum2s
import Derived.Test.YtolkihibjabmhaaDoorNumA
namespace Go.Proofs.YtolkihibjabmhaaDoor
set_option maxRecDepth 100000

/-- The coordinates of the end of the first k links: link i has the length ls[i] and the direction of the first i + 1 angles' sum. -/
def ptX (ls js : List Int) : Nat → Int
  | 0 => 0
  | k + 1 => ptX ls js k + rotX (ls.getD k 0) 0 (sumN js (k + 1))
def ptY (ls js : List Int) : Nat → Int
  | 0 => 0
  | k + 1 => ptY ls js k + rotY (ls.getD k 0) 0 (sumN js (k + 1))
theorem okLen {l : Int} (h1 : 1 ≤ l) (h2 : l ≤ 500) : okP l 0 := ⟨by omega, by omega, by omega, by omega⟩
theorem rnd_500 (v : Int) (h0 : -2048000 ≤ v) (h1 : v ≤ 2048000) : -500 ≤ rnd v ∧ rnd v ≤ 500 := by unfold rnd flo; omega
theorem vec_eq {l : Int} (d : Int) (h1 : 1 ≤ l) (h2 : l ≤ 500) : rotX l 0 d = rnd (l * cosV d) ∧ rotY l 0 d = rnd (l * sinV d) := by
  rw [rotX_in (okLen h1 h2), rotY_in (okLen h1 h2)]
  exact ⟨by rw [show l * cosV d - 0 * sinV d = l * cosV d by omega], by rw [show l * sinV d + 0 * cosV d = l * sinV d by omega]⟩
theorem vec_bd {l : Int} (d : Int) (h1 : 1 ≤ l) (h2 : l ≤ 500) : (-500 ≤ rotX l 0 d ∧ rotX l 0 d ≤ 500) ∧ (-500 ≤ rotY l 0 d ∧ rotY l 0 d ≤ 500) := by
  obtain ⟨c0, c1⟩ := cosV_bd d
  obtain ⟨s0, s1⟩ := sinV_bd d
  obtain ⟨e1, e2⟩ := vec_eq d h1 h2
  have p := mul_bd (A := 500) (B := 4096) (show (-500 : Int) ≤ l by omega) h2 c0 c1
  have q := mul_bd (A := 500) (B := 4096) (show (-500 : Int) ≤ l by omega) h2 s0 s1
  rw [e1, e2]
  exact ⟨rnd_500 _ (by omega) (by omega), rnd_500 _ (by omega) (by omega)⟩
/-- A link's vector is as long as the link, up to 1. -/
theorem vec_len {l : Int} (d : Int) (h1 : 1 ≤ l) (h2 : l ≤ 500) :
    (l - 1) * (l - 1) ≤ rotX l 0 d * rotX l 0 d + rotY l 0 d * rotY l 0 d ∧ rotX l 0 d * rotX l 0 d + rotY l 0 d * rotY l 0 d ≤ (l + 1) * (l + 1) := by
  obtain ⟨e1, e2⟩ := vec_eq d h1 h2
  rw [e1, e2]
  obtain ⟨u1, u2⟩ := unitSq d
  have hAB : (l * cosV d) * (l * cosV d) + (l * sinV d) * (l * sinV d) = (l * l) * (sinV d * sinV d + cosV d * cosV d) := by grind
  generalize sinV d * sinV d + cosV d * cosV d = K at u1 u2 hAB
  obtain ⟨a1, a2⟩ := rnd_is (l * cosV d)
  obtain ⟨b1, b2⟩ := rnd_is (l * sinV d)
  generalize rnd (l * cosV d) = x at a1 a2 ⊢
  generalize rnd (l * sinV d) = y at b1 b2 ⊢
  generalize l * cosV d = A at a1 a2 hAB
  generalize l * sinV d = B at b1 b2 hAB
  have s1 : (4096 * x - A) * (4096 * x - A) + (4096 * y - B) * (4096 * y - B) ≤ 2897 * 2897 := by
    have e1 := (mul_bd (A := 2048) (B := 2048) a1 a2 a1 a2).2
    have e2 := (mul_bd (A := 2048) (B := 2048) b1 b2 b1 b2).2
    omega
  have hl0 := sq_nn l
  have v1 : (4096 * x) * (4096 * x) + (4096 * y) * (4096 * y) = 16777216 * (x * x + y * y) := by grind
  constructor
  · rcases Int.lt_or_le (x * x + y * y) ((l - 1) * (l - 1)) with k | k
    · have v2 : (4096 * (l - 1)) * (4096 * (l - 1)) = 16777216 * ((l - 1) * (l - 1)) := by grind
      have s2 : (-(4096 * x - A)) * (-(4096 * x - A)) + (-(4096 * y - B)) * (-(4096 * y - B)) ≤ 2897 * 2897 := by
        rw [Int.neg_mul_neg, Int.neg_mul_neg]; exact s1
      have t2 := tri (a := 4096 * x) (b := 4096 * y) (t := 4096 * (l - 1)) (by omega) (by omega) (by omega) s2
      rw [show 4096 * x + -(4096 * x - A) = A by omega, show 4096 * y + -(4096 * y - B) = B by omega] at t2
      have t3 : (l * 4094) * (l * 4094) ≤ A * A + B * B := by
        have k1 : (l * l) * (4094 * 4094) ≤ (l * l) * K := Int.mul_le_mul_of_nonneg_left (by omega) hl0
        have k2 : (l * l) * (4094 * 4094) = (l * 4094) * (l * 4094) := by grind
        omega
      have := le_of_sq (a := l * 4094) (b := 4096 * (l - 1) + 2897) (by omega) (by omega)
      omega
    · exact k
  · have t1 : A * A + B * B ≤ (l * 4097) * (l * 4097) := by
      have k1 : (l * l) * K ≤ (l * l) * (4097 * 4097) := Int.mul_le_mul_of_nonneg_left (by omega) hl0
      have k2 : (l * l) * (4097 * 4097) = (l * 4097) * (l * 4097) := by grind
      omega
    have t2 := tri (by omega) (by omega) t1 s1
    rw [show A + (4096 * x - A) = 4096 * x by omega, show B + (4096 * y - B) = 4096 * y by omega] at t2
    have v2 : (4096 * (l + 1)) * (4096 * (l + 1)) = 16777216 * ((l + 1) * (l + 1)) := by grind
    have v3 : (l * 4097 + 2897) * (l * 4097 + 2897) ≤ (4096 * (l + 1)) * (4096 * (l + 1)) := Int.mul_le_mul (by omega) (by omega) (by omega) (by omega)
    omega
theorem pt_bd (ls js : List Int) (h : ∀ k, k < ls.length → 1 ≤ ls.getD k 0 ∧ ls.getD k 0 ≤ 500) (k : Nat) (hk : k ≤ ls.length) :
    -(500 * (k : Int)) ≤ ptX ls js k ∧ ptX ls js k ≤ 500 * (k : Int) ∧ -(500 * (k : Int)) ≤ ptY ls js k ∧ ptY ls js k ≤ 500 * (k : Int) := by
  induction k with
  | zero => simp [ptX, ptY]
  | succ k ih =>
    have h0 := ih (by omega)
    obtain ⟨l1, l2⟩ := h k (by omega)
    have h2 := vec_bd (sumN js (k + 1)) l1 l2
    simp only [ptX, ptY]
    omega
/-- The tip is within the reach, up to 1 a link. -/
theorem pt_far (ls js : List Int) (h : ∀ k, k < ls.length → 1 ≤ ls.getD k 0 ∧ ls.getD k 0 ≤ 500) (k : Nat) (hk : k ≤ ls.length) :
    ptX ls js k * ptX ls js k + ptY ls js k * ptY ls js k ≤ (sumN ls k + (k : Int)) * (sumN ls k + (k : Int)) := by
  induction k with
  | zero => simp [ptX, ptY, sumN]
  | succ k ih =>
    have h0 := ih (by omega)
    obtain ⟨l1, l2⟩ := h k (by omega)
    have h2 := (vec_len (sumN js (k + 1)) l1 l2).2
    have h3 := (sumN_bd ls h k (by omega)).1
    have := tri (by omega) (by omega) h0 h2
    simp only [ptX, ptY, sumN] at *
    rw [show sumN ls k + ls.getD k 0 + ((k + 1 : Nat) : Int) = sumN ls k + (k : Int) + (ls.getD k 0 + 1) by omega]
    exact this
theorem sumN_zero (n k : Nat) : sumN (List.replicate n 0) k = 0 := by
  induction k with
  | zero => rfl
  | succ k ih =>
    simp only [sumN, ih]
    rw [List.getD_eq_getElem?_getD, List.getElem?_replicate]
    split <;> rfl
/-- A stretched arm lies on the X axis. -/
theorem pt_zero (ls : List Int) (h : ∀ k, k < ls.length → 1 ≤ ls.getD k 0 ∧ ls.getD k 0 ≤ 500) (n k : Nat) (hk : k ≤ ls.length) :
    ptX ls (List.replicate n 0) k = sumN ls k ∧ ptY ls (List.replicate n 0) k = 0 := by
  induction k with
  | zero => exact ⟨rfl, rfl⟩
  | succ k ih =>
    obtain ⟨i1, i2⟩ := ih (by omega)
    obtain ⟨l1, l2⟩ := h k (by omega)
    simp only [ptX, ptY, sumN_zero]
    rw [(rot0 (okLen l1 l2)).1, (rot0 (okLen l1 l2)).2, i1, i2]
    exact ⟨rfl, rfl⟩
end Go.Proofs.YtolkihibjabmhaaDoor
