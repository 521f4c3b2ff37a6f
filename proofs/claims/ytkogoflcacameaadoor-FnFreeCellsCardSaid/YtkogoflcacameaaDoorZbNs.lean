/- Several of my texts in one: NumS, Num2s, NumA, Num3. -/
import Derived.Test.YtkogoflcacameaaDoorZcPts
namespace Go.Proofs.YtkogoflcacameaaDoor
set_option maxRecDepth 100000
/-- The sines of 0 to 90 degrees. -/
def tabZ : List Int := [0, 71, 143, 214, 286, 357, 428, 499, 570, 641, 711, 782, 852, 921, 991, 1060, 1129, 1198, 1266, 1334, 1401, 1468, 1534, 1600, 1666, 1731, 1796, 1860, 1923, 1986, 2048, 2110, 2171, 2231, 2290, 2349, 2408, 2465, 2522, 2578, 2633, 2687, 2741, 2793, 2845, 2896, 2946, 2996, 3044, 3091, 3138, 3183, 3228, 3271, 3314, 3355, 3396, 3435, 3474, 3511, 3547, 3582, 3617, 3650, 3681, 3712, 3742, 3770, 3798, 3824, 3849, 3873, 3896, 3917, 3937, 3956, 3974, 3991, 4006, 4021, 4034, 4046, 4056, 4065, 4074, 4080, 4086, 4090, 4094, 4095, 4096]
def sinT (n : Nat) : Int := tabZ.getD n 0
theorem tabZ_bd : ∀ z ∈ tabZ, 0 ≤ z ∧ z ≤ 4096 := by decide
theorem sinT_bd (n : Nat) : 0 ≤ sinT n ∧ sinT n ≤ 4096 := by
  unfold sinT
  rw [List.getD_eq_getElem?_getD]
  by_cases h : n < tabZ.length
  · rw [List.getElem?_eq_getElem h]; exact tabZ_bd _ (List.getElem_mem h)
  · rw [List.getElem?_eq_none (by omega)]; exact ⟨by decide, by decide⟩
/-- The sine of d degrees, times 4096, rounded. -/
def sinV (d : Int) : Int := if deg d ≤ 90 then sinT (deg d).toNat else if deg d ≤ 180 then sinT (180 - deg d).toNat else if deg d ≤ 270 then - sinT (deg d - 180).toNat else - sinT (360 - deg d).toNat
theorem sinV_1 (d : Int) (h : deg d ≤ 90) : sinT (deg d).toNat = sinV d := by unfold sinV; rw [if_pos h]
theorem sinV_2 (d : Int) (h0 : ¬ deg d ≤ 90) (h : deg d ≤ 180) : sinT (180 - deg d).toNat = sinV d := by unfold sinV; rw [if_neg h0, if_pos h]
theorem sinV_3 (d : Int) (h0 : ¬ deg d ≤ 90) (h1 : ¬ deg d ≤ 180) (h : deg d ≤ 270) : - sinT (deg d - 180).toNat = sinV d := by unfold sinV; rw [if_neg h0, if_neg h1, if_pos h]
theorem sinV_4 (d : Int) (h0 : ¬ deg d ≤ 90) (h1 : ¬ deg d ≤ 180) (h : ¬ deg d ≤ 270) : - sinT (360 - deg d).toNat = sinV d := by unfold sinV; rw [if_neg h0, if_neg h1, if_neg h]
theorem sinV_bd (d : Int) : -4096 ≤ sinV d ∧ sinV d ≤ 4096 := by
  unfold sinV
  have h1 := sinT_bd (deg d).toNat
  have h2 := sinT_bd (180 - deg d).toNat
  have h3 := sinT_bd (deg d - 180).toNat
  have h4 := sinT_bd (360 - deg d).toNat
  split
  · omega
  · split
    · omega
    · split <;> omega
theorem sinV_deg (d : Int) : sinV (deg d) = sinV d := by
  unfold sinV; rw [show deg (deg d) = deg d by unfold deg; omega]
theorem all360 : ∀ n : Fin 360, sinV ((n.val : Int) + 180) = - sinV (n.val : Int) ∧ sinV (180 - (n.val : Int)) = sinV (n.val : Int) ∧
    sinV (deg (-(n.val : Int)) + 90) = sinV ((n.val : Int) + 90) ∧
    -8192 ≤ sinV (n.val : Int) * sinV (n.val : Int) + sinV ((n.val : Int) + 90) * sinV ((n.val : Int) + 90) - 16777216 ∧
    sinV (n.val : Int) * sinV (n.val : Int) + sinV ((n.val : Int) + 90) * sinV ((n.val : Int) + 90) - 16777216 ≤ 8192 := by decide +kernel
theorem at360 (n : Int) (h0 : 0 ≤ n) (h1 : n < 360) : sinV (n + 180) = - sinV n ∧ sinV (180 - n) = sinV n ∧ sinV (deg (-n) + 90) = sinV (n + 90) ∧
    -8192 ≤ sinV n * sinV n + sinV (n + 90) * sinV (n + 90) - 16777216 ∧ sinV n * sinV n + sinV (n + 90) * sinV (n + 90) - 16777216 ≤ 8192 := by
  have := all360 ⟨n.toNat, by omega⟩
  simp only [show ((n.toNat : Nat) : Int) = n by omega] at this
  exact this
theorem sin90 : sinV 90 = 4096 := by decide +kernel
theorem sq4096 (s : Int) (h0 : -4096 ≤ s) (h1 : s ≤ 4096) : 0 ≤ s * s ∧ s * s ≤ 16777216 := by
  rcases Int.le_total 0 s with h | h
  · exact ⟨Int.mul_nonneg h h, by have := Int.mul_le_mul h1 h1 h (by omega); omega⟩
  · have e : s * s = (-s) * (-s) := by rw [Int.neg_mul_neg]
    rw [e]
    exact ⟨Int.mul_nonneg (by omega) (by omega), by have := Int.mul_le_mul (show -s ≤ 4096 by omega) (show -s ≤ 4096 by omega) (by omega) (by omega); omega⟩
/-- The absolute value. -/
def absV (n : Int) : Int := max n (-n)
theorem absV_le (n k : Int) (h0 : -k ≤ n) (h1 : n ≤ k) : absV n ≤ k := by unfold absV; omega
end Go.Proofs.YtkogoflcacameaaDoor
namespace Go.Proofs.YtkogoflcacameaaDoor
set_option maxRecDepth 100000

/-- The cosine. -/
def cosV (d : Int) : Int := sinV (deg d + 90)
theorem cosV_bd (d : Int) : -4096 ≤ cosV d ∧ cosV d ≤ 4096 := sinV_bd _
theorem unitSq (d : Int) : -8192 ≤ sinV d * sinV d + cosV d * cosV d - 16777216 ∧ sinV d * sinV d + cosV d * cosV d - 16777216 ≤ 8192 := by
  have := at360 (deg d) (deg_lo d) (deg_hi d)
  unfold cosV
  rw [sinV_deg] at this
  exact this.2.2.2
/-- Rounded to the nearest number of units, halves upwards. -/
def rnd (v : Int) : Int := flo (v + 2048) 4096
theorem rnd_is (v : Int) : -2048 ≤ 4096 * rnd v - v ∧ 4096 * rnd v - v ≤ 2048 := by unfold rnd flo; omega
theorem rnd_bd (v : Int) (h0 : -81920000 ≤ v) (h1 : v ≤ 81920000) : -20001 ≤ rnd v ∧ rnd v ≤ 20001 := by unfold rnd flo; omega
theorem rnd_4096 (n : Int) : rnd (4096 * n) = n := by unfold rnd flo; omega
def rotX (x y d : Int) : Int := if okP x y then rnd (x * cosV d - y * sinV d) else 0
def rotY (x y d : Int) : Int := if okP x y then rnd (x * sinV d + y * cosV d) else 0
theorem rotX_in {x y d : Int} (h : okP x y) : rotX x y d = rnd (x * cosV d - y * sinV d) := by unfold rotX; rw [if_pos h]
theorem rotY_in {x y d : Int} (h : okP x y) : rotY x y d = rnd (x * sinV d + y * cosV d) := by unfold rotY; rw [if_pos h]
theorem rotX_out {x y d : Int} (h : ¬ okP x y) : rotX x y d = 0 := by unfold rotX; rw [if_neg h]
theorem rotY_out {x y d : Int} (h : ¬ okP x y) : rotY x y d = 0 := by unfold rotY; rw [if_neg h]
theorem prod_bd {x s : Int} (h1 : -10000 ≤ x) (h2 : x ≤ 10000) (h3 : -4096 ≤ s) (h4 : s ≤ 4096) : -40960000 ≤ x * s ∧ x * s ≤ 40960000 := mul_bd (A := 10000) (B := 4096) h1 h2 h3 h4
theorem rot_bd (x y d : Int) : (-20001 ≤ rotX x y d ∧ rotX x y d ≤ 20001) ∧ (-20001 ≤ rotY x y d ∧ rotY x y d ≤ 20001) := by
  by_cases h : okP x y
  · obtain ⟨c0, c1⟩ := cosV_bd d
    obtain ⟨s0, s1⟩ := sinV_bd d
    obtain ⟨h1, h2, h3, h4⟩ := id h
    have p1 := prod_bd h1 h2 c0 c1
    have p2 := prod_bd h1 h2 s0 s1
    have p3 := prod_bd h3 h4 c0 c1
    have p4 := prod_bd h3 h4 s0 s1
    rw [rotX_in h, rotY_in h]
    exact ⟨rnd_bd _ (by omega) (by omega), rnd_bd _ (by omega) (by omega)⟩
  · rw [rotX_out h, rotY_out h]; omega
theorem cos90 : cosV 90 = 0 := by decide +kernel
theorem cos0 : cosV 0 = 4096 := by decide +kernel
theorem sin0 : sinV 0 = 0 := by decide +kernel
theorem rot90 {x y : Int} (h : okP x y) : rotX x y 90 = -y ∧ rotY x y 90 = x := by
  rw [rotX_in h, rotY_in h, cos90, sin90]
  constructor
  · rw [show x * 0 - y * 4096 = 4096 * (-y) by omega, rnd_4096]
  · rw [show x * 4096 + y * 0 = 4096 * x by omega, rnd_4096]
theorem rot0 {x y : Int} (h : okP x y) : rotX x y 0 = x ∧ rotY x y 0 = y := by
  rw [rotX_in h, rotY_in h, cos0, sin0]
  constructor
  · rw [show x * 4096 - y * 0 = 4096 * x by omega, rnd_4096]
  · rw [show x * 0 + y * 4096 = 4096 * y by omega, rnd_4096]

theorem le_of_sq {a b : Int} (hb : 0 ≤ b) (h : a * a ≤ b * b) : a ≤ b := by
  rcases Int.lt_or_le b a with k | k
  · have := sq_lt hb k
    have e : (b + 1) * (b + 1) = b * b + 2 * b + 1 := by grind
    omega
  · exact k
/-- The triangle's inequality for whole vectors. -/
theorem tri {a b e f t h : Int} (ht : 0 ≤ t) (hh : 0 ≤ h) (h1 : a * a + b * b ≤ t * t) (h2 : e * e + f * f ≤ h * h) :
    (a + e) * (a + e) + (b + f) * (b + f) ≤ (t + h) * (t + h) := by
  have c : (a * e + b * f) * (a * e + b * f) ≤ (t * h) * (t * h) := by
    have k1 : (a * e + b * f) * (a * e + b * f) + (a * f - b * e) * (a * f - b * e) = (a * a + b * b) * (e * e + f * f) := by grind
    have k2 := sq_nn (a * f - b * e)
    have k3 : (a * a + b * b) * (e * e + f * f) ≤ (t * t) * (h * h) :=
      Int.mul_le_mul h1 h2 (by have := sq_nn e; have := sq_nn f; omega) (sq_nn t)
    have k4 : (t * t) * (h * h) = (t * h) * (t * h) := by grind
    omega
  have c' := le_of_sq (Int.mul_nonneg ht hh) c
  have e1 : (a + e) * (a + e) + (b + f) * (b + f) = (a * a + b * b) + (e * e + f * f) + 2 * (a * e + b * f) := by grind
  have e2 : (t + h) * (t + h) = t * t + h * h + 2 * (t * h) := by grind
  omega
/-- Rotated lengths differ by at most 2 and a thousandth. -/
theorem rot_len {x y : Int} (d : Int) (hp : okP x y) :
    root (rotX x y d * rotX x y d + rotY x y d * rotY x y d) ≤ root (x * x + y * y) + 2 + root (x * x + y * y) / 1000 ∧
    root (x * x + y * y) ≤ root (rotX x y d * rotX x y d + rotY x y d * rotY x y d) + 2 + root (x * x + y * y) / 1000 := by
  rw [rotX_in hp, rotY_in hp]
  obtain ⟨u1, u2⟩ := unitSq d
  generalize hA : x * cosV d - y * sinV d = A
  generalize hB : x * sinV d + y * cosV d = B
  have hAB : A * A + B * B = (x * x + y * y) * (sinV d * sinV d + cosV d * cosV d) := by rw [← hA, ← hB]; grind
  generalize sinV d * sinV d + cosV d * cosV d = K at u1 u2 hAB
  have hN0 : 0 ≤ x * x + y * y := by have := sq_nn x; have := sq_nn y; omega
  generalize x * x + y * y = N at hAB hN0 ⊢
  obtain ⟨a1, a2⟩ := rnd_is A
  obtain ⟨b1, b2⟩ := rnd_is B
  generalize rnd A = qx at a1 a2 ⊢
  generalize rnd B = qy at b1 b2 ⊢
  have hM0 : 0 ≤ qx * qx + qy * qy := by have := sq_nn qx; have := sq_nn qy; omega
  obtain ⟨r1, r2⟩ := root_is N hN0
  have r0 := root_lo N
  generalize root N = r at r0 r1 r2 ⊢
  obtain ⟨m1, m2⟩ := root_is _ hM0
  have m0 := root_lo (qx * qx + qy * qy)
  have hq : 1000 * (r / 1000) ≤ r ∧ r ≤ 1000 * (r / 1000) + 999 := by omega
  obtain ⟨q1, q2⟩ := hq
  have q0 : 0 ≤ r / 1000 := by omega
  generalize r / 1000 = q at q0 q1 q2 ⊢
  have s1 : (4096 * qx - A) * (4096 * qx - A) + (4096 * qy - B) * (4096 * qy - B) ≤ 2897 * 2897 := by
    have e1 := (mul_bd (A := 2048) (B := 2048) a1 a2 a1 a2).2
    have e2 := (mul_bd (A := 2048) (B := 2048) b1 b2 b1 b2).2
    omega
  constructor
  · have t1 : A * A + B * B ≤ ((r + 1) * 4097) * ((r + 1) * 4097) := by
      have k1 : N * K ≤ ((r + 1) * (r + 1)) * (4097 * 4097) := Int.mul_le_mul (by omega) (by omega) (by omega) (sq_nn _)
      have k2 : ((r + 1) * (r + 1)) * (4097 * 4097) = ((r + 1) * 4097) * ((r + 1) * 4097) := by grind
      omega
    have t2 := tri (by omega) (by omega) t1 s1
    rw [show A + (4096 * qx - A) = 4096 * qx by omega, show B + (4096 * qy - B) = 4096 * qy by omega] at t2
    refine root_le _ _ hM0 (by omega) ?_
    rcases Int.lt_or_le (qx * qx + qy * qy) ((r + 2 + q + 1) * (r + 2 + q + 1)) with k | k
    · exact k
    · have e1 : (4096 * qx) * (4096 * qx) + (4096 * qy) * (4096 * qy) = 16777216 * (qx * qx + qy * qy) := by grind
      have e2 : (4096 * (r + 2 + q + 1)) * (4096 * (r + 2 + q + 1)) = 16777216 * ((r + 2 + q + 1) * (r + 2 + q + 1)) := by grind
      have := le_of_sq (a := 4096 * (r + 2 + q + 1)) (b := (r + 1) * 4097 + 2897) (by omega) (by omega)
      omega
  · rcases Int.lt_or_le (root (qx * qx + qy * qy) + 2 + q) r with k | k
    · have t1 : (4096 * qx) * (4096 * qx) + (4096 * qy) * (4096 * qy) ≤ (4096 * (root (qx * qx + qy * qy) + 1)) * (4096 * (root (qx * qx + qy * qy) + 1)) := by
        have e1 : (4096 * qx) * (4096 * qx) + (4096 * qy) * (4096 * qy) = 16777216 * (qx * qx + qy * qy) := by grind
        have e2 : (4096 * (root (qx * qx + qy * qy) + 1)) * (4096 * (root (qx * qx + qy * qy) + 1)) = 16777216 * ((root (qx * qx + qy * qy) + 1) * (root (qx * qx + qy * qy) + 1)) := by grind
        omega
      have s2 : (-(4096 * qx - A)) * (-(4096 * qx - A)) + (-(4096 * qy - B)) * (-(4096 * qy - B)) ≤ 2897 * 2897 := by
        rw [Int.neg_mul_neg, Int.neg_mul_neg]; exact s1
      have t2 := tri (by omega) (by omega) t1 s2
      rw [show 4096 * qx + -(4096 * qx - A) = A by omega, show 4096 * qy + -(4096 * qy - B) = B by omega] at t2
      have t3 : (r * 4094) * (r * 4094) ≤ A * A + B * B := by
        have k1 : (r * r) * (4094 * 4094) ≤ N * K := Int.mul_le_mul r1 (by omega) (by omega) hN0
        have k2 : (r * r) * (4094 * 4094) = (r * 4094) * (r * 4094) := by grind
        omega
      have := le_of_sq (a := r * 4094) (b := 4096 * (root (qx * qx + qy * qy) + 1) + 2897) (by omega) (by omega)
      omega
    · exact k
end Go.Proofs.YtkogoflcacameaaDoor
namespace Go.Proofs.YtkogoflcacameaaDoor
set_option maxRecDepth 100000
/-- The sum of the first k numbers. -/
def sumN (ls : List Int) : Nat → Int
  | 0 => 0
  | k + 1 => sumN ls k + ls.getD k 0
/-- The greatest of the first k numbers, at least 0. -/
def mostN (ls : List Int) : Nat → Int
  | 0 => 0
  | k + 1 => max (mostN ls k) (ls.getD k 0)
theorem sumN_bd (ls : List Int) (h : ∀ k, k < ls.length → 1 ≤ ls.getD k 0 ∧ ls.getD k 0 ≤ 500) (k : Nat) (hk : k ≤ ls.length) : 0 ≤ sumN ls k ∧ sumN ls k ≤ 500 * k ∧ 0 ≤ mostN ls k ∧ mostN ls k ≤ sumN ls k := by
  induction k with
  | zero => simp [sumN, mostN]
  | succ k ih =>
    have := ih (by omega)
    have := h k (by omega)
    simp only [sumN, mostN]
    omega
def farV (ls : List Int) : Int := sumN ls ls.length
def nearV (ls : List Int) : Int := max 0 (2 * mostN ls ls.length - sumN ls ls.length)
end Go.Proofs.YtkogoflcacameaaDoor
namespace Go.Proofs.YtkogoflcacameaaDoor
set_option maxRecDepth 100000

/-- The coordinates of the end of the first k links: link i has the length ls[i] and the direction of the first i + 1 angles' sum. -/
def ptX (ls js : List Int) : Nat → Int
  | 0 => 0
  | k + 1 => ptX ls js k + rotX (ls.getD k 0) 0 (sumN js (k + 1))
def ptY (ls js : List Int) : Nat → Int
  | 0 => 0
  | k + 1 => ptY ls js k + rotY (ls.getD k 0) 0 (sumN js (k + 1))
theorem okLen {l : Int} (h1 : 1 ≤ l) (h2 : l ≤ 500) : okP l 0 := ⟨by omega, by omega, by omega, by omega⟩
theorem rnd_500 (v : Int) (h0 : -2048000 ≤ v) (h1 : v ≤ 2048000) : -500 ≤ rnd v ∧ rnd v ≤ 500 := by unfold rnd flo; omega
theorem vec_eq {l : Int} (d : Int) (h1 : 1 ≤ l) (h2 : l ≤ 500) : rotX l 0 d = rnd (l * cosV d) ∧ rotY l 0 d = rnd (l * sinV d) := by
  rw [rotX_in (okLen h1 h2), rotY_in (okLen h1 h2)]
  exact ⟨by rw [show l * cosV d - 0 * sinV d = l * cosV d by omega], by rw [show l * sinV d + 0 * cosV d = l * sinV d by omega]⟩
theorem vec_bd {l : Int} (d : Int) (h1 : 1 ≤ l) (h2 : l ≤ 500) : (-500 ≤ rotX l 0 d ∧ rotX l 0 d ≤ 500) ∧ (-500 ≤ rotY l 0 d ∧ rotY l 0 d ≤ 500) := by
  obtain ⟨c0, c1⟩ := cosV_bd d
  obtain ⟨s0, s1⟩ := sinV_bd d
  obtain ⟨e1, e2⟩ := vec_eq d h1 h2
  have p := mul_bd (A := 500) (B := 4096) (show (-500 : Int) ≤ l by omega) h2 c0 c1
  have q := mul_bd (A := 500) (B := 4096) (show (-500 : Int) ≤ l by omega) h2 s0 s1
  rw [e1, e2]
  exact ⟨rnd_500 _ (by omega) (by omega), rnd_500 _ (by omega) (by omega)⟩
/-- A link's vector is as long as the link, up to 1. -/
theorem vec_len {l : Int} (d : Int) (h1 : 1 ≤ l) (h2 : l ≤ 500) :
    (l - 1) * (l - 1) ≤ rotX l 0 d * rotX l 0 d + rotY l 0 d * rotY l 0 d ∧ rotX l 0 d * rotX l 0 d + rotY l 0 d * rotY l 0 d ≤ (l + 1) * (l + 1) := by
  obtain ⟨e1, e2⟩ := vec_eq d h1 h2
  rw [e1, e2]
  obtain ⟨u1, u2⟩ := unitSq d
  have hAB : (l * cosV d) * (l * cosV d) + (l * sinV d) * (l * sinV d) = (l * l) * (sinV d * sinV d + cosV d * cosV d) := by grind
  generalize sinV d * sinV d + cosV d * cosV d = K at u1 u2 hAB
  obtain ⟨a1, a2⟩ := rnd_is (l * cosV d)
  obtain ⟨b1, b2⟩ := rnd_is (l * sinV d)
  generalize rnd (l * cosV d) = x at a1 a2 ⊢
  generalize rnd (l * sinV d) = y at b1 b2 ⊢
  generalize l * cosV d = A at a1 a2 hAB
  generalize l * sinV d = B at b1 b2 hAB
  have s1 : (4096 * x - A) * (4096 * x - A) + (4096 * y - B) * (4096 * y - B) ≤ 2897 * 2897 := by
    have e1 := (mul_bd (A := 2048) (B := 2048) a1 a2 a1 a2).2
    have e2 := (mul_bd (A := 2048) (B := 2048) b1 b2 b1 b2).2
    omega
  have hl0 := sq_nn l
  have v1 : (4096 * x) * (4096 * x) + (4096 * y) * (4096 * y) = 16777216 * (x * x + y * y) := by grind
  constructor
  · rcases Int.lt_or_le (x * x + y * y) ((l - 1) * (l - 1)) with k | k
    · have v2 : (4096 * (l - 1)) * (4096 * (l - 1)) = 16777216 * ((l - 1) * (l - 1)) := by grind
      have s2 : (-(4096 * x - A)) * (-(4096 * x - A)) + (-(4096 * y - B)) * (-(4096 * y - B)) ≤ 2897 * 2897 := by
        rw [Int.neg_mul_neg, Int.neg_mul_neg]; exact s1
      have t2 := tri (a := 4096 * x) (b := 4096 * y) (t := 4096 * (l - 1)) (by omega) (by omega) (by omega) s2
      rw [show 4096 * x + -(4096 * x - A) = A by omega, show 4096 * y + -(4096 * y - B) = B by omega] at t2
      have t3 : (l * 4094) * (l * 4094) ≤ A * A + B * B := by
        have k1 : (l * l) * (4094 * 4094) ≤ (l * l) * K := Int.mul_le_mul_of_nonneg_left (by omega) hl0
        have k2 : (l * l) * (4094 * 4094) = (l * 4094) * (l * 4094) := by grind
        omega
      have := le_of_sq (a := l * 4094) (b := 4096 * (l - 1) + 2897) (by omega) (by omega)
      omega
    · exact k
  · have t1 : A * A + B * B ≤ (l * 4097) * (l * 4097) := by
      have k1 : (l * l) * K ≤ (l * l) * (4097 * 4097) := Int.mul_le_mul_of_nonneg_left (by omega) hl0
      have k2 : (l * l) * (4097 * 4097) = (l * 4097) * (l * 4097) := by grind
      omega
    have t2 := tri (by omega) (by omega) t1 s1
    rw [show A + (4096 * x - A) = 4096 * x by omega, show B + (4096 * y - B) = 4096 * y by omega] at t2
    have v2 : (4096 * (l + 1)) * (4096 * (l + 1)) = 16777216 * ((l + 1) * (l + 1)) := by grind
    have v3 : (l * 4097 + 2897) * (l * 4097 + 2897) ≤ (4096 * (l + 1)) * (4096 * (l + 1)) := Int.mul_le_mul (by omega) (by omega) (by omega) (by omega)
    omega
theorem pt_bd (ls js : List Int) (h : ∀ k, k < ls.length → 1 ≤ ls.getD k 0 ∧ ls.getD k 0 ≤ 500) (k : Nat) (hk : k ≤ ls.length) :
    -(500 * (k : Int)) ≤ ptX ls js k ∧ ptX ls js k ≤ 500 * (k : Int) ∧ -(500 * (k : Int)) ≤ ptY ls js k ∧ ptY ls js k ≤ 500 * (k : Int) := by
  induction k with
  | zero => simp [ptX, ptY]
  | succ k ih =>
    have h0 := ih (by omega)
    obtain ⟨l1, l2⟩ := h k (by omega)
    have h2 := vec_bd (sumN js (k + 1)) l1 l2
    simp only [ptX, ptY]
    omega
/-- The tip is within the reach, up to 1 a link. -/
theorem pt_far (ls js : List Int) (h : ∀ k, k < ls.length → 1 ≤ ls.getD k 0 ∧ ls.getD k 0 ≤ 500) (k : Nat) (hk : k ≤ ls.length) :
    ptX ls js k * ptX ls js k + ptY ls js k * ptY ls js k ≤ (sumN ls k + (k : Int)) * (sumN ls k + (k : Int)) := by
  induction k with
  | zero => simp [ptX, ptY, sumN]
  | succ k ih =>
    have h0 := ih (by omega)
    obtain ⟨l1, l2⟩ := h k (by omega)
    have h2 := (vec_len (sumN js (k + 1)) l1 l2).2
    have h3 := (sumN_bd ls h k (by omega)).1
    have := tri (by omega) (by omega) h0 h2
    simp only [ptX, ptY, sumN] at *
    rw [show sumN ls k + ls.getD k 0 + ((k + 1 : Nat) : Int) = sumN ls k + (k : Int) + (ls.getD k 0 + 1) by omega]
    exact this
theorem sumN_zero (n k : Nat) : sumN (List.replicate n 0) k = 0 := by
  induction k with
  | zero => rfl
  | succ k ih =>
    simp only [sumN, ih]
    rw [List.getD_eq_getElem?_getD, List.getElem?_replicate]
    split <;> rfl
/-- A stretched arm lies on the X axis. -/
theorem pt_zero (ls : List Int) (h : ∀ k, k < ls.length → 1 ≤ ls.getD k 0 ∧ ls.getD k 0 ≤ 500) (n k : Nat) (hk : k ≤ ls.length) :
    ptX ls (List.replicate n 0) k = sumN ls k ∧ ptY ls (List.replicate n 0) k = 0 := by
  induction k with
  | zero => exact ⟨rfl, rfl⟩
  | succ k ih =>
    obtain ⟨i1, i2⟩ := ih (by omega)
    obtain ⟨l1, l2⟩ := h k (by omega)
    simp only [ptX, ptY, sumN_zero]
    rw [(rot0 (okLen l1 l2)).1, (rot0 (okLen l1 l2)).2, i1, i2]
    exact ⟨rfl, rfl⟩
end Go.Proofs.YtkogoflcacameaaDoor
