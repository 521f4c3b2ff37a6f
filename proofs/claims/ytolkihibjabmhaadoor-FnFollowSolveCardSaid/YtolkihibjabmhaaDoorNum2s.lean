/- Plain facts on rotated points: lengths are kept up to rounding; and on directions: equal greatest projections lie together. -/
import Derived.Test.YtolkihibjabmhaaDoorNum2
import Derived.Test.YtolkihibjabmhaaDoorNumS
namespace Go.Proofs.YtolkihibjabmhaaDoor
set_option maxRecDepth 100000

/-- The cosine. -/
def cosV (d : Int) : Int := sinV (deg d + 90)
theorem cosV_bd (d : Int) : -4096 ≤ cosV d ∧ cosV d ≤ 4096 := sinV_bd _
theorem unitSq (d : Int) : -8192 ≤ sinV d * sinV d + cosV d * cosV d - 16777216 ∧ sinV d * sinV d + cosV d * cosV d - 16777216 ≤ 8192 := by
  have := at360 (deg d) (deg_lo d) (deg_hi d)
  unfold cosV
  rw [sinV_deg] at this
  exact this.2.2.2
/-- Rounded to the nearest number of units, halves upwards. -/
def rnd (v : Int) : Int := flo (v + 2048) 4096
theorem rnd_is (v : Int) : -2048 ≤ 4096 * rnd v - v ∧ 4096 * rnd v - v ≤ 2048 := by unfold rnd flo; omega
theorem rnd_bd (v : Int) (h0 : -81920000 ≤ v) (h1 : v ≤ 81920000) : -20001 ≤ rnd v ∧ rnd v ≤ 20001 := by unfold rnd flo; omega
theorem rnd_4096 (n : Int) : rnd (4096 * n) = n := by unfold rnd flo; omega
def rotX (x y d : Int) : Int := if okP x y then rnd (x * cosV d - y * sinV d) else 0
def rotY (x y d : Int) : Int := if okP x y then rnd (x * sinV d + y * cosV d) else 0
theorem rotX_in {x y d : Int} (h : okP x y) : rotX x y d = rnd (x * cosV d - y * sinV d) := by unfold rotX; rw [if_pos h]
theorem rotY_in {x y d : Int} (h : okP x y) : rotY x y d = rnd (x * sinV d + y * cosV d) := by unfold rotY; rw [if_pos h]
theorem rotX_out {x y d : Int} (h : ¬ okP x y) : rotX x y d = 0 := by unfold rotX; rw [if_neg h]
theorem rotY_out {x y d : Int} (h : ¬ okP x y) : rotY x y d = 0 := by unfold rotY; rw [if_neg h]
theorem prod_bd {x s : Int} (h1 : -10000 ≤ x) (h2 : x ≤ 10000) (h3 : -4096 ≤ s) (h4 : s ≤ 4096) : -40960000 ≤ x * s ∧ x * s ≤ 40960000 := mul_bd (A := 10000) (B := 4096) h1 h2 h3 h4
theorem rot_bd (x y d : Int) : (-20001 ≤ rotX x y d ∧ rotX x y d ≤ 20001) ∧ (-20001 ≤ rotY x y d ∧ rotY x y d ≤ 20001) := by
  by_cases h : okP x y
  · obtain ⟨c0, c1⟩ := cosV_bd d
    obtain ⟨s0, s1⟩ := sinV_bd d
    obtain ⟨h1, h2, h3, h4⟩ := id h
    have p1 := prod_bd h1 h2 c0 c1
    have p2 := prod_bd h1 h2 s0 s1
    have p3 := prod_bd h3 h4 c0 c1
    have p4 := prod_bd h3 h4 s0 s1
    rw [rotX_in h, rotY_in h]
    exact ⟨rnd_bd _ (by omega) (by omega), rnd_bd _ (by omega) (by omega)⟩
  · rw [rotX_out h, rotY_out h]; omega
theorem cos90 : cosV 90 = 0 := by decide +kernel
theorem cos0 : cosV 0 = 4096 := by decide +kernel
theorem sin0 : sinV 0 = 0 := by decide +kernel
theorem rot90 {x y : Int} (h : okP x y) : rotX x y 90 = -y ∧ rotY x y 90 = x := by
  rw [rotX_in h, rotY_in h, cos90, sin90]
  constructor
  · rw [show x * 0 - y * 4096 = 4096 * (-y) by omega, rnd_4096]
  · rw [show x * 4096 + y * 0 = 4096 * x by omega, rnd_4096]
theorem rot0 {x y : Int} (h : okP x y) : rotX x y 0 = x ∧ rotY x y 0 = y := by
  rw [rotX_in h, rotY_in h, cos0, sin0]
  constructor
  · rw [show x * 4096 - y * 0 = 4096 * x by omega, rnd_4096]
  · rw [show x * 0 + y * 4096 = 4096 * y by omega, rnd_4096]

theorem le_of_sq {a b : Int} (hb : 0 ≤ b) (h : a * a ≤ b * b) : a ≤ b := by
  rcases Int.lt_or_le b a with k | k
  · have := sq_lt hb k
    have e : (b + 1) * (b + 1) = b * b + 2 * b + 1 := by grind
    omega
  · exact k
/-- The triangle's inequality for whole vectors. -/
theorem tri {a b e f t h : Int} (ht : 0 ≤ t) (hh : 0 ≤ h) (h1 : a * a + b * b ≤ t * t) (h2 : e * e + f * f ≤ h * h) :
    (a + e) * (a + e) + (b + f) * (b + f) ≤ (t + h) * (t + h) := by
  have c : (a * e + b * f) * (a * e + b * f) ≤ (t * h) * (t * h) := by
    have k1 : (a * e + b * f) * (a * e + b * f) + (a * f - b * e) * (a * f - b * e) = (a * a + b * b) * (e * e + f * f) := by grind
    have k2 := sq_nn (a * f - b * e)
    have k3 : (a * a + b * b) * (e * e + f * f) ≤ (t * t) * (h * h) :=
      Int.mul_le_mul h1 h2 (by have := sq_nn e; have := sq_nn f; omega) (sq_nn t)
    have k4 : (t * t) * (h * h) = (t * h) * (t * h) := by grind
    omega
  have c' := le_of_sq (Int.mul_nonneg ht hh) c
  have e1 : (a + e) * (a + e) + (b + f) * (b + f) = (a * a + b * b) + (e * e + f * f) + 2 * (a * e + b * f) := by grind
  have e2 : (t + h) * (t + h) = t * t + h * h + 2 * (t * h) := by grind
  omega
/-- Rotated lengths differ by at most 2 and a thousandth. -/
theorem rot_len {x y : Int} (d : Int) (hp : okP x y) :
    root (rotX x y d * rotX x y d + rotY x y d * rotY x y d) ≤ root (x * x + y * y) + 2 + root (x * x + y * y) / 1000 ∧
    root (x * x + y * y) ≤ root (rotX x y d * rotX x y d + rotY x y d * rotY x y d) + 2 + root (x * x + y * y) / 1000 := by
  rw [rotX_in hp, rotY_in hp]
  obtain ⟨u1, u2⟩ := unitSq d
  generalize hA : x * cosV d - y * sinV d = A
  generalize hB : x * sinV d + y * cosV d = B
  have hAB : A * A + B * B = (x * x + y * y) * (sinV d * sinV d + cosV d * cosV d) := by rw [← hA, ← hB]; grind
  generalize sinV d * sinV d + cosV d * cosV d = K at u1 u2 hAB
  have hN0 : 0 ≤ x * x + y * y := by have := sq_nn x; have := sq_nn y; omega
  generalize x * x + y * y = N at hAB hN0 ⊢
  obtain ⟨a1, a2⟩ := rnd_is A
  obtain ⟨b1, b2⟩ := rnd_is B
  generalize rnd A = qx at a1 a2 ⊢
  generalize rnd B = qy at b1 b2 ⊢
  have hM0 : 0 ≤ qx * qx + qy * qy := by have := sq_nn qx; have := sq_nn qy; omega
  obtain ⟨r1, r2⟩ := root_is N hN0
  have r0 := root_lo N
  generalize root N = r at r0 r1 r2 ⊢
  obtain ⟨m1, m2⟩ := root_is _ hM0
  have m0 := root_lo (qx * qx + qy * qy)
  have hq : 1000 * (r / 1000) ≤ r ∧ r ≤ 1000 * (r / 1000) + 999 := by omega
  obtain ⟨q1, q2⟩ := hq
  have q0 : 0 ≤ r / 1000 := by omega
  generalize r / 1000 = q at q0 q1 q2 ⊢
  have s1 : (4096 * qx - A) * (4096 * qx - A) + (4096 * qy - B) * (4096 * qy - B) ≤ 2897 * 2897 := by
    have e1 := (mul_bd (A := 2048) (B := 2048) a1 a2 a1 a2).2
    have e2 := (mul_bd (A := 2048) (B := 2048) b1 b2 b1 b2).2
    omega
  constructor
  · have t1 : A * A + B * B ≤ ((r + 1) * 4097) * ((r + 1) * 4097) := by
      have k1 : N * K ≤ ((r + 1) * (r + 1)) * (4097 * 4097) := Int.mul_le_mul (by omega) (by omega) (by omega) (sq_nn _)
      have k2 : ((r + 1) * (r + 1)) * (4097 * 4097) = ((r + 1) * 4097) * ((r + 1) * 4097) := by grind
      omega
    have t2 := tri (by omega) (by omega) t1 s1
    rw [show A + (4096 * qx - A) = 4096 * qx by omega, show B + (4096 * qy - B) = 4096 * qy by omega] at t2
    refine root_le _ _ hM0 (by omega) ?_
    rcases Int.lt_or_le (qx * qx + qy * qy) ((r + 2 + q + 1) * (r + 2 + q + 1)) with k | k
    · exact k
    · have e1 : (4096 * qx) * (4096 * qx) + (4096 * qy) * (4096 * qy) = 16777216 * (qx * qx + qy * qy) := by grind
      have e2 : (4096 * (r + 2 + q + 1)) * (4096 * (r + 2 + q + 1)) = 16777216 * ((r + 2 + q + 1) * (r + 2 + q + 1)) := by grind
      have := le_of_sq (a := 4096 * (r + 2 + q + 1)) (b := (r + 1) * 4097 + 2897) (by omega) (by omega)
      omega
  · rcases Int.lt_or_le (root (qx * qx + qy * qy) + 2 + q) r with k | k
    · have t1 : (4096 * qx) * (4096 * qx) + (4096 * qy) * (4096 * qy) ≤ (4096 * (root (qx * qx + qy * qy) + 1)) * (4096 * (root (qx * qx + qy * qy) + 1)) := by
        have e1 : (4096 * qx) * (4096 * qx) + (4096 * qy) * (4096 * qy) = 16777216 * (qx * qx + qy * qy) := by grind
        have e2 : (4096 * (root (qx * qx + qy * qy) + 1)) * (4096 * (root (qx * qx + qy * qy) + 1)) = 16777216 * ((root (qx * qx + qy * qy) + 1) * (root (qx * qx + qy * qy) + 1)) := by grind
        omega
      have s2 : (-(4096 * qx - A)) * (-(4096 * qx - A)) + (-(4096 * qy - B)) * (-(4096 * qy - B)) ≤ 2897 * 2897 := by
        rw [Int.neg_mul_neg, Int.neg_mul_neg]; exact s1
      have t2 := tri (by omega) (by omega) t1 s2
      rw [show 4096 * qx + -(4096 * qx - A) = A by omega, show 4096 * qy + -(4096 * qy - B) = B by omega] at t2
      have t3 : (r * 4094) * (r * 4094) ≤ A * A + B * B := by
        have k1 : (r * r) * (4094 * 4094) ≤ N * K := Int.mul_le_mul r1 (by omega) (by omega) hN0
        have k2 : (r * r) * (4094 * 4094) = (r * 4094) * (r * 4094) := by grind
        omega
      have := le_of_sq (a := r * 4094) (b := 4096 * (root (qx * qx + qy * qy) + 1) + 2897) (by omega) (by omega)
      omega
    · exact k
end Go.Proofs.YtolkihibjabmhaaDoor
