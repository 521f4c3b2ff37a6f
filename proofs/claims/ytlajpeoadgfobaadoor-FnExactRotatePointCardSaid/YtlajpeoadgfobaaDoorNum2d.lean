/- Plain facts on directions: the best direction has the greatest projection, and two directions of the same greatest projection are at most 3 degrees apart. -/
import Derived.Test.YtlajpeoadgfobaaDoorNum2s
namespace Go.Proofs.YtlajpeoadgfobaaDoor
set_option maxRecDepth 100000

theorem cosV_deg (d : Int) : cosV (deg d) = cosV d := by unfold cosV; rw [show deg (deg d) = deg d by unfold deg; omega]
theorem sinV_per (a b : Int) (h : deg a = deg b) : sinV a = sinV b := by rw [← sinV_deg a, ← sinV_deg b, h]
theorem cosV_per (a b : Int) (h : deg a = deg b) : cosV a = cosV b := by rw [← cosV_deg a, ← cosV_deg b, h]
theorem sinV_opp (a : Int) : sinV (a + 180) = - sinV a := by
  have := (at360 (deg a) (deg_lo a) (deg_hi a)).1
  rw [sinV_deg] at this
  rw [← this]
  exact sinV_per _ _ (by unfold deg; omega)
theorem cosV_opp (a : Int) : cosV (a + 180) = - cosV a := by
  unfold cosV
  rw [← sinV_opp]
  exact sinV_per _ _ (by unfold deg; omega)

/-- The projection of a point on a direction, times the unit. -/
def proj (x y d : Int) : Int := x * cosV d + y * sinV d
theorem proj_per (x y a b : Int) (h : deg a = deg b) : proj x y a = proj x y b := by unfold proj; rw [sinV_per a b h, cosV_per a b h]
theorem proj_opp (x y a : Int) : proj (-x) (-y) a = proj x y (a + 180) := by
  unfold proj; rw [sinV_opp, cosV_opp]; grind
theorem proj_bd {x y : Int} (h : okP x y) (d : Int) : -81920000 ≤ proj x y d ∧ proj x y d ≤ 81920000 := by
  obtain ⟨h1, h2, h3, h4⟩ := h
  obtain ⟨c0, c1⟩ := cosV_bd d
  obtain ⟨s0, s1⟩ := sinV_bd d
  have p1 := prod_bd h1 h2 c0 c1
  have p2 := prod_bd h3 h4 s0 s1
  unfold proj; omega
/-- The best direction among 0..n: the first with the greatest projection. -/
def bestN (x y : Int) : Nat → Nat
  | 0 => 0
  | n + 1 => if proj x y (bestN x y n : Int) < proj x y ((n : Int) + 1) then n + 1 else bestN x y n
theorem bestN_yes {x y : Int} {n : Nat} (h : proj x y (bestN x y n : Int) < proj x y ((n : Int) + 1)) : bestN x y (n + 1) = n + 1 := by
  show (if _ then _ else _) = _; rw [if_pos h]
theorem bestN_no {x y : Int} {n : Nat} (h : ¬ proj x y (bestN x y n : Int) < proj x y ((n : Int) + 1)) : bestN x y (n + 1) = bestN x y n := by
  show (if _ then _ else _) = _; rw [if_neg h]
theorem bestN_le (x y : Int) (n : Nat) : bestN x y n ≤ n := by
  induction n with
  | zero => exact Nat.le_refl _
  | succ n ih =>
    by_cases h : proj x y (bestN x y n : Int) < proj x y ((n : Int) + 1)
    · rw [bestN_yes h]; exact Nat.le_refl _
    · rw [bestN_no h]; omega
theorem bestN_max (x y : Int) (n m : Nat) (hm : m ≤ n) : proj x y (m : Int) ≤ proj x y (bestN x y n : Int) := by
  induction n with
  | zero => rw [show m = 0 by omega]; exact Int.le_refl _
  | succ n ih =>
    by_cases h : proj x y (bestN x y n : Int) < proj x y ((n : Int) + 1)
    · rw [bestN_yes h]
      by_cases hn : m ≤ n
      · have := ih hn; have e : ((n + 1 : Nat) : Int) = (n : Int) + 1 := by omega
        rw [e]; omega
      · rw [show m = n + 1 by omega]; exact Int.le_refl _
    · rw [bestN_no h]
      by_cases hn : m ≤ n
      · exact ih hn
      · have e : (m : Int) = (n : Int) + 1 := by omega
        rw [e]; omega
theorem best_all (x y d : Int) : proj x y d ≤ proj x y (bestN x y 359 : Int) := by
  have := bestN_max x y 359 (deg d).toNat (by have := deg_hi d; omega)
  rw [show (((deg d).toNat : Nat) : Int) = deg d by have := deg_lo d; omega] at this
  rw [proj_per x y d (deg d) (by unfold deg; omega)]; exact this
theorem bestN_zero {x : Int} (hx : 0 < x) (n : Nat) : bestN x 0 n = 0 := by
  induction n with
  | zero => rfl
  | succ n ih =>
    have h : ¬ proj x 0 (bestN x 0 n : Int) < proj x 0 ((n : Int) + 1) := by
      rw [ih]
      have e : proj x 0 ((0 : Nat) : Int) = x * 4096 := by unfold proj; rw [show ((0 : Nat) : Int) = 0 from rfl, cos0]; omega
      rw [e]
      unfold proj
      have := Int.mul_le_mul_of_nonneg_left (cosV_bd ((n : Int) + 1)).2 (show 0 ≤ x by omega)
      omega
    rw [bestN_no h, ih]
/-- What DirectionOf returns. -/
def dirV (x y : Int) : Int := if okP x y ∧ ¬ (x = 0 ∧ y = 0) then (bestN x y 359 : Int) else -1
theorem dirV_in {x y : Int} (h : okP x y) (h0 : ¬ (x = 0 ∧ y = 0)) : dirV x y = (bestN x y 359 : Int) := by unfold dirV; rw [if_pos ⟨h, h0⟩]
theorem dirV_out {x y : Int} (h : ¬ (okP x y ∧ ¬ (x = 0 ∧ y = 0))) : dirV x y = -1 := by unfold dirV; rw [if_neg h]

/-- The vectors of the whole degrees. -/
def uv : List (Int × Int) := [(4096, 0), (4095, 71), (4094, 143), (4090, 214), (4086, 286), (4080, 357), (4074, 428), (4065, 499), (4056, 570), (4046, 641), (4034, 711), (4021, 782), (4006, 852), (3991, 921), (3974, 991), (3956, 1060), (3937, 1129), (3917, 1198), (3896, 1266), (3873, 1334), (3849, 1401), (3824, 1468), (3798, 1534), (3770, 1600), (3742, 1666), (3712, 1731), (3681, 1796), (3650, 1860), (3617, 1923), (3582, 1986), (3547, 2048), (3511, 2110), (3474, 2171), (3435, 2231), (3396, 2290), (3355, 2349), (3314, 2408), (3271, 2465), (3228, 2522), (3183, 2578), (3138, 2633), (3091, 2687), (3044, 2741), (2996, 2793), (2946, 2845), (2896, 2896), (2845, 2946), (2793, 2996), (2741, 3044), (2687, 3091), (2633, 3138), (2578, 3183), (2522, 3228), (2465, 3271), (2408, 3314), (2349, 3355), (2290, 3396), (2231, 3435), (2171, 3474), (2110, 3511), (2048, 3547), (1986, 3582), (1923, 3617), (1860, 3650), (1796, 3681), (1731, 3712), (1666, 3742), (1600, 3770), (1534, 3798), (1468, 3824), (1401, 3849), (1334, 3873), (1266, 3896), (1198, 3917), (1129, 3937), (1060, 3956), (991, 3974), (921, 3991), (852, 4006), (782, 4021), (711, 4034), (641, 4046), (570, 4056), (499, 4065), (428, 4074), (357, 4080), (286, 4086), (214, 4090), (143, 4094), (71, 4095), (0, 4096), (-71, 4095), (-143, 4094), (-214, 4090), (-286, 4086), (-357, 4080), (-428, 4074), (-499, 4065), (-570, 4056), (-641, 4046), (-711, 4034), (-782, 4021), (-852, 4006), (-921, 3991), (-991, 3974), (-1060, 3956), (-1129, 3937), (-1198, 3917), (-1266, 3896), (-1334, 3873), (-1401, 3849), (-1468, 3824), (-1534, 3798), (-1600, 3770), (-1666, 3742), (-1731, 3712), (-1796, 3681), (-1860, 3650), (-1923, 3617), (-1986, 3582), (-2048, 3547), (-2110, 3511), (-2171, 3474), (-2231, 3435), (-2290, 3396), (-2349, 3355), (-2408, 3314), (-2465, 3271), (-2522, 3228), (-2578, 3183), (-2633, 3138), (-2687, 3091), (-2741, 3044), (-2793, 2996), (-2845, 2946), (-2896, 2896), (-2946, 2845), (-2996, 2793), (-3044, 2741), (-3091, 2687), (-3138, 2633), (-3183, 2578), (-3228, 2522), (-3271, 2465), (-3314, 2408), (-3355, 2349), (-3396, 2290), (-3435, 2231), (-3474, 2171), (-3511, 2110), (-3547, 2048), (-3582, 1986), (-3617, 1923), (-3650, 1860), (-3681, 1796), (-3712, 1731), (-3742, 1666), (-3770, 1600), (-3798, 1534), (-3824, 1468), (-3849, 1401), (-3873, 1334), (-3896, 1266), (-3917, 1198), (-3937, 1129), (-3956, 1060), (-3974, 991), (-3991, 921), (-4006, 852), (-4021, 782), (-4034, 711), (-4046, 641), (-4056, 570), (-4065, 499), (-4074, 428), (-4080, 357), (-4086, 286), (-4090, 214), (-4094, 143), (-4095, 71), (-4096, 0), (-4095, -71), (-4094, -143), (-4090, -214), (-4086, -286), (-4080, -357), (-4074, -428), (-4065, -499), (-4056, -570), (-4046, -641), (-4034, -711), (-4021, -782), (-4006, -852), (-3991, -921), (-3974, -991), (-3956, -1060), (-3937, -1129), (-3917, -1198), (-3896, -1266), (-3873, -1334), (-3849, -1401), (-3824, -1468), (-3798, -1534), (-3770, -1600), (-3742, -1666), (-3712, -1731), (-3681, -1796), (-3650, -1860), (-3617, -1923), (-3582, -1986), (-3547, -2048), (-3511, -2110), (-3474, -2171), (-3435, -2231), (-3396, -2290), (-3355, -2349), (-3314, -2408), (-3271, -2465), (-3228, -2522), (-3183, -2578), (-3138, -2633), (-3091, -2687), (-3044, -2741), (-2996, -2793), (-2946, -2845), (-2896, -2896), (-2845, -2946), (-2793, -2996), (-2741, -3044), (-2687, -3091), (-2633, -3138), (-2578, -3183), (-2522, -3228), (-2465, -3271), (-2408, -3314), (-2349, -3355), (-2290, -3396), (-2231, -3435), (-2171, -3474), (-2110, -3511), (-2048, -3547), (-1986, -3582), (-1923, -3617), (-1860, -3650), (-1796, -3681), (-1731, -3712), (-1666, -3742), (-1600, -3770), (-1534, -3798), (-1468, -3824), (-1401, -3849), (-1334, -3873), (-1266, -3896), (-1198, -3917), (-1129, -3937), (-1060, -3956), (-991, -3974), (-921, -3991), (-852, -4006), (-782, -4021), (-711, -4034), (-641, -4046), (-570, -4056), (-499, -4065), (-428, -4074), (-357, -4080), (-286, -4086), (-214, -4090), (-143, -4094), (-71, -4095), (0, -4096), (71, -4095), (143, -4094), (214, -4090), (286, -4086), (357, -4080), (428, -4074), (499, -4065), (570, -4056), (641, -4046), (711, -4034), (782, -4021), (852, -4006), (921, -3991), (991, -3974), (1060, -3956), (1129, -3937), (1198, -3917), (1266, -3896), (1334, -3873), (1401, -3849), (1468, -3824), (1534, -3798), (1600, -3770), (1666, -3742), (1731, -3712), (1796, -3681), (1860, -3650), (1923, -3617), (1986, -3582), (2048, -3547), (2110, -3511), (2171, -3474), (2231, -3435), (2290, -3396), (2349, -3355), (2408, -3314), (2465, -3271), (2522, -3228), (2578, -3183), (2633, -3138), (2687, -3091), (2741, -3044), (2793, -2996), (2845, -2946), (2896, -2896), (2946, -2845), (2996, -2793), (3044, -2741), (3091, -2687), (3138, -2633), (3183, -2578), (3228, -2522), (3271, -2465), (3314, -2408), (3355, -2349), (3396, -2290), (3435, -2231), (3474, -2171), (3511, -2110), (3547, -2048), (3582, -1986), (3617, -1923), (3650, -1860), (3681, -1796), (3712, -1731), (3742, -1666), (3770, -1600), (3798, -1534), (3824, -1468), (3849, -1401), (3873, -1334), (3896, -1266), (3917, -1198), (3937, -1129), (3956, -1060), (3974, -991), (3991, -921), (4006, -852), (4021, -782), (4034, -711), (4046, -641), (4056, -570), (4065, -499), (4074, -428), (4080, -357), (4086, -286), (4090, -214), (4094, -143), (4095, -71)]
def uv2 : List (Int × Int) := uv ++ uv
theorem uv_at : ∀ n : Fin 360, uv[n.val]? = some (cosV (n.val : Int), sinV (n.val : Int)) := by decide +kernel
theorem uv2_at (n : Nat) (h : n < 720) : uv2[n]? = some (cosV (n : Int), sinV (n : Int)) := by
  have hl : uv.length = 360 := by decide +kernel
  unfold uv2
  by_cases hn : n < 360
  · rw [List.getElem?_append_left (by omega)]; exact uv_at ⟨n, hn⟩
  · rw [List.getElem?_append_right (by omega), hl]
    have := uv_at ⟨n - 360, by omega⟩
    simp only at this
    rw [this, cosV_per (n : Int) ((n - 360 : Nat) : Int) (by unfold deg; omega), sinV_per (n : Int) ((n - 360 : Nat) : Int) (by unfold deg; omega)]
/-- m lies beyond the chord from d to e, and the point opposite to m before it. -/
def chk (dx dy : Int) (e m : Int × Int) : Bool :=
  decide ((e.1 - dx) * (m.2 - dy) - (e.2 - dy) * (m.1 - dx) < 0) && decide (0 < (e.1 - dx) * (-m.2 - dy) - (e.2 - dy) * (-m.1 - dx))
def row (dx dy : Int) : List (Int × Int) → List (Int × Int) → Bool
  | e1 :: e2 :: es, m :: ms => chk dx dy e1 m && chk dx dy e2 m && row dx dy es ms
  | _, _ => true
theorem row_spec (dx dy : Int) : ∀ (q : Nat) (es ms : List (Int × Int)) (j : Nat) (e m e' : Int × Int), row dx dy es ms = true → (j = 2 * q ∨ j = 2 * q + 1) → es[j]? = some e → es[2 * q + 1]? = some e' → ms[q]? = some m → chk dx dy e m = true
  | 0, [], _, _, _, _, _, _, _, _, h, _ => by simp at h
  | 0, [_], _, _, _, _, _, _, _, _, h, _ => by simp at h
  | 0, e1 :: e2 :: es, [], _, _, _, _, _, _, _, _, h => by simp at h
  | 0, e1 :: e2 :: es, m1 :: ms, j, e, m, e', hr, hj, he, _, hm => by
    simp only [row, Bool.and_eq_true] at hr
    simp at hm
    subst hm
    rcases hj with rfl | rfl
    · simp at he; subst he; exact hr.1.1
    · simp at he; subst he; exact hr.1.2
  | q + 1, [], _, _, _, _, _, _, _, _, h, _ => by simp at h
  | q + 1, [_], _, _, _, _, _, _, _, _, h, _ => by simp at h
  | q + 1, e1 :: e2 :: es, [], _, _, _, _, _, _, _, _, h => by simp at h
  | q + 1, e1 :: e2 :: es, m1 :: ms, j, e, m, e', hr, hj, he, he', hm => by
    simp only [row, Bool.and_eq_true] at hr
    obtain ⟨i, rfl⟩ : ∃ i, j = i + 2 := ⟨j - 2, by omega⟩
    refine row_spec dx dy q es ms i e m e' hr.2 (by omega) ?_ ?_ ?_
    · simpa using he
    · have : 2 * (q + 1) + 1 = (2 * q + 1) + 2 := by omega
      rw [this] at he'; simpa using he'
    · simpa using hm
def rows : Nat → List (Int × Int) → Bool
  | n + 1, d :: t => row d.1 d.2 ((t.drop 3).take 178) (t.drop 1) && rows n t
  | _, _ => true
theorem rows_spec : ∀ (n : Nat) (l : List (Int × Int)) (i : Nat) (d : Int × Int), rows n l = true → i < n → l[i]? = some d → row d.1 d.2 ((l.drop (i + 4)).take 178) (l.drop (i + 2)) = true
  | 0, _, _, _, _, h, _ => by omega
  | n + 1, [], _, _, _, _, h => by simp at h
  | n + 1, d :: t, 0, d', hr, _, hd => by
    simp only [rows, Bool.and_eq_true] at hr
    simp at hd
    subst hd
    simpa using hr.1
  | n + 1, d :: t, i + 1, d', hr, hi, hd => by
    simp only [rows, Bool.and_eq_true] at hr
    have := rows_spec n t i d' hr.2 (by omega) (by simpa using hd)
    simpa [show i + 1 + 4 = (i + 4) + 1 by omega, show i + 1 + 2 = (i + 2) + 1 by omega] using this
theorem rows_all : rows 90 uv2 = true := by decide +kernel
theorem far90 (d k : Nat) (hd : d < 90) (h4 : 4 ≤ k) (hk : k ≤ 180) : chk (cosV d) (sinV d) (cosV ((d + k : Nat) : Int), sinV ((d + k : Nat) : Int)) (cosV ((d + k / 2 : Nat) : Int), sinV ((d + k / 2 : Nat) : Int)) = true := by
  have h := rows_spec 90 uv2 d _ rows_all hd (uv2_at d (by omega))
  have g : ∀ j, j < 178 → ((uv2.drop (d + 4)).take 178)[j]? = some (cosV ((d + 4 + j : Nat) : Int), sinV ((d + 4 + j : Nat) : Int)) := fun j hj => by
    rw [List.getElem?_take_of_lt hj, List.getElem?_drop]; exact uv2_at _ (by omega)
  have m : (uv2.drop (d + 2))[(k - 4) / 2]? = some (cosV ((d + k / 2 : Nat) : Int), sinV ((d + k / 2 : Nat) : Int)) := by
    rw [List.getElem?_drop, show d + 2 + (k - 4) / 2 = d + k / 2 by omega]; exact uv2_at _ (by omega)
  have e := g (k - 4) (by omega)
  rw [show d + 4 + (k - 4) = d + k by omega] at e
  exact row_spec _ _ ((k - 4) / 2) _ _ (k - 4) _ _ _ h (by omega) e (g (2 * ((k - 4) / 2) + 1) (by omega)) m
theorem sinV_turn (a : Int) : sinV (a + 90) = cosV a := by unfold cosV; exact sinV_per _ _ (by unfold deg; omega)
theorem cosV_turn (a : Int) : cosV (a + 90) = - sinV a := by
  unfold cosV
  rw [← sinV_opp]
  exact sinV_per _ _ (by unfold deg; omega)
theorem chk_turn (dx dy : Int) (e m : Int × Int) : chk (-dy) dx (-e.2, e.1) (-m.2, m.1) = chk dx dy e m := by
  unfold chk
  have h1 : (-e.2 - -dy) * (m.1 - dx) - (e.1 - dx) * (-m.2 - -dy) = (e.1 - dx) * (m.2 - dy) - (e.2 - dy) * (m.1 - dx) := by grind
  have h2 : (-e.2 - -dy) * (-m.1 - dx) - (e.1 - dx) * (- -m.2 - -dy) = (e.1 - dx) * (-m.2 - dy) - (e.2 - dy) * (-m.1 - dx) := by grind
  simp only
  rw [h1, h2]
theorem far_turn (d k : Nat) (h : chk (cosV d) (sinV d) (cosV ((d + k : Nat) : Int), sinV ((d + k : Nat) : Int)) (cosV ((d + k / 2 : Nat) : Int), sinV ((d + k / 2 : Nat) : Int)) = true) :
    chk (cosV ((d + 90 : Nat) : Int)) (sinV ((d + 90 : Nat) : Int)) (cosV ((d + 90 + k : Nat) : Int), sinV ((d + 90 + k : Nat) : Int)) (cosV ((d + 90 + k / 2 : Nat) : Int), sinV ((d + 90 + k / 2 : Nat) : Int)) = true := by
  rw [show ((d + 90 : Nat) : Int) = (d : Int) + 90 by omega, show ((d + 90 + k : Nat) : Int) = ((d + k : Nat) : Int) + 90 by omega, show ((d + 90 + k / 2 : Nat) : Int) = ((d + k / 2 : Nat) : Int) + 90 by omega]
  simp only [sinV_turn, cosV_turn]
  rw [← h]
  exact chk_turn (cosV d) (sinV d) (cosV ((d + k : Nat) : Int), sinV ((d + k : Nat) : Int)) (cosV ((d + k / 2 : Nat) : Int), sinV ((d + k / 2 : Nat) : Int))
theorem far (d k : Nat) (hd : d < 360) (h4 : 4 ≤ k) (hk : k ≤ 180) : chk (cosV d) (sinV d) (cosV ((d + k : Nat) : Int), sinV ((d + k : Nat) : Int)) (cosV ((d + k / 2 : Nat) : Int), sinV ((d + k / 2 : Nat) : Int)) = true := by
  by_cases h1 : d < 90
  · exact far90 d k h1 h4 hk
  by_cases h2 : d < 180
  · have := far_turn (d - 90) k (far90 (d - 90) k (by omega) h4 hk)
    rwa [show d - 90 + 90 = d by omega] at this
  by_cases h3 : d < 270
  · have := far_turn _ k (far_turn (d - 180) k (far90 (d - 180) k (by omega) h4 hk))
    rwa [show d - 180 + 90 + 90 = d by omega] at this
  · have := far_turn _ k (far_turn _ k (far_turn (d - 270) k (far90 (d - 270) k (by omega) h4 hk)))
    rwa [show d - 270 + 90 + 90 + 90 = d by omega] at this
theorem signs {A t t' y s s' : Int} (h1 : A * t = y * s) (h2 : A * t' = y * s') (ht : t ≤ 0) (ht' : t' ≤ 0) (hs : s < 0) (hs' : 0 < s') : y = 0 := by
  have pos : ∀ {u v : Int}, 0 < v → u * v ≤ 0 → u ≤ 0 := fun {u v} hv h => by
    rcases Int.lt_or_le 0 u with k | k
    · have := Int.mul_pos k hv; omega
    · exact k
  rcases Int.le_total 0 A with hA | hA
  · have a1 : A * t ≤ 0 := Int.mul_nonpos_of_nonneg_of_nonpos hA ht
    have a2 : A * t' ≤ 0 := Int.mul_nonpos_of_nonneg_of_nonpos hA ht'
    have b1 := pos hs' (by omega : y * s' ≤ 0)
    have b2 := pos (u := -y) (v := -s) (by omega) (by rw [Int.neg_mul_neg]; omega)
    omega
  · have a1 : 0 ≤ A * t := by have := Int.mul_nonneg (show 0 ≤ -A by omega) (show 0 ≤ -t by omega); rw [Int.neg_mul_neg] at this; exact this
    have a2 : 0 ≤ A * t' := by have := Int.mul_nonneg (show 0 ≤ -A by omega) (show 0 ≤ -t' by omega); rw [Int.neg_mul_neg] at this; exact this
    have b1 := pos (u := -y) (v := s') hs' (by rw [Int.neg_mul]; omega)
    have b2 := pos (u := y) (v := -s) (by omega) (by rw [Int.mul_neg]; omega)
    omega
theorem near1 {x y : Int} (h0 : ¬ (x = 0 ∧ y = 0)) (d k : Nat) (hd : d < 360) (h4 : 4 ≤ k) (hk : k ≤ 180) (hm : ∀ n : Int, proj x y n ≤ proj x y (d : Int)) (he : proj x y ((d + k : Nat) : Int) = proj x y (d : Int)) : False := by
  have f := far d k hd h4 hk
  unfold chk at f
  simp only [Bool.and_eq_true, decide_eq_true_eq] at f
  obtain ⟨f1, f2⟩ := f
  have m1 := hm ((d + k / 2 : Nat) : Int)
  have m2 := hm (((d + k / 2 : Nat) : Int) + 180)
  rw [← proj_opp] at m2
  unfold proj at he m1 m2
  generalize cosV ((d + k : Nat) : Int) = ex at *
  generalize sinV ((d + k : Nat) : Int) = ey at *
  generalize cosV ((d + k / 2 : Nat) : Int) = mx at *
  generalize sinV ((d + k / 2 : Nat) : Int) = my at *
  generalize cosV (d : Int) = dx at *
  generalize sinV (d : Int) = dy at *
  have t1 : x * (mx - dx) + y * (my - dy) ≤ 0 := by grind
  have t2 : x * (-mx - dx) + y * (-my - dy) ≤ 0 := by grind
  have hy := signs (A := ex - dx) (t := x * (mx - dx) + y * (my - dy)) (t' := x * (-mx - dx) + y * (-my - dy)) (y := y) (s := (ex - dx) * (my - dy) - (ey - dy) * (mx - dx)) (s' := (ex - dx) * (-my - dy) - (ey - dy) * (-mx - dx)) (by grind) (by grind) t1 t2 f1 f2
  have hx := signs (A := -(ey - dy)) (t := x * (mx - dx) + y * (my - dy)) (t' := x * (-mx - dx) + y * (-my - dy)) (y := x) (s := (ex - dx) * (my - dy) - (ey - dy) * (mx - dx)) (s' := (ex - dx) * (-my - dy) - (ey - dy) * (-mx - dx)) (by grind) (by grind) t1 t2 f1 f2
  exact h0 ⟨hx, hy⟩
theorem near {x y : Int} (h0 : ¬ (x = 0 ∧ y = 0)) (d e : Nat) (hd : d < 360) (he : e < 360) (md : ∀ n : Int, proj x y n ≤ proj x y (d : Int)) (me : ∀ n : Int, proj x y n ≤ proj x y (e : Int)) : ang (d : Int) (e : Int) ≤ 3 := by
  have eq : proj x y (d : Int) = proj x y (e : Int) := Int.le_antisymm (me _) (md _)
  rcases Int.lt_or_le 3 (ang (d : Int) (e : Int)) with h | h
  · exfalso
    unfold ang at h
    have d1 : deg (d : Int) = d := by unfold deg; omega
    have e1 : deg (e : Int) = e := by unfold deg; omega
    rw [d1, e1] at h
    by_cases hk : deg ((d : Int) - e) ≤ 180
    · rw [if_pos hk] at h
      have k0 := deg_lo ((d : Int) - e)
      refine near1 h0 e (deg ((d : Int) - e)).toNat he (by omega) (by omega) me ?_
      rw [← eq]
      exact proj_per _ _ _ _ (by unfold deg at *; omega)
    · rw [if_neg hk] at h
      have k0 := deg_hi ((d : Int) - e)
      refine near1 h0 d (360 - deg ((d : Int) - e)).toNat hd (by omega) (by omega) md ?_
      rw [eq]
      exact proj_per _ _ _ _ (by unfold deg at *; omega)
  · exact h
theorem dir_opp {x y : Int} (h0 : ¬ (x = 0 ∧ y = 0)) : 177 ≤ ang (bestN x y 359 : Int) (bestN (-x) (-y) 359 : Int) := by
  have l1 := bestN_le x y 359
  have l2 := bestN_le (-x) (-y) 359
  have m1 := best_all x y
  have m2 := best_all (-x) (-y)
  generalize bestN x y 359 = d at *
  generalize bestN (-x) (-y) 359 = e at *
  have hE : ((deg ((e : Int) + 180)).toNat : Int) = deg ((e : Int) + 180) := by have := deg_lo ((e : Int) + 180); omega
  have n := near h0 d (deg ((e : Int) + 180)).toNat (by omega) (by have := deg_hi ((e : Int) + 180); omega) m1 (fun n => by
    have := m2 (n - 180)
    rw [proj_opp, proj_opp, show n - 180 + 180 = n by omega] at this
    rw [hE, proj_per x y (deg ((e : Int) + 180)) ((e : Int) + 180) (by unfold deg; omega)]
    exact this)
  rw [hE] at n
  have b := ang_back (d : Int) (deg ((e : Int) + 180))
  have c : ang (d : Int) (deg (deg ((e : Int) + 180)) + 180) = ang (d : Int) (e : Int) := by
    unfold ang; rw [show deg (deg (deg ((e : Int) + 180)) + 180) = deg (e : Int) by unfold deg; omega]
  omega
end Go.Proofs.YtlajpeoadgfobaaDoor
