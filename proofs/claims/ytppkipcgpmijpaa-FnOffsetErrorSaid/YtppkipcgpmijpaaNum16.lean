/- Plain mathematics: pairs of a measured and a true value, their offset, its error, their slope, their outliers. -/
import Derived.Test.YtppkipcgpmijpaaZcPts
namespace Go.Proofs.Ytppkipcgpmijpaa
set_option maxRecDepth 100000
def okPair (c : Int × Int) : Prop := (-1000 ≤ c.1 ∧ c.1 ≤ 1000) ∧ -1000 ≤ c.2 ∧ c.2 ≤ 1000
instance (c : Int × Int) : Decidable (okPair c) := by unfold okPair; infer_instance
def okPairs (L : List (Int × Int)) : Prop := (1 ≤ L.length ∧ L.length ≤ 20) ∧ ∀ c ∈ L, okPair c
instance (L : List (Int × Int)) : Decidable (okPairs L) := by unfold okPairs; infer_instance
/-- A sum over pairs. -/
def sumR (f : Int × Int → Int) : List (Int × Int) → Int
  | [] => 0
  | c :: L => f c + sumR f L
theorem sumR_app (f : Int × Int → Int) : ∀ L M : List (Int × Int), sumR f (L ++ M) = sumR f L + sumR f M
  | [], M => by simp [sumR]
  | c :: L, M => by simp only [List.cons_append, sumR]; rw [sumR_app f L M]; omega
theorem sumR_take (f : Int × Int → Int) (L : List (Int × Int)) {k : Nat} (hk : k < L.length) : sumR f (L.take (k + 1)) = sumR f (L.take k) + f (L.getD k (0, 0)) := by
  rw [List.take_succ_eq_append_getElem hk, sumR_app, List.getD_eq_getElem?_getD, List.getElem?_eq_getElem hk, Option.getD_some]
  simp [sumR]
theorem sumR_all (f : Int × Int → Int) (L : List (Int × Int)) : sumR f (L.take L.length) = sumR f L := by rw [List.take_length]
theorem sumR_bd {f : Int × Int → Int} {m : Int} : ∀ {L : List (Int × Int)}, (∀ c ∈ L, -m ≤ f c ∧ f c ≤ m) → -(m * L.length) ≤ sumR f L ∧ sumR f L ≤ m * L.length
  | [], _ => by simp [sumR]
  | c :: L, h => by
    have h1 := h c (List.mem_cons_self ..)
    have h2 := sumR_bd (L := L) (fun d hd => h d (List.mem_cons_of_mem _ hd))
    simp only [sumR, List.length_cons]
    have e : m * ((L.length + 1 : Nat) : Int) = m * (L.length : Int) + m := by rw [Int.natCast_add, Int.mul_add]; simp
    rw [e]; omega
theorem sumR_map (f : Int × Int → Int) (g : Int × Int → Int × Int) : ∀ L : List (Int × Int), sumR f (L.map g) = sumR (fun c => f (g c)) L
  | [] => rfl
  | c :: L => by simp only [List.map_cons, sumR]; rw [sumR_map f g L]
theorem sumR_congr {f g : Int × Int → Int} : ∀ {L : List (Int × Int)}, (∀ c ∈ L, f c = g c) → sumR f L = sumR g L
  | [], _ => rfl
  | c :: L, h => by
    simp only [sumR]
    rw [h c (List.mem_cons_self ..), sumR_congr (fun d hd => h d (List.mem_cons_of_mem _ hd))]
theorem sumR_add (f g : Int × Int → Int) : ∀ L : List (Int × Int), sumR (fun c => f c + g c) L = sumR f L + sumR g L
  | [] => rfl
  | c :: L => by simp only [sumR]; rw [sumR_add f g L]; omega
theorem sumR_mul (k : Int) (f : Int × Int → Int) : ∀ L : List (Int × Int), sumR (fun c => k * f c) L = k * sumR f L
  | [] => by simp [sumR]
  | c :: L => by simp only [sumR]; rw [sumR_mul k f L, Int.mul_add]
theorem sumR_one (k : Int) : ∀ L : List (Int × Int), sumR (fun _ => k) L = k * L.length
  | [] => by simp [sumR]
  | c :: L => by
    simp only [sumR, List.length_cons]; rw [sumR_one k L, Int.natCast_add, Int.mul_add]; simp; omega
/-- True less Measured. -/
def dif (c : Int × Int) : Int := c.2 - c.1
def sqr (n : Int) : Int := n * n
/-- The offset. -/
def offN (L : List (Int × Int)) : Int := flo (2 * sumR dif L + L.length) (2 * L.length)
def offV (L : List (Int × Int)) : Int := if okPairs L then offN L else 0
/-- The error of an offset. -/
def errN (L : List (Int × Int)) (o : Int) : Int := sumR (fun c => sqr (dif c - o)) L
def errV (L : List (Int × Int)) (o : Int) : Int := if okPairs L ∧ -2000 ≤ o ∧ o ≤ 2000 then errN L o else -1
theorem sqr_nonneg (n : Int) : 0 ≤ sqr n := by
  unfold sqr
  rcases Int.lt_or_le n 0 with h | h
  · rw [← Int.neg_mul_neg]; exact Int.mul_nonneg (by omega) (by omega)
  · exact Int.mul_nonneg h h
theorem sqr_zero {n : Int} (h : sqr n = 0) : n = 0 := by unfold sqr at h; exact (Int.mul_eq_zero.1 h).elim id id
theorem sqr_bd {n m : Int} (h0 : -m ≤ n) (h1 : n ≤ m) : sqr n ≤ sqr m := by
  unfold sqr
  rcases Int.lt_or_le n 0 with h | h
  · have := Int.mul_le_mul (show -n ≤ m by omega) (show -n ≤ m by omega) (by omega) (by omega)
    rwa [Int.neg_mul_neg] at this
  · exact Int.mul_le_mul h1 h1 h (by omega)
theorem dif_bd {c : Int × Int} (h : okPair c) : -2000 ≤ dif c ∧ dif c ≤ 2000 := by unfold dif; obtain ⟨⟨_, _⟩, _, _⟩ := h; omega
theorem errN_nonneg (L : List (Int × Int)) (o : Int) : 0 ≤ errN L o := by
  unfold errN
  induction L with
  | nil => simp [sumR]
  | cons c L ih => simp only [sumR]; have := sqr_nonneg (dif c - o); omega
theorem errN_app (L M : List (Int × Int)) (o : Int) : errN (L ++ M) o = errN L o + errN M o := sumR_app _ L M
/-- No error exactly if all pairs have the offset. -/
theorem errN_zero (L : List (Int × Int)) (o : Int) : errN L o = 0 ↔ ∀ c ∈ L, dif c = o := by
  induction L with
  | nil => simp [errN, sumR]
  | cons c L ih =>
    have h1 := sqr_nonneg (dif c - o)
    have h2 := errN_nonneg L o
    have e : errN (c :: L) o = sqr (dif c - o) + errN L o := rfl
    rw [e]
    constructor
    · intro h d hd
      rcases List.mem_cons.1 hd with rfl | hd
      · have := sqr_zero (n := dif d - o) (by omega); omega
      · exact ih.1 (by omega) d hd
    · intro h
      have h3 := ih.2 fun d hd => h d (List.mem_cons_of_mem _ hd)
      have h4 := h c (List.mem_cons_self ..)
      rw [h4, Int.sub_self, h3]; rfl
/-- The error one offset on. -/
theorem errN_move (L : List (Int × Int)) (o t : Int) : errN L (o + t) = errN L o - 2 * t * (sumR dif L - L.length * o) + L.length * (t * t) := by
  induction L with
  | nil => simp [errN, sumR]
  | cons c L ih =>
    have e : ∀ o, errN (c :: L) o = sqr (dif c - o) + errN L o := fun _ => rfl
    rw [e, e, ih]
    simp only [sumR, List.length_cons, Int.natCast_add]
    unfold sqr
    grind
theorem flo_spec {n m : Int} (hm : 0 < m) : m * flo n m ≤ n ∧ n < m * flo n m + m := by
  unfold flo
  have h1 := Int.mul_ediv_self_le (x := n) (k := m) (by omega)
  have h2 := Int.lt_mul_ediv_self_add (x := n) (k := m) hm
  omega
theorem flo_more {n m : Int} (hm : 0 < m) : flo (n + m) m = flo n m + 1 := by
  unfold flo
  rw [Int.add_ediv_of_dvd_right (Int.dvd_refl m), Int.ediv_self (by omega)]
/-- The rounded mean: twice the difference between the sum and n times it lies in -n..n-1. -/
theorem offN_spec {L : List (Int × Int)} (h : 1 ≤ L.length) : -(L.length : Int) ≤ 2 * (sumR dif L - L.length * offN L) ∧ 2 * (sumR dif L - L.length * offN L) < L.length := by
  have h1 := flo_spec (n := 2 * sumR dif L + L.length) (m := 2 * (L.length : Int)) (by omega)
  change 2 * (L.length : Int) * offN L ≤ _ ∧ _ < 2 * (L.length : Int) * offN L + _ at h1
  rw [Int.mul_assoc] at h1
  omega
/-- No neighbour has a smaller error. -/
theorem offN_best {L : List (Int × Int)} (h : 1 ≤ L.length) : errN L (offN L) ≤ errN L (offN L - 1) ∧ errN L (offN L) ≤ errN L (offN L + 1) := by
  have h1 := offN_spec h
  have h2 := errN_move L (offN L) 1
  have h3 := errN_move L (offN L) (-1)
  rw [show offN L + -1 = offN L - 1 by omega] at h3
  rw [h2, h3]
  omega
theorem offN_bd {L : List (Int × Int)} (h : okPairs L) : -2000 ≤ offN L ∧ offN L ≤ 2000 := by
  have hb := sumR_bd (f := dif) (m := 2000) (L := L) (fun c hc => dif_bd (h.2 c hc))
  have h1 := h.1.1
  unfold offN flo
  constructor
  · exact Int.le_ediv_of_mul_le (by omega) (by omega)
  · exact Int.lt_add_one_iff.1 (Int.ediv_lt_of_lt_mul (by omega) (by omega))
/-- All true values shifted. -/
def shf (t : Int) (L : List (Int × Int)) : List (Int × Int) := L.map fun c => (c.1, c.2 + t)
theorem shf_len (t : Int) (L : List (Int × Int)) : (shf t L).length = L.length := List.length_map ..
theorem offN_shift {L : List (Int × Int)} (h : 1 ≤ L.length) : offN (shf 1 L) = offN L + 1 := by
  have e : sumR dif (shf 1 L) = sumR dif L + L.length := by
    unfold shf
    rw [sumR_map, show (fun c : Int × Int => dif (c.1, c.2 + 1)) = fun c => dif c + 1 from funext fun c => by unfold dif; simp; omega, sumR_add, sumR_one]
    omega
  unfold offN
  rw [shf_len, e, ← flo_more (by omega)]
  congr 1
  omega
/-- The slope's numerator and denominator, not yet in lowest terms. -/
def sx (L : List (Int × Int)) : Int := sumR (fun c => c.1) L
def sy (L : List (Int × Int)) : Int := sumR (fun c => c.2) L
def sxy (L : List (Int × Int)) : Int := sumR (fun c => c.1 * c.2) L
def sxx (L : List (Int × Int)) : Int := sumR (fun c => c.1 * c.1) L
def numN (L : List (Int × Int)) : Int := L.length * sxy L - sx L * sy L
def denN (L : List (Int × Int)) : Int := L.length * sxx L - sx L * sx L
theorem prod_bd {x y m : Int} (h0 : -m ≤ x) (h1 : x ≤ m) (h2 : -m ≤ y) (h3 : y ≤ m) : -(m * m) ≤ x * y ∧ x * y ≤ m * m := by
  have a : ∀ u v : Int, 0 ≤ u → u ≤ m → -m ≤ v → v ≤ m → -(m * m) ≤ u * v ∧ u * v ≤ m * m := fun u v p q r s => by
    have k1 := Int.mul_le_mul_of_nonneg_left s p
    have k2 := Int.mul_le_mul_of_nonneg_left r p
    have k3 := Int.mul_le_mul_of_nonneg_right q (show 0 ≤ m by omega)
    rw [Int.mul_neg] at k2
    omega
  rcases Int.lt_or_le x 0 with h | h
  · have := a (-x) y (by omega) (by omega) h2 h3
    rw [Int.neg_mul] at this
    omega
  · exact a x y h h1 h2 h3
/-- The denominator is not negative. -/
theorem dev_eq (x : Int) : ∀ L : List (Int × Int), sumR (fun c => sqr (x - c.1)) L = L.length * (x * x) - 2 * x * sx L + sxx L
  | [] => by simp [sx, sxx, sumR]
  | c :: L => by
    have ih := dev_eq x L
    simp only [sumR, sx, sxx, List.length_cons, Int.natCast_add] at ih ⊢
    rw [ih]
    unfold sqr
    grind
theorem denN_cons (c : Int × Int) (L : List (Int × Int)) : denN (c :: L) = denN L + sumR (fun d => sqr (c.1 - d.1)) L := by
  rw [dev_eq]
  simp only [denN, sx, sxx, sumR, List.length_cons, Int.natCast_add]
  grind
theorem sum_sqr_nonneg (x : Int) : ∀ L : List (Int × Int), 0 ≤ sumR (fun d => sqr (x - d.1)) L
  | [] => by simp [sumR]
  | c :: L => by simp only [sumR]; have := sqr_nonneg (x - c.1); have := sum_sqr_nonneg x L; omega
theorem denN_nonneg : ∀ L : List (Int × Int), 0 ≤ denN L
  | [] => by simp [denN, sx, sxx, sumR]
  | c :: L => by rw [denN_cons]; have := denN_nonneg L; have := sum_sqr_nonneg c.1 L; omega
/-- The greatest common divisor. -/
def gcdI (a b : Int) : Int := ((Nat.gcd a.natAbs b.natAbs : Nat) : Int)
theorem gcdI_pos {a b : Int} (hb : b ≠ 0) : 0 < gcdI a b := by
  unfold gcdI
  have := Nat.gcd_pos_of_pos_right a.natAbs (show 0 < b.natAbs by omega)
  omega
theorem gcdI_dvd (a b : Int) : gcdI a b ∣ a ∧ gcdI a b ∣ b :=
  ⟨Int.natAbs_dvd_natAbs.1 (by unfold gcdI; rw [Int.natAbs_natCast]; exact Nat.gcd_dvd_left _ _), Int.natAbs_dvd_natAbs.1 (by unfold gcdI; rw [Int.natAbs_natCast]; exact Nat.gcd_dvd_right _ _)⟩
/-- In lowest terms no number above 1 divides both. -/
theorem gcdI_low {a b d : Int} (hb : b ≠ 0) (hd : 2 ≤ d) (h1 : d ∣ a / gcdI a b) (h2 : d ∣ b / gcdI a b) : False := by
  obtain ⟨g1, g2⟩ := gcdI_dvd a b
  have hg := gcdI_pos (a := a) hb
  have k1 : gcdI a b * d ∣ a := by
    have := Int.mul_dvd_mul_left (gcdI a b) h1
    rwa [Int.mul_ediv_cancel' g1] at this
  have k2 : gcdI a b * d ∣ b := by
    have := Int.mul_dvd_mul_left (gcdI a b) h2
    rwa [Int.mul_ediv_cancel' g2] at this
  have n1 : (gcdI a b * d).natAbs ∣ a.natAbs := Int.natAbs_dvd_natAbs.2 k1
  have n2 : (gcdI a b * d).natAbs ∣ b.natAbs := Int.natAbs_dvd_natAbs.2 k2
  have n3 := Nat.dvd_gcd n1 n2
  have n4 := Nat.le_of_dvd (by unfold gcdI at hg; omega) n3
  rw [Int.natAbs_mul] at n4
  have n5 : (gcdI a b).natAbs = Nat.gcd a.natAbs b.natAbs := by unfold gcdI; simp
  rw [n5] at n4
  have n6 : 0 < Nat.gcd a.natAbs b.natAbs := by unfold gcdI at hg; omega
  have n7 : Nat.gcd a.natAbs b.natAbs * 2 ≤ Nat.gcd a.natAbs b.natAbs * d.natAbs := Nat.mul_le_mul_left _ (by omega)
  omega
/-- The slope in lowest terms. -/
def slpA (L : List (Int × Int)) : Int := if okPairs L ∧ denN L ≠ 0 then numN L / gcdI (numN L) (denN L) else 0
def slpB (L : List (Int × Int)) : Int := if okPairs L ∧ denN L ≠ 0 then denN L / gcdI (numN L) (denN L) else 0
theorem slpB_pos {L : List (Int × Int)} (h : okPairs L ∧ denN L ≠ 0) : 0 < slpB L := by
  have e : slpB L = denN L / gcdI (numN L) (denN L) := if_pos h
  rw [e]
  have h0 := denN_nonneg L
  have hg := gcdI_pos (a := numN L) h.2
  obtain ⟨_, k, hk⟩ := gcdI_dvd (numN L) (denN L)
  generalize gcdI (numN L) (denN L) = g at *
  rw [hk, Int.mul_ediv_cancel_left _ (by omega)]
  rcases Int.lt_or_le 0 k with q | q
  · exact q
  · have := Int.mul_nonneg (show 0 ≤ g by omega) (show 0 ≤ -k by omega)
    rw [Int.mul_neg] at this
    have := h.2
    omega
/-- All true values on a line. -/
def lnr (L : List (Int × Int)) : List (Int × Int) := L.map fun c => (c.1, 3 * c.1 - 7)
theorem lnr_len (L : List (Int × Int)) : (lnr L).length = L.length := List.length_map ..
theorem den_map (f : Int × Int → Int) (L : List (Int × Int)) : denN (L.map fun c => (c.1, f c)) = denN L := by
  unfold denN sx sxx
  rw [List.length_map, sumR_map, sumR_map]
theorem num_lin (L : List (Int × Int)) : numN (lnr L) = 3 * denN L := by
  have e1 : sx (lnr L) = sx L := sumR_map _ _ L
  have e2 : sy (lnr L) = 3 * sx L - 7 * L.length := by
    have : sy (lnr L) = sumR (fun c => 3 * c.1 + -7) L := (sumR_map _ _ L).trans (sumR_congr fun c _ => by simp; omega)
    rw [this, sumR_add, sumR_mul, sumR_one]
    show 3 * sx L + -7 * _ = _
    omega
  have e3 : sxy (lnr L) = 3 * sxx L + -7 * sx L := by
    have : sxy (lnr L) = sumR (fun c => 3 * (c.1 * c.1) + -7 * c.1) L := (sumR_map _ _ L).trans (sumR_congr fun c _ => by simp only; grind)
    rw [this, sumR_add, sumR_mul, sumR_mul]
    rfl
  unfold numN denN
  rw [lnr_len, e1, e2, e3]
  grind
theorem num_shift (L : List (Int × Int)) : numN (shf 5 L) = numN L := by
  have e1 : sx (shf 5 L) = sx L := sumR_map _ _ L
  have e2 : sy (shf 5 L) = sy L + 5 * L.length := by
    have : sy (shf 5 L) = sumR (fun c => c.2 + 5) L := sumR_map _ _ L
    rw [this, sumR_add, sumR_one]
    rfl
  have e3 : sxy (shf 5 L) = sxy L + 5 * sx L := by
    have : sxy (shf 5 L) = sumR (fun c => c.1 * c.2 + 5 * c.1) L := (sumR_map _ _ L).trans (sumR_congr fun c _ => by simp only; grind)
    rw [this, sumR_add, sumR_mul]
    rfl
  unfold numN
  rw [shf_len, e1, e2, e3]
  grind
theorem slp_lin {L : List (Int × Int)} (h : okPairs (lnr L)) (hd : denN L ≠ 0) : slpA (lnr L) = 3 ∧ slpB (lnr L) = 1 := by
  have e1 : denN (lnr L) = denN L := den_map _ L
  have e2 := num_lin L
  have h0 := denN_nonneg L
  unfold slpA slpB
  rw [e1, e2, if_pos ⟨h, hd⟩, if_pos ⟨h, hd⟩]
  have e3 : gcdI (3 * denN L) (denN L) = denN L := by
    unfold gcdI
    rw [Int.natAbs_mul, Nat.gcd_mul_left_left]
    omega
  rw [e3]
  exact ⟨Int.mul_ediv_cancel _ hd, Int.ediv_self hd⟩
theorem slp_shift {L : List (Int × Int)} (h : okPairs L) (h2 : okPairs (shf 5 L)) : slpA (shf 5 L) = slpA L ∧ slpB (shf 5 L) = slpB L := by
  have e1 : denN (shf 5 L) = denN L := den_map _ L
  unfold slpA slpB
  rw [e1, num_shift L]
  by_cases q : denN L ≠ 0
  · rw [if_pos ⟨h2, q⟩, if_pos ⟨h, q⟩, if_pos ⟨h2, q⟩, if_pos ⟨h, q⟩]; exact ⟨rfl, rfl⟩
  · rw [if_neg (fun k => q k.2), if_neg (fun k => q k.2), if_neg (fun k => q k.2), if_neg (fun k => q k.2)]; exact ⟨rfl, rfl⟩
/-- The pairs that are kept. -/
def kpt (o lim : Int) (c : Int × Int) : Bool := decide (max (dif c - o) (-(dif c - o)) ≤ lim)
def outR (L : List (Int × Int)) (o lim : Int) : List (Int × Int) := L.filter (kpt o lim)
def outV (L : List (Int × Int)) (lim : Int) : List (Int × Int) := if okPairs L ∧ 0 ≤ lim then outR L (offN L) lim else []
theorem outR_len (L : List (Int × Int)) (o lim : Int) : (outR L o lim).length ≤ L.length := List.length_filter_le ..
theorem outR_next {L : List (Int × Int)} {o lim : Int} {k : Nat} (hk : k < L.length) : outR (L.take (k + 1)) o lim = outR (L.take k) o lim ++ (if kpt o lim (L.getD k (0, 0)) then [L.getD k (0, 0)] else []) := by
  unfold outR
  rw [List.take_succ_eq_append_getElem hk, List.filter_append, List.getD_eq_getElem?_getD, List.getElem?_eq_getElem hk, Option.getD_some]
  congr 1
  by_cases q : kpt o lim L[k] = true
  · rw [if_pos q, List.filter_cons_of_pos q]; rfl
  · rw [if_neg q, List.filter_cons_of_neg q]; rfl
/-- Where a kept pair stands. -/
theorem outR_at {L : List (Int × Int)} {o lim : Int} {k : Nat} (hk : k < L.length) (h : kpt o lim (L.getD k (0, 0)) = true) : (outR L o lim)[(outR (L.take k) o lim).length]? = some (L.getD k (0, 0)) := by
  have e : L = L.take k ++ L.getD k (0, 0) :: L.drop (k + 1) := by
    rw [List.getD_eq_getElem?_getD, List.getElem?_eq_getElem hk, Option.getD_some]
    rw [← List.drop_eq_getElem_cons hk, List.take_append_drop]
  have e2 : outR L o lim = outR (L.take k) o lim ++ L.getD k (0, 0) :: outR (L.drop (k + 1)) o lim := by
    generalize L.getD k (0, 0) = c at *
    unfold outR
    conv => lhs; rw [e]
    rw [List.filter_append, List.filter_cons_of_pos (by rw [h])]
  rw [e2, List.getElem?_append_right (Nat.le_refl _), Nat.sub_self]
  rfl
theorem outR_more (L : List (Int × Int)) (o lim : Int) : (outR L o lim).length ≤ (outR L o (lim + 1)).length := by
  unfold outR
  induction L with
  | nil => simp
  | cons c L ih =>
    have hi : kpt o lim c = true → kpt o (lim + 1) c = true := fun q => by
      unfold kpt at *
      have := of_decide_eq_true q
      exact decide_eq_true (by omega)
    rw [List.filter_cons, List.filter_cons]
    by_cases q : kpt o lim c = true
    · rw [if_pos q, if_pos (hi q)]; simp; exact ih
    · rw [if_neg q]
      split
      · simp; omega
      · exact ih
theorem outR_pairs {L : List (Int × Int)} (h : okPairs L) (o lim : Int) : ∀ c ∈ outR L o lim, okPair c := fun c hc => h.2 c (List.mem_filter.1 hc).1
end Go.Proofs.Ytppkipcgpmijpaa
