/- Several of my texts in one: Num6, Num7, Num8. -/
import Derived.Test.YtppkipcgpmijpaaZcPts
import Derived.Test.YtppkipcgpmijpaaZbGeo
namespace Go.Proofs.Ytppkipcgpmijpaa
set_option maxRecDepth 100000
/-- A coordinate of the k-th of n + 1 points on the way from a to b. -/
def lnC (a b n k : Int) : Int := a + flo (k * (b - a)) n
theorem lnC_mul {a b n k : Int} (hk0 : 0 ≤ k) (hk : k ≤ n) (hn : n ≤ 400) (a1 : -10000 ≤ a) (a2 : a ≤ 10000) (b1 : -10000 ≤ b) (b2 : b ≤ 10000) :
    -8000000 ≤ k * (b - a) ∧ k * (b - a) ≤ 8000000 :=
  mul_bd (A := 400) (B := 20000) (by omega) (by omega) (by omega) (by omega)
theorem flo_le_of {n d q : Int} (hd : 0 < d) (h : n ≤ q * d) : flo n d ≤ q := Int.ediv_le_of_le_mul hd h
theorem flo_ge_of {n d q : Int} (hd : 0 < d) (h : q * d ≤ n) : q ≤ flo n d := Int.le_ediv_of_mul_le hd h
/-- A point of a line lies in the box of its ends. -/
theorem lnC_up {a b n k : Int} (hn : 1 ≤ n) (h0 : 0 ≤ k) (h1 : k ≤ n) (h : a ≤ b) : a ≤ lnC a b n k ∧ lnC a b n k ≤ b := by
  unfold lnC
  have p : 0 ≤ k * (b - a) := Int.mul_nonneg h0 (by omega)
  have q : k * (b - a) ≤ n * (b - a) := Int.mul_le_mul_of_nonneg_right h1 (by omega)
  have g := flo_ge_of (n := k * (b - a)) (d := n) (q := 0) (by omega) (by omega)
  have l := flo_le_of (n := k * (b - a)) (d := n) (q := b - a) (by omega) (by rw [Int.mul_comm (b - a) n]; exact q)
  omega
theorem lnC_down {a b n k : Int} (hn : 1 ≤ n) (h0 : 0 ≤ k) (h1 : k ≤ n) (h : b ≤ a) : b ≤ lnC a b n k ∧ lnC a b n k ≤ a := by
  unfold lnC
  have e : k * (b - a) = -(k * (a - b)) := by grind
  have p : 0 ≤ k * (a - b) := Int.mul_nonneg h0 (by omega)
  have q : k * (a - b) ≤ n * (a - b) := Int.mul_le_mul_of_nonneg_right h1 (by omega)
  have e2 : (b - a) * n = -(n * (a - b)) := by grind
  have g := flo_ge_of (n := k * (b - a)) (d := n) (q := b - a) (by omega) (by rw [e2, e]; omega)
  have l := flo_le_of (n := k * (b - a)) (d := n) (q := 0) (by omega) (by rw [e]; omega)
  omega
theorem lnC_box {a b n k : Int} (hn : 1 ≤ n) (h0 : 0 ≤ k) (h1 : k ≤ n) : min a b ≤ lnC a b n k ∧ lnC a b n k ≤ max a b := by
  rcases Int.le_total a b with h | h
  · have := lnC_up hn h0 h1 h; omega
  · have := lnC_down hn h0 h1 h; omega
theorem lnC_first (a b n : Int) : lnC a b n 0 = a := by unfold lnC flo; simp
theorem lnC_last (a b n : Int) (hn : 1 ≤ n) : lnC a b n n = b := by
  unfold lnC flo
  rw [Int.mul_ediv_cancel_left _ (by omega)]
  omega
/-- The points of a line with n parts. -/
def lineL (ax ay bx b_y : Int) (n : Nat) : List (Int × Int) := (List.range (n + 1)).map fun (k : Nat) => (lnC ax bx n k, lnC ay b_y n k)
theorem lineL_len (ax ay bx b_y : Int) (n : Nat) : (lineL ax ay bx b_y n).length = n + 1 := by simp [lineL]
theorem lineL_at (ax ay bx b_y : Int) (n k : Nat) (h : k ≤ n) : (lineL ax ay bx b_y n).getD k (0, 0) = (lnC ax bx n k, lnC ay b_y n k) := by
  unfold lineL; rw [List.getD_eq_getElem?_getD, List.getElem?_map, List.getElem?_range (by omega)]; rfl
/-- The arguments of LinePoints. -/
def okLine (ax ay bx b_y n : Int) : Prop := okP ax ay ∧ okP bx b_y ∧ 1 ≤ n ∧ n ≤ 400
instance (ax ay bx b_y n : Int) : Decidable (okLine ax ay bx b_y n) := by unfold okLine; infer_instance
def lineV (ax ay bx b_y n : Int) : List (Int × Int) := if okLine ax ay bx b_y n then lineL ax ay bx b_y n.toNat else []
theorem lineV_in {ax ay bx b_y n : Int} (h : okLine ax ay bx b_y n) : lineV ax ay bx b_y n = lineL ax ay bx b_y n.toNat := by unfold lineV; rw [if_pos h]
theorem lineV_out {ax ay bx b_y n : Int} (h : ¬ okLine ax ay bx b_y n) : lineV ax ay bx b_y n = [] := by unfold lineV; rw [if_neg h]
theorem lineV_len (ax ay bx b_y n : Int) : (lineV ax ay bx b_y n).length ≤ 401 := by
  by_cases h : okLine ax ay bx b_y n
  · rw [lineV_in h, lineL_len]; have := h.2.2.2; omega
  · rw [lineV_out h]; simp
end Go.Proofs.Ytppkipcgpmijpaa
namespace Go.Proofs.Ytppkipcgpmijpaa
set_option maxRecDepth 100000
/-- The i-th number of the l-th row of the scheme that replaces neighbours: 64 times the exact one for each row. -/
def cas (t : Int) (f : Nat → Int) : Nat → Nat → Int
  | 0, i => f i
  | l + 1, i => cas t f l i * (64 - t) + cas t f l (i + 1) * t
theorem cas_zero (t : Int) (f : Nat → Int) (i : Nat) : cas t f 0 i = f i := rfl
theorem cas_succ (t : Int) (f : Nat → Int) (l i : Nat) : cas t f (l + 1) i = cas t f l i * (64 - t) + cas t f l (i + 1) * t := rfl
/-- 64 to the l. -/
def sc (l : Nat) : Int := 64 ^ l
theorem sc_zero : sc 0 = 1 := rfl
theorem sc_succ (l : Nat) : sc (l + 1) = sc l * 64 := Int.pow_succ ..
theorem sc_pos : ∀ l : Nat, 0 < sc l
  | 0 => by rw [sc_zero]; omega
  | l + 1 => by have := sc_pos l; rw [sc_succ]; omega
theorem sc_one : sc 1 = 64 := rfl
theorem sc_two : sc 2 = 4096 := rfl
theorem sc_three : sc 3 = 262144 := rfl
theorem sc_le {l : Nat} (h : l ≤ 3) : 1 ≤ sc l ∧ sc l ≤ 262144 := by
  have : l = 0 ∨ l = 1 ∨ l = 2 ∨ l = 3 := by omega
  rcases this with rfl | rfl | rfl | rfl <;> simp only [sc_zero, sc_one, sc_two, sc_three] <;> omega
theorem cas_lo {t : Int} {f : Nat → Int} {m : Int} (h0 : 0 ≤ t) (h1 : t ≤ 64) : ∀ (l i : Nat), (∀ j, i ≤ j → j ≤ i + l → m ≤ f j) → m * sc l ≤ cas t f l i
  | 0, i, h => by rw [sc_zero, cas_zero, Int.mul_one]; exact h i (Nat.le_refl _) (Nat.le_refl _)
  | l + 1, i, h => by
    have a := cas_lo h0 h1 l i (fun j p q => h j p (by omega))
    have b := cas_lo h0 h1 l (i + 1) (fun j p q => h j (by omega) (by omega))
    have c := Int.mul_le_mul_of_nonneg_right a (show 0 ≤ 64 - t by omega)
    have d := Int.mul_le_mul_of_nonneg_right b h0
    have e : m * (sc l * 64) = m * sc l * (64 - t) + m * sc l * t := by grind
    rw [cas_succ, sc_succ]
    omega
theorem cas_hi {t : Int} {f : Nat → Int} {m : Int} (h0 : 0 ≤ t) (h1 : t ≤ 64) : ∀ (l i : Nat), (∀ j, i ≤ j → j ≤ i + l → f j ≤ m) → cas t f l i ≤ m * sc l
  | 0, i, h => by rw [sc_zero, cas_zero, Int.mul_one]; exact h i (Nat.le_refl _) (Nat.le_refl _)
  | l + 1, i, h => by
    have a := cas_hi h0 h1 l i (fun j p q => h j p (by omega))
    have b := cas_hi h0 h1 l (i + 1) (fun j p q => h j (by omega) (by omega))
    have c := Int.mul_le_mul_of_nonneg_right a (show 0 ≤ 64 - t by omega)
    have d := Int.mul_le_mul_of_nonneg_right b h0
    have e : m * (sc l * 64) = m * sc l * (64 - t) + m * sc l * t := by grind
    rw [cas_succ, sc_succ]
    omega
theorem cas_first (f : Nat → Int) : ∀ l i : Nat, cas 0 f l i = f i * sc l
  | 0, i => by rw [sc_zero, cas_zero, Int.mul_one]
  | l + 1, i => by rw [cas_succ, sc_succ, cas_first f l i]; grind
theorem cas_last (f : Nat → Int) : ∀ l i : Nat, cas 64 f l i = f (i + l) * sc l
  | 0, i => by rw [sc_zero, cas_zero, Int.mul_one]; rfl
  | l + 1, i => by
    rw [cas_succ, sc_succ, cas_last f l i, cas_last f l (i + 1), show i + 1 + l = i + (l + 1) by omega]; grind
/-- The curve in reverse. -/
theorem cas_rev (t : Int) (f g : Nat → Int) (n : Nat) (hg : ∀ j, j ≤ n → g j = f (n - j)) : ∀ l i : Nat, i + l ≤ n → cas (64 - t) g l i = cas t f l (n - l - i)
  | 0, i, h => by rw [cas_zero, cas_zero, hg i (by omega)]; rfl
  | l + 1, i, h => by
    rw [cas_succ, cas_succ, cas_rev t f g n hg l i (by omega), cas_rev t f g n hg l (i + 1) (by omega), show n - l - (i + 1) = n - (l + 1) - i by omega, show n - (l + 1) - i + 1 = n - l - i by omega]
    grind
theorem cas_congr (t : Int) (f g : Nat → Int) : ∀ l i : Nat, (∀ j, i ≤ j → j ≤ i + l → f j = g j) → cas t f l i = cas t g l i
  | 0, i, h => h i (Nat.le_refl _) (Nat.le_refl _)
  | l + 1, i, h => by
    rw [cas_succ, cas_succ, cas_congr t f g l i (fun j p q => h j p (by omega)), cas_congr t f g l (i + 1) (fun j p q => h j (by omega) (by omega))]
/-- v / s rounded to the nearest number, halves upwards. -/
def rndS (v s : Int) : Int := flo (v + s / 2) s
theorem rndS_one (v : Int) : rndS v 1 = v := by unfold rndS flo; omega
theorem rndS_impl (v : Int) (l : Nat) (hl : l ≤ 3) : flo (2 * v + sc l) (2 * sc l) = rndS v (sc l) := by
  have : l = 0 ∨ l = 1 ∨ l = 2 ∨ l = 3 := by omega
  unfold rndS flo
  rcases this with rfl | rfl | rfl | rfl <;> simp only [sc_zero, sc_one, sc_two, sc_three] <;> omega
theorem rndS_ge {v s m : Int} (hs : 0 < s) (h : m * s ≤ v) : m ≤ rndS v s := flo_ge_of hs (by omega)
theorem rndS_le {v s m : Int} (hs : 0 < s) (h : v ≤ m * s) : rndS v s ≤ m := by
  unfold rndS flo
  have : (v + s / 2) / s < m + 1 := Int.ediv_lt_of_lt_mul hs (by rw [Int.add_mul, Int.one_mul]; omega)
  omega
theorem rndS_exact (z s : Int) (hs : 0 < s) : rndS (z * s) s = z := by
  have := rndS_ge hs (Int.le_refl (z * s)); have := rndS_le hs (Int.le_refl (z * s)); omega
/-- The coordinates of a list of points. -/
def pX (ps : List (Int × Int)) (i : Nat) : Int := (ps.getD i (0, 0)).1
def pY (ps : List (Int × Int)) (i : Nat) : Int := (ps.getD i (0, 0)).2
/-- All points are valid. -/
def okPts (ps : List (Int × Int)) : Prop := ∀ p ∈ ps, okP p.1 p.2
instance (ps : List (Int × Int)) : Decidable (okPts ps) := by unfold okPts; infer_instance
theorem okPts_any {ps : List (Int × Int)} (h : okPts ps) (i : Nat) : okP (pX ps i) (pY ps i) := by
  unfold pX pY
  rw [List.getD_eq_getElem?_getD]
  by_cases hi : i < ps.length
  · rw [List.getElem?_eq_getElem hi]; exact h _ (List.getElem_mem hi)
  · rw [List.getElem?_eq_none (by omega)]; exact ⟨by decide, by decide, by decide, by decide⟩
theorem okPts_of {ps : List (Int × Int)} (h : ∀ i, i < ps.length → okP (pX ps i) (pY ps i)) : okPts ps := by
  intro p hp
  obtain ⟨i, hi, rfl⟩ := List.getElem_of_mem hp
  have := h i hi
  unfold pX pY at this
  rw [List.getD_eq_getElem?_getD, List.getElem?_eq_getElem hi] at this
  exact this
theorem not_okPts {ps : List (Int × Int)} {i : Nat} (h : ¬ okP (pX ps i) (pY ps i)) : ¬ okPts ps := fun k => h (okPts_any k i)
/-- A curve. -/
def okCurve (ps : List (Int × Int)) : Prop := 1 ≤ ps.length ∧ ps.length ≤ 4 ∧ okPts ps
instance (ps : List (Int × Int)) : Decidable (okCurve ps) := by unfold okCurve; infer_instance
/-- A point of a curve. -/
def curX (ps : List (Int × Int)) (t : Int) : Int := rndS (cas t (pX ps) (ps.length - 1) 0) (sc (ps.length - 1))
def curY (ps : List (Int × Int)) (t : Int) : Int := rndS (cas t (pY ps) (ps.length - 1) 0) (sc (ps.length - 1))
theorem cas_bdX {ps : List (Int × Int)} (h : okPts ps) {t : Int} (h0 : 0 ≤ t) (h1 : t ≤ 64) (l i : Nat) : -10000 * sc l ≤ cas t (pX ps) l i ∧ cas t (pX ps) l i ≤ 10000 * sc l :=
  ⟨cas_lo h0 h1 l i fun j _ _ => (okPts_any h j).1, cas_hi h0 h1 l i fun j _ _ => (okPts_any h j).2.1⟩
theorem cas_bdY {ps : List (Int × Int)} (h : okPts ps) {t : Int} (h0 : 0 ≤ t) (h1 : t ≤ 64) (l i : Nat) : -10000 * sc l ≤ cas t (pY ps) l i ∧ cas t (pY ps) l i ≤ 10000 * sc l :=
  ⟨cas_lo h0 h1 l i fun j _ _ => (okPts_any h j).2.2.1, cas_hi h0 h1 l i fun j _ _ => (okPts_any h j).2.2.2⟩
theorem cur_bd {ps : List (Int × Int)} (h : okPts ps) {t : Int} (h0 : 0 ≤ t) (h1 : t ≤ 64) : okP (curX ps t) (curY ps t) :=
  ⟨rndS_ge (sc_pos _) (cas_bdX h h0 h1 _ _).1, rndS_le (sc_pos _) (cas_bdX h h0 h1 _ _).2, rndS_ge (sc_pos _) (cas_bdY h h0 h1 _ _).1, rndS_le (sc_pos _) (cas_bdY h h0 h1 _ _).2⟩
/-- What CurvePoint returns. -/
def crvX (ps : List (Int × Int)) (t : Int) : Int := if okCurve ps ∧ 0 ≤ t ∧ t ≤ 64 then curX ps t else 0
def crvY (ps : List (Int × Int)) (t : Int) : Int := if okCurve ps ∧ 0 ≤ t ∧ t ≤ 64 then curY ps t else 0
theorem crv_in {ps : List (Int × Int)} {t : Int} (h : okCurve ps ∧ 0 ≤ t ∧ t ≤ 64) : crvX ps t = curX ps t ∧ crvY ps t = curY ps t := by unfold crvX crvY; rw [if_pos h, if_pos h]; exact ⟨rfl, rfl⟩
theorem crv_out {ps : List (Int × Int)} {t : Int} (h : ¬ (okCurve ps ∧ 0 ≤ t ∧ t ≤ 64)) : crvX ps t = 0 ∧ crvY ps t = 0 := by unfold crvX crvY; rw [if_neg h, if_neg h]; exact ⟨rfl, rfl⟩
theorem cur_first (ps : List (Int × Int)) : curX ps 0 = pX ps 0 ∧ curY ps 0 = pY ps 0 := by
  unfold curX curY; rw [cas_first, cas_first, rndS_exact _ _ (sc_pos _), rndS_exact _ _ (sc_pos _)]; exact ⟨rfl, rfl⟩
theorem cur_last (ps : List (Int × Int)) : curX ps 64 = pX ps (ps.length - 1) ∧ curY ps 64 = pY ps (ps.length - 1) := by
  unfold curX curY; rw [cas_last, cas_last, rndS_exact _ _ (sc_pos _), rndS_exact _ _ (sc_pos _), Nat.zero_add]; exact ⟨rfl, rfl⟩
theorem pX_rev (ps : List (Int × Int)) (j : Nat) (h : j < ps.length) : pX ps.reverse j = pX ps (ps.length - 1 - j) ∧ pY ps.reverse j = pY ps (ps.length - 1 - j) := by
  unfold pX pY; rw [List.getD_eq_getElem?_getD, List.getD_eq_getElem?_getD, List.getElem?_reverse h]; exact ⟨rfl, rfl⟩
theorem cur_rev (ps : List (Int × Int)) (t : Int) (h : 1 ≤ ps.length) : curX ps.reverse (64 - t) = curX ps t ∧ curY ps.reverse (64 - t) = curY ps t := by
  unfold curX curY
  rw [List.length_reverse, cas_rev t (pX ps) (pX ps.reverse) (ps.length - 1) (fun j hj => (pX_rev ps j (by omega)).1) _ _ (by omega), cas_rev t (pY ps) (pY ps.reverse) (ps.length - 1) (fun j hj => (pX_rev ps j (by omega)).2) _ _ (by omega), Nat.sub_self, Nat.zero_sub]
  exact ⟨rfl, rfl⟩
theorem okCurve_rev {ps : List (Int × Int)} (h : okCurve ps) : okCurve ps.reverse := ⟨by rw [List.length_reverse]; exact h.1, by rw [List.length_reverse]; exact h.2.1, fun p hp => h.2.2 p (List.mem_reverse.1 hp)⟩
/-- The points of a curve. -/
def crvL (ps : List (Int × Int)) (n : Nat) : List (Int × Int) := (List.range (n + 1)).map fun (k : Nat) => (curX ps ((k : Int) * (64 / (n : Int))), curY ps ((k : Int) * (64 / (n : Int))))
theorem crvL_len (ps : List (Int × Int)) (n : Nat) : (crvL ps n).length = n + 1 := by simp [crvL]
theorem crvL_at (ps : List (Int × Int)) (n k : Nat) (h : k ≤ n) : (crvL ps n).getD k (0, 0) = (curX ps ((k : Int) * (64 / (n : Int))), curY ps ((k : Int) * (64 / (n : Int)))) := by
  unfold crvL; rw [List.getD_eq_getElem?_getD, List.getElem?_map, List.getElem?_range (by omega)]; rfl
/-- The arguments of CurvePoints. -/
def okCrvs (ps : List (Int × Int)) (n : Int) : Prop := okCurve ps ∧ 1 ≤ n ∧ n ≤ 64 ∧ (64 : Int) % n = 0
instance (ps : List (Int × Int)) (n : Int) : Decidable (okCrvs ps n) := by unfold okCrvs; infer_instance
def crvV (ps : List (Int × Int)) (n : Int) : List (Int × Int) := if okCrvs ps n then crvL ps n.toNat else []
theorem crvV_in {ps : List (Int × Int)} {n : Int} (h : okCrvs ps n) : crvV ps n = crvL ps n.toNat := by unfold crvV; rw [if_pos h]
theorem crvV_out {ps : List (Int × Int)} {n : Int} (h : ¬ okCrvs ps n) : crvV ps n = [] := by unfold crvV; rw [if_neg h]
theorem crvV_len (ps : List (Int × Int)) (n : Int) : (crvV ps n).length ≤ 65 := by
  by_cases h : okCrvs ps n
  · rw [crvV_in h, crvL_len]; have := h.2.2.1; omega
  · rw [crvV_out h]; simp
/-- The parameters of the points of a curve. -/
theorem par_bd {n k : Nat} (h1 : 1 ≤ n) (h2 : n ≤ 64) (hk : k ≤ n) : 0 ≤ (k : Int) * (64 / (n : Int)) ∧ (k : Int) * (64 / (n : Int)) ≤ 64 := by
  have a : (0 : Int) ≤ 64 / (n : Int) := Int.ediv_nonneg (by omega) (by omega)
  have b : (n : Int) * (64 / (n : Int)) ≤ 64 := Int.mul_ediv_self_le (by omega)
  have c := Int.mul_le_mul_of_nonneg_right (show (k : Int) ≤ (n : Int) by omega) a
  have d := Int.mul_nonneg (show (0 : Int) ≤ (k : Int) by omega) a
  omega
/-- The least and the greatest of the first k + 1 numbers. -/
def lowF (f : Nat → Int) : Nat → Int
  | 0 => f 0
  | k + 1 => if f (k + 1) < lowF f k then f (k + 1) else lowF f k
def topF (f : Nat → Int) : Nat → Int
  | 0 => f 0
  | k + 1 => if topF f k < f (k + 1) then f (k + 1) else topF f k
theorem lowF_le (f : Nat → Int) : ∀ k i : Nat, i ≤ k → lowF f k ≤ f i
  | 0, i, h => by obtain rfl : i = 0 := by omega
                  exact Int.le_refl _
  | k + 1, i, h => by
    unfold lowF
    by_cases e : i = k + 1
    · subst e; split <;> omega
    · have := lowF_le f k i (by omega); split <;> omega
theorem topF_ge (f : Nat → Int) : ∀ k i : Nat, i ≤ k → f i ≤ topF f k
  | 0, i, h => by obtain rfl : i = 0 := by omega
                  exact Int.le_refl _
  | k + 1, i, h => by
    unfold topF
    by_cases e : i = k + 1
    · subst e; split <;> omega
    · have := topF_ge f k i (by omega); split <;> omega
theorem lowF_ex (f : Nat → Int) : ∀ k : Nat, ∃ i, i ≤ k ∧ f i = lowF f k
  | 0 => ⟨0, Nat.le_refl _, rfl⟩
  | k + 1 => by
    unfold lowF
    obtain ⟨i, h1, h2⟩ := lowF_ex f k
    split
    · exact ⟨k + 1, Nat.le_refl _, rfl⟩
    · exact ⟨i, by omega, h2⟩
theorem topF_ex (f : Nat → Int) : ∀ k : Nat, ∃ i, i ≤ k ∧ f i = topF f k
  | 0 => ⟨0, Nat.le_refl _, rfl⟩
  | k + 1 => by
    unfold topF
    obtain ⟨i, h1, h2⟩ := topF_ex f k
    split
    · exact ⟨k + 1, Nat.le_refl _, rfl⟩
    · exact ⟨i, by omega, h2⟩
/-- Whether one of the first k numbers is v. -/
def hitB (f : Nat → Int) (v : Int) : Nat → Bool
  | 0 => false
  | k + 1 => hitB f v k || (f k == v)
theorem hitB_of (f : Nat → Int) (v : Int) : ∀ k i : Nat, i < k → f i = v → hitB f v k = true
  | k + 1, i, h, e => by
    unfold hitB
    by_cases h1 : i = k
    · subst h1; simp [e]
    · rw [hitB_of f v k i (by omega) e]; rfl
/-- The arguments of BoxOf. -/
def okBox (ps : List (Int × Int)) : Prop := 1 ≤ ps.length ∧ ps.length ≤ 400 ∧ okPts ps
instance (ps : List (Int × Int)) : Decidable (okBox ps) := by unfold okBox; infer_instance
/-- What BoxOf returns. -/
def boxV (g : (Nat → Int) → Nat → Int) (p : List (Int × Int) → Nat → Int) (ps : List (Int × Int)) : Int := if okBox ps then g (p ps) (ps.length - 1) else 0
theorem boxV_in {ps : List (Int × Int)} (h : okBox ps) (g : (Nat → Int) → Nat → Int) (p : List (Int × Int) → Nat → Int) : boxV g p ps = g (p ps) (ps.length - 1) := by unfold boxV; rw [if_pos h]
theorem boxV_out {ps : List (Int × Int)} (h : ¬ okBox ps) (g : (Nat → Int) → Nat → Int) (p : List (Int × Int) → Nat → Int) : boxV g p ps = 0 := by unfold boxV; rw [if_neg h]
/-- A point of a curve lies in the box of its control points. -/
theorem cur_box (ps : List (Int × Int)) {t : Int} (h0 : 0 ≤ t) (h1 : t ≤ 64) :
    lowF (pX ps) (ps.length - 1) ≤ curX ps t ∧ curX ps t ≤ topF (pX ps) (ps.length - 1) ∧ lowF (pY ps) (ps.length - 1) ≤ curY ps t ∧ curY ps t ≤ topF (pY ps) (ps.length - 1) :=
  ⟨rndS_ge (sc_pos _) (cas_lo h0 h1 _ _ fun j _ q => lowF_le _ _ j (by omega)), rndS_le (sc_pos _) (cas_hi h0 h1 _ _ fun j _ q => topF_ge _ _ j (by omega)),
    rndS_ge (sc_pos _) (cas_lo h0 h1 _ _ fun j _ q => lowF_le _ _ j (by omega)), rndS_le (sc_pos _) (cas_hi h0 h1 _ _ fun j _ q => topF_ge _ _ j (by omega))⟩
/-- A curve with two control points keeps to the line. -/
theorem cur_line (a b : Int × Int) (k : Int) : 0 ≤ curX [a, b] (k * 4) - lnC a.1 b.1 16 k ∧ curX [a, b] (k * 4) - lnC a.1 b.1 16 k ≤ 1 ∧ 0 ≤ curY [a, b] (k * 4) - lnC a.2 b.2 16 k ∧ curY [a, b] (k * 4) - lnC a.2 b.2 16 k ≤ 1 := by
  have e1 : cas (k * 4) (pX [a, b]) 1 0 = 64 * a.1 + 4 * (k * (b.1 - a.1)) := by
    rw [cas_succ, cas_zero, cas_zero]; show a.1 * (64 - k * 4) + b.1 * (k * 4) = _; grind
  have e2 : cas (k * 4) (pY [a, b]) 1 0 = 64 * a.2 + 4 * (k * (b.2 - a.2)) := by
    rw [cas_succ, cas_zero, cas_zero]; show a.2 * (64 - k * 4) + b.2 * (k * 4) = _; grind
  unfold curX curY
  simp only [List.length_cons, List.length_nil, Nat.zero_add, Nat.add_sub_cancel]
  rw [e1, e2, sc_one]
  unfold rndS lnC flo
  generalize k * (b.1 - a.1) = m
  generalize k * (b.2 - a.2) = m'
  omega
end Go.Proofs.Ytppkipcgpmijpaa
namespace Go.Proofs.Ytppkipcgpmijpaa
set_option maxRecDepth 100000
abbrev okQ (p : P2) : Prop := okP p.1 p.2
/-- The orientation of three points. -/
def ori (a b c : P2) : Int := oriV a.1 a.2 b.1 b.2 c.1 c.2
theorem crossV_cr (a b c : P2) : crossV a.1 a.2 b.1 b.2 c.1 c.2 = cr a b c := rfl
theorem ori_ok {a b c : P2} (h : okQ a ∧ okQ b ∧ okQ c) : ori a b c = sgn (cr a b c) := by unfold ori oriV; rw [if_pos h]; rfl
theorem ori_pos (a b c : P2) : 0 < ori a b c ↔ (okQ a ∧ okQ b ∧ okQ c) ∧ 0 < cr a b c := by
  by_cases h : okQ a ∧ okQ b ∧ okQ c
  · rw [ori_ok h]
    rcases sgn_cases (cr a b c) with ⟨k, e⟩ | ⟨k, e⟩ | ⟨k, e⟩ <;> rw [e] <;> constructor
    · exact fun _ => ⟨h, k⟩
    · exact fun _ => by omega
    · intro q; omega
    · rintro ⟨_, q⟩; omega
    · intro q; omega
    · rintro ⟨_, q⟩; omega
  · unfold ori oriV
    rw [if_neg h]
    exact ⟨fun q => by omega, fun q => absurd q.1 h⟩
theorem ori_one (a b c : P2) : ori a b c = 1 ↔ 0 < ori a b c := by
  by_cases h : okQ a ∧ okQ b ∧ okQ c
  · rw [ori_ok h]
    rcases sgn_cases (cr a b c) with ⟨k, e⟩ | ⟨k, e⟩ | ⟨k, e⟩ <;> rw [e] <;> omega
  · unfold ori oriV; rw [if_neg h]; omega
/-- A convex polygon. -/
def okCvx (ps : List P2) : Prop := 3 ≤ ps.length ∧ ps.length ≤ 8 ∧ okPts ps ∧ Edg ps
noncomputable instance (ps : List P2) : Decidable (okCvx ps) := Classical.propDecidable _
noncomputable instance (ps : List P2) (p : P2) : Decidable (Ins ps p) := Classical.propDecidable _
theorem okPts.cor {ps : List P2} (h : okPts ps) {i : Nat} (hi : i < ps.length) : okQ (cor ps i) := h _ (cor_mem hi)
theorem okPts_cor {ps : List P2} (h : ∀ i, i < ps.length → okQ (cor ps i)) : okPts ps := fun p hp => by obtain ⟨i, hi, rfl⟩ := mem_cor hp; exact h i hi
/-- How many of the first m numbers have the property. -/
def cnt (P : Nat → Prop) [DecidablePred P] : Nat → Nat
  | 0 => 0
  | m + 1 => cnt P m + if P m then 1 else 0
theorem cnt_le (P : Nat → Prop) [DecidablePred P] (m : Nat) : cnt P m ≤ m := by
  induction m with
  | zero => exact Nat.le_refl _
  | succ m ih => unfold cnt; split <;> omega
theorem cnt_three (P : Nat → Prop) [DecidablePred P] {a b c : Nat} (ha : ¬ P a) (hb : ¬ P b) (hc : ¬ P c) (h1 : a ≠ b) (h2 : a ≠ c) (h3 : b ≠ c) (m : Nat) :
    cnt P m + (if a < m then 1 else 0) + (if b < m then 1 else 0) + (if c < m then 1 else 0) ≤ m := by
  induction m with
  | zero => simp [cnt]
  | succ m ih =>
    unfold cnt
    by_cases ea : a = m
    · subst ea; rw [if_neg ha]
      rw [if_neg (by omega)] at ih
      split at ih <;> split at ih <;> (repeat' split) <;> omega
    · by_cases eb : b = m
      · subst eb; rw [if_neg hb]
        split at ih <;> split at ih <;> split at ih <;> (repeat' split) <;> omega
      · by_cases ec : c = m
        · subst ec; rw [if_neg hc]
          split at ih <;> split at ih <;> split at ih <;> (repeat' split) <;> omega
        · split at ih <;> split at ih <;> split at ih <;> (repeat' split) <;> omega
theorem cnt_two (P : Nat → Prop) [DecidablePred P] {a b n : Nat} (ha : ¬ P a) (hb : ¬ P b) (h1 : a ≠ b) (hall : ∀ i, i < n → i ≠ a → i ≠ b → P i) (m : Nat) (hm : m ≤ n) :
    cnt P m + (if a < m then 1 else 0) + (if b < m then 1 else 0) = m := by
  induction m with
  | zero => simp [cnt]
  | succ m ih =>
    have ih := ih (by omega)
    unfold cnt
    by_cases ea : a = m
    · subst ea; rw [if_neg ha]
      split at ih <;> split at ih <;> (repeat' split) <;> omega
    · by_cases eb : b = m
      · subst eb; rw [if_neg hb]
        split at ih <;> split at ih <;> (repeat' split) <;> omega
      · rw [if_pos (hall m (by omega) (Ne.symm ea) (Ne.symm eb))]
        split at ih <;> split at ih <;> (repeat' split) <;> omega
/-- How many corners are left of the line from a to b. -/
def leftN (ps : List P2) (a b : P2) (m : Nat) : Nat := cnt (fun i => 0 < ori a b (cor ps i)) m
theorem nx_ne {ps : List P2} {k : Nat} (hk : k < ps.length) (hn : 2 ≤ ps.length) : nx ps k ≠ k := by rcases nx_cases hk with ⟨_, e⟩ | ⟨_, e⟩ <;> omega
theorem nleft1 (a b : P2) : ¬ 0 < ori a b a := fun h => by have := ((ori_pos _ _ _).1 h).2; rw [cr_same3] at this; omega
theorem nleft2 (a b : P2) : ¬ 0 < ori a b b := fun h => by have := ((ori_pos _ _ _).1 h).2; rw [cr_same2] at this; omega
/-- At every edge as many corners are left of it as there are others. -/
theorem cvx_count {ps : List P2} (h3 : 3 ≤ ps.length) (h8 : ps.length ≤ 8) : (∀ k, k < ps.length → leftN ps (cor ps k) (cor ps (nx ps k)) ps.length = ps.length - 2) ↔ okCvx ps := by
  constructor
  · intro h
    have key : ∀ k j, k < ps.length → j < ps.length → j ≠ k → j ≠ nx ps k → 0 < ori (cor ps k) (cor ps (nx ps k)) (cor ps j) := fun k j hk hj h1 h2 => by
      refine Classical.byContradiction fun q => ?_
      have c := cnt_three (fun i => 0 < ori (cor ps k) (cor ps (nx ps k)) (cor ps i)) (a := k) (b := nx ps k) (c := j) (nleft1 _ _) (nleft2 _ _) q (Ne.symm (nx_ne hk (by omega))) (Ne.symm h1) (Ne.symm h2) ps.length
      rw [if_pos hk, if_pos (nx_lt hk), if_pos hj] at c
      have := h k hk
      unfold leftN at this
      omega
    refine ⟨h3, h8, okPts_cor fun i hi => ?_, fun k j hk hj h1 h2 => ((ori_pos _ _ _).1 (key k j hk hj h1 h2)).2⟩
    -- some other corner
    have : ∃ j, j < ps.length ∧ j ≠ i ∧ j ≠ nx ps i := by
      by_cases e0 : 0 ≠ i ∧ 0 ≠ nx ps i
      · exact ⟨0, by omega, e0.1, e0.2⟩
      · by_cases e1 : 1 ≠ i ∧ 1 ≠ nx ps i
        · exact ⟨1, by omega, e1.1, e1.2⟩
        · exact ⟨2, by omega, by omega, by omega⟩
    obtain ⟨j, hj, h1, h2⟩ := this
    exact ((ori_pos _ _ _).1 (key i j hi hj h1 h2)).1.1
  · rintro ⟨_, _, ho, he⟩ k hk
    have c := cnt_two (fun i => 0 < ori (cor ps k) (cor ps (nx ps k)) (cor ps i)) (a := k) (b := nx ps k) (n := ps.length) (nleft1 _ _) (nleft2 _ _) (Ne.symm (nx_ne hk (by omega)))
      (fun i hi h1 h2 => (ori_pos _ _ _).2 ⟨⟨ho.cor hk, ho.cor (nx_lt hk), ho.cor hi⟩, he k i hk hi h1 h2⟩) ps.length (Nat.le_refl _)
    rw [if_pos hk, if_pos (nx_lt hk)] at c
    unfold leftN
    omega
/-- The document's test. -/
theorem cvx_each {ps : List P2} (h3 : 3 ≤ ps.length) (h8 : ps.length ≤ 8) : (∀ k, k < ps.length → ∀ j, j < ps.length → j ≠ k → j ≠ nx ps k → ori (cor ps k) (cor ps (nx ps k)) (cor ps j) = 1) ↔ okCvx ps := by
  constructor
  · intro h
    refine (cvx_count h3 h8).1 fun k hk => ?_
    have c := cnt_two (fun i => 0 < ori (cor ps k) (cor ps (nx ps k)) (cor ps i)) (a := k) (b := nx ps k) (n := ps.length) (nleft1 _ _) (nleft2 _ _) (Ne.symm (nx_ne hk (by omega)))
      (fun i hi h1 h2 => (ori_one _ _ _).1 (h k hk i hi h1 h2)) ps.length (Nat.le_refl _)
    rw [if_pos hk, if_pos (nx_lt hk)] at c
    unfold leftN
    omega
  · rintro ⟨_, _, ho, he⟩ k hk j hj h1 h2
    exact (ori_one _ _ _).2 ((ori_pos _ _ _).2 ⟨⟨ho.cor hk, ho.cor (nx_lt hk), ho.cor hj⟩, he k j hk hj h1 h2⟩)
theorem okCvx.ccw {ps : List P2} (h : okCvx ps) : Ccw ps := h.2.2.2.ccw
/-- The sum over the first m edges. -/
def sumE (ps : List P2) (o : P2) : Nat → Int
  | 0 => 0
  | m + 1 => sumE ps o m + cr o (cor ps m) (cor ps (nx ps m))
theorem sumE_fan (ps : List P2) (o : P2) : ∀ m, m + 1 ≤ ps.length → sumE ps o m = fan ps o m := by
  intro m
  induction m with
  | zero => intro _; rfl
  | succ m ih =>
    intro h
    unfold sumE fan
    rw [ih (by omega)]
    rcases nx_cases (ps := ps) (k := m) (by omega) with ⟨_, e⟩ | ⟨q, _⟩
    · rw [e]
    · omega
theorem sumE_loop {ps : List P2} (o : P2) (h : 1 ≤ ps.length) : sumE ps o ps.length = loopSum ps o := by
  obtain ⟨n, hn⟩ : ∃ n, ps.length = n + 1 := ⟨ps.length - 1, by omega⟩
  unfold loopSum
  rw [hn]
  show sumE ps o n + _ = _
  rw [sumE_fan ps o n (by omega)]
  rcases nx_cases (ps := ps) (k := n) (by omega) with ⟨q, _⟩ | ⟨_, e⟩
  · omega
  · rw [e]; rfl
theorem okQ.mul {a b : P2} (ha : okQ a) (hb : okQ b) : -800000000 ≤ a.1 * b.2 - a.2 * b.1 ∧ a.1 * b.2 - a.2 * b.1 ≤ 800000000 := by
  unfold okQ okP at ha hb
  have m1 := mul_bd8 (x := a.1) (y := b.2) (by omega) (by omega) (by omega) (by omega)
  have m2 := mul_bd8 (x := a.2) (y := b.1) (by omega) (by omega) (by omega) (by omega)
  omega
end Go.Proofs.Ytppkipcgpmijpaa
