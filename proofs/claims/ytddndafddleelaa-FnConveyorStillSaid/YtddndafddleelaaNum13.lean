/- Plain mathematics: items on a conveyor and the times at which they are picked. -/
import Derived.Test.YtddndafddleelaaZcPts
namespace Go.Proofs.Ytddndafddleelaa
set_option maxRecDepth 100000
/-- The item is in the window at the time t. -/
def inW (p s lo hi t : Int) : Prop := lo ≤ p + s * t ∧ p + s * t ≤ hi
instance (p s lo hi t : Int) : Decidable (inW p s lo hi t) := by unfold inW; infer_instance
/-- The first time from t on, of n ones. -/
def pickN (p s lo hi : Int) : Nat → Int → Int
  | 0, _ => -1
  | n + 1, t => if inW p s lo hi t then t else pickN p s lo hi n (t + 1)
/-- The first time from r on up to 2000. -/
def pickV (p s lo hi r : Int) : Int := pickN p s lo hi (2001 - r).toNat r
theorem pickN_spec (p s lo hi : Int) : ∀ (n : Nat) (t : Int), 0 ≤ t → (pickN p s lo hi n t = -1 ∧ ∀ u, t ≤ u → u < t + n → ¬ inW p s lo hi u) ∨ (t ≤ pickN p s lo hi n t ∧ pickN p s lo hi n t < t + n ∧ inW p s lo hi (pickN p s lo hi n t) ∧ ∀ u, t ≤ u → u < pickN p s lo hi n t → ¬ inW p s lo hi u)
  | 0, t, _ => .inl ⟨rfl, fun u h1 h2 => by omega⟩
  | n + 1, t, h0 => by
    unfold pickN
    by_cases h : inW p s lo hi t
    · rw [if_pos h]
      exact .inr ⟨Int.le_refl _, by omega, h, fun u h1 h2 => by omega⟩
    · rw [if_neg h]
      rcases pickN_spec p s lo hi n (t + 1) (by omega) with ⟨e, k⟩ | ⟨k1, k2, k3, k4⟩
      · refine .inl ⟨e, fun u h1 h2 => ?_⟩
        rcases Int.lt_or_le t u with c | c
        · exact k u (by omega) (by omega)
        · obtain rfl : u = t := by omega
          exact h
      · refine .inr ⟨by omega, by omega, k3, fun u h1 h2 => ?_⟩
        rcases Int.lt_or_le t u with c | c
        · exact k4 u (by omega) h2
        · obtain rfl : u = t := by omega
          exact h
/-- What the first time is. -/
theorem pick_spec {p s lo hi r : Int} (h : 0 ≤ r) : (pickV p s lo hi r = -1 ∧ ∀ u, r ≤ u → u ≤ 2000 → ¬ inW p s lo hi u) ∨ (r ≤ pickV p s lo hi r ∧ pickV p s lo hi r ≤ 2000 ∧ inW p s lo hi (pickV p s lo hi r) ∧ ∀ u, r ≤ u → u < pickV p s lo hi r → ¬ inW p s lo hi u) := by
  unfold pickV
  rcases pickN_spec p s lo hi (2001 - r).toNat r h with ⟨e, k⟩ | ⟨k1, k2, k3, k4⟩
  · exact .inl ⟨e, fun u h1 h2 => k u h1 (by omega)⟩
  · exact .inr ⟨k1, by omega, k3, k4⟩
theorem pick_is {p s lo hi r t : Int} (h : 0 ≤ r) (h1 : r ≤ t) (h2 : t ≤ 2000) (h3 : inW p s lo hi t) (h4 : ∀ u, r ≤ u → u < t → ¬ inW p s lo hi u) : pickV p s lo hi r = t := by
  rcases pick_spec (p := p) (s := s) (lo := lo) (hi := hi) h with ⟨_, k⟩ | ⟨k1, k2, k3, k4⟩
  · exact absurd h3 (k t h1 h2)
  · rcases Int.lt_or_le t (pickV p s lo hi r) with c | c
    · exact absurd h3 (k4 t h1 c)
    · rcases Int.lt_or_le (pickV p s lo hi r) t with d | d
      · exact absurd k3 (h4 _ k1 d)
      · omega
theorem pick_no {p s lo hi r : Int} (h : 0 ≤ r) (h1 : ∀ u, r ≤ u → u ≤ 2000 → ¬ inW p s lo hi u) : pickV p s lo hi r = -1 := by
  rcases pick_spec (p := p) (s := s) (lo := lo) (hi := hi) h with ⟨e, _⟩ | ⟨k1, k2, k3, _⟩
  · exact e
  · exact absurd k3 (h1 _ k1 k2)
/-- Beyond the last time there is none. -/
theorem pick_over {p s lo hi r : Int} (h : 2000 < r) : pickV p s lo hi r = -1 := pick_no (by omega) fun u h1 h2 => by omega
/-- One round of the search. -/
theorem pick_hit {p s lo hi r : Int} (h : 0 ≤ r) (h2 : r ≤ 2000) (h3 : inW p s lo hi r) : pickV p s lo hi r = r := pick_is h (Int.le_refl _) h2 h3 fun u h1 h2 => by omega
theorem pick_next {p s lo hi r : Int} (h : 0 ≤ r) (h3 : ¬ inW p s lo hi r) : pickV p s lo hi r = pickV p s lo hi (r + 1) := by
  rcases pick_spec (p := p) (s := s) (lo := lo) (hi := hi) (r := r + 1) (by omega) with ⟨e, k⟩ | ⟨k1, k2, k3, k4⟩
  · rw [e]
    refine pick_no h fun u h1 h2 => ?_
    rcases Int.lt_or_le r u with c | c
    · exact k u (by omega) h2
    · obtain rfl : u = r := by omega
      exact h3
  · refine pick_is h (by omega) k2 k3 fun u h1 h2 => ?_
    rcases Int.lt_or_le r u with c | c
    · exact k4 u (by omega) h2
    · obtain rfl : u = r := by omega
      exact h3
/-- On a stopped conveyor: at once, or never. -/
theorem pick_still {p lo hi r : Int} (h : 0 ≤ r) (h2 : r ≤ 2000) : pickV p 0 lo hi r = if lo ≤ p ∧ p ≤ hi then r else -1 := by
  have e : ∀ u, inW p 0 lo hi u ↔ lo ≤ p ∧ p ≤ hi := fun u => by unfold inW; rw [Int.zero_mul, Int.add_zero]
  by_cases k : lo ≤ p ∧ p ≤ hi
  · rw [if_pos k]; exact pick_hit h h2 ((e r).2 k)
  · rw [if_neg k]; exact pick_no h fun u _ _ q => k ((e u).1 q)
/-- By division: c is the least time at which the item has reached the window's low end. -/
theorem pick_div {p s lo hi r c : Int} (h : 0 ≤ r) (hs : 0 < s) (h1 : lo ≤ p + s * c) (h2 : p + s * (c - 1) < lo) :
    pickV p s lo hi r = (let t := if r < c then c else r; if t ≤ 2000 ∧ p + s * t ≤ hi then t else -1) := by
  have up : ∀ u v : Int, u ≤ v → s * u ≤ s * v := fun u v k => Int.mul_le_mul_of_nonneg_left k (by omega)
  obtain ⟨t, ht⟩ : ∃ t, (if r < c then c else r) = t := ⟨_, rfl⟩
  have hrt : r ≤ t := by rw [← ht]; split <;> omega
  have hct : c ≤ t := by rw [← ht]; split <;> omega
  have hlt : ∀ u, r ≤ u → u < t → ¬ inW p s lo hi u := fun u h1' h2' q => by
    have hc : u ≤ c - 1 := by
      by_cases k : r < c
      · rw [if_pos k] at ht; omega
      · rw [if_neg k] at ht; omega
    have := up u (c - 1) hc
    have := q.1
    omega
  have hlo : lo ≤ p + s * t := by have := up c t hct; omega
  simp only [ht]
  by_cases k : t ≤ 2000 ∧ p + s * t ≤ hi
  · rw [if_pos k]
    exact pick_is h hrt k.1 ⟨hlo, k.2⟩ hlt
  · rw [if_neg k]
    refine pick_no h fun u h1' h2' q => ?_
    rcases Int.lt_or_le u t with d | d
    · exact hlt u h1' d q
    · have := up t u d
      have := q.2
      exact k ⟨by omega, by omega⟩
/-- A later ready time never leads to an earlier pick. -/
theorem pick_later {p s lo hi r : Int} (h : 0 ≤ r) : pickV p s lo hi (r + 1) < 0 ∨ pickV p s lo hi r ≤ pickV p s lo hi (r + 1) := by
  by_cases k : inW p s lo hi r
  · rcases pick_spec (p := p) (s := s) (lo := lo) (hi := hi) (r := r + 1) (by omega) with ⟨e, _⟩ | ⟨k1, k2, k3, k4⟩
    · exact .inl (by omega)
    · refine .inr ?_
      rw [pick_hit h (by omega) k]; omega
  · rw [pick_next h k]; exact .inr (Int.le_refl _)
/-- With a window that ends one later the pick is not later. -/
theorem pick_wide {p s lo hi r : Int} (h : 0 ≤ r) (hp : 0 ≤ pickV p s lo hi r) : 0 ≤ pickV p s lo (hi + 1) r ∧ pickV p s lo (hi + 1) r ≤ pickV p s lo hi r := by
  rcases pick_spec (p := p) (s := s) (lo := lo) (hi := hi) h with ⟨e, _⟩ | ⟨k1, k2, k3, _⟩
  · omega
  · have k5 : inW p s lo (hi + 1) (pickV p s lo hi r) := ⟨k3.1, by have := k3.2; omega⟩
    rcases pick_spec (p := p) (s := s) (lo := lo) (hi := hi + 1) h with ⟨_, j⟩ | ⟨j1, j2, _, j4⟩
    · exact absurd k5 (j _ k1 k2)
    · refine ⟨by omega, ?_⟩
      rcases Int.lt_or_le (pickV p s lo hi r) (pickV p s lo (hi + 1) r) with c | c
      · exact absurd k5 (j4 _ k1 c)
      · exact c
/-- A valid conveyor. -/
def okConv (s lo hi : Int) : Prop := (0 ≤ s ∧ s ≤ 200) ∧ (-10000 ≤ lo ∧ lo ≤ 10000) ∧ lo ≤ hi ∧ hi ≤ 10000
instance (s lo hi : Int) : Decidable (okConv s lo hi) := by unfold okConv; infer_instance
/-- Valid items. -/
def okItem (c : Int × Int) : Prop := (-10000 ≤ c.1 ∧ c.1 ≤ 10000) ∧ 1 ≤ c.2 ∧ c.2 ≤ 100
instance (c : Int × Int) : Decidable (okItem c) := by unfold okItem; infer_instance
def okItems (L : List (Int × Int)) : Prop := L.length ≤ 8 ∧ ∀ c ∈ L, okItem c
instance (L : List (Int × Int)) : Decidable (okItems L) := by unfold okItems; infer_instance
theorem okItems_part {L K : List (Int × Int)} (h : okItems L) (hs : ∀ c ∈ K, c ∈ L) (hl : K.length ≤ L.length) : okItems K := ⟨Nat.le_trans hl h.1, fun c hc => h.2 c (hs c hc)⟩
def okPick (p s lo hi r : Int) : Prop := okConv s lo hi ∧ (-10000 ≤ p ∧ p ≤ 10000) ∧ 0 ≤ r ∧ r ≤ 2000
instance (p s lo hi r : Int) : Decidable (okPick p s lo hi r) := by unfold okPick; infer_instance
def timeV (p s lo hi r : Int) : Int := if okPick p s lo hi r then pickV p s lo hi r else -1
/-- The places that are reckoned stay small. -/
theorem place_small {p s t : Int} (hp : -10000 ≤ p ∧ p ≤ 10000) (hs : 0 ≤ s ∧ s ≤ 200) (ht : -1 ≤ t ∧ t ≤ 3000) : -200 ≤ s * t ∧ s * t ≤ 600000 := by
  have h1 := Int.mul_le_mul_of_nonneg_left ht.2 hs.1
  have h2 := Int.mul_le_mul_of_nonneg_left ht.1 hs.1
  omega
/-- The times of the picks, the robot being ready at r. -/
def planR (s lo hi : Int) : List (Int × Int) → Int → List Int
  | [], _ => []
  | c :: L, r => pickV c.1 s lo hi r :: planR s lo hi L (if 0 ≤ pickV c.1 s lo hi r then pickV c.1 s lo hi r + c.2 else r)
/-- When the robot is ready behind the first k items. -/
def rdyR (s lo hi : Int) : List (Int × Int) → Nat → Int → Int
  | _, 0, r => r
  | [], _ + 1, r => r
  | c :: L, k + 1, r => rdyR s lo hi L k (if 0 ≤ pickV c.1 s lo hi r then pickV c.1 s lo hi r + c.2 else r)
theorem planR_len (s lo hi : Int) : ∀ (L : List (Int × Int)) (r : Int), (planR s lo hi L r).length = L.length
  | [], _ => rfl
  | _ :: L, r => by unfold planR; rw [List.length_cons, List.length_cons, planR_len]
theorem planR_at (s lo hi : Int) : ∀ (L : List (Int × Int)) (k : Nat) (r : Int), k < L.length → (planR s lo hi L r).getD k 0 = pickV (L.getD k (0, 0)).1 s lo hi (rdyR s lo hi L k r)
  | [], _, _, h => by simp at h
  | c :: L, 0, r, _ => by simp [planR, rdyR]
  | c :: L, k + 1, r, h => by
    unfold planR rdyR
    rw [List.getD_cons_succ, List.getD_cons_succ]
    exact planR_at s lo hi L k _ (by simpa using h)
theorem rdyR_next (s lo hi : Int) : ∀ (L : List (Int × Int)) (k : Nat) (r : Int), k < L.length → rdyR s lo hi L (k + 1) r = if 0 ≤ pickV (L.getD k (0, 0)).1 s lo hi (rdyR s lo hi L k r) then pickV (L.getD k (0, 0)).1 s lo hi (rdyR s lo hi L k r) + (L.getD k (0, 0)).2 else rdyR s lo hi L k r
  | [], _, _, h => by simp at h
  | c :: L, 0, r, _ => by simp [rdyR]
  | c :: L, k + 1, r, h => by
    rw [rdyR, rdyR_next s lo hi L k _ (by simpa using h), List.getD_cons_succ]
    rfl
theorem rdyR_range {s lo hi : Int} {L : List (Int × Int)} (hL : okItems L) : ∀ k, k ≤ L.length → 0 ≤ rdyR s lo hi L k 0 ∧ rdyR s lo hi L k 0 ≤ 2100
  | 0, _ => by cases L <;> simp [rdyR]
  | k + 1, h => by
    obtain ⟨h1, h2⟩ := rdyR_range (s := s) (lo := lo) (hi := hi) hL k (by omega)
    rw [rdyR_next s lo hi L k 0 (by omega)]
    have hm : L.getD k (0, 0) ∈ L := by rw [List.getD_eq_getElem?_getD, List.getElem?_eq_getElem (by omega)]; exact List.getElem_mem (by omega)
    have hi2 := (hL.2 _ hm).2
    rcases pick_spec (p := (L.getD k (0, 0)).1) (s := s) (lo := lo) (hi := hi) h1 with ⟨e, _⟩ | ⟨k1, k2, _, _⟩
    · rw [if_neg (by omega)]; exact ⟨h1, h2⟩
    · rw [if_pos (by omega)]; omega
def planV13 (L : List (Int × Int)) (s lo hi : Int) : List Int := if okItems L ∧ okConv s lo hi then planR s lo hi L 0 else []
/-- How many of a list are negative. -/
def negs (l : List Int) : Nat := (l.filter fun x => decide (x < 0)).length
def missV (L : List (Int × Int)) (s lo hi : Int) : Int := if okItems L ∧ okConv s lo hi then (negs (planR s lo hi L 0) : Int) else -1
theorem negs_le (l : List Int) : negs l ≤ l.length := List.length_filter_le _ _
theorem negs_take {l : List Int} {k : Nat} (h : k < l.length) : negs (l.take (k + 1)) = negs (l.take k) + if l.getD k 0 < 0 then 1 else 0 := by
  unfold negs
  rw [List.take_succ_eq_append_getElem h, List.filter_append, List.length_append, List.getD_eq_getElem?_getD, List.getElem?_eq_getElem h]
  by_cases c : l[k] < 0 <;> simp [c]
end Go.Proofs.Ytddndafddleelaa
