/- Plain mathematics of planning: tables of cells, planned paths, valid paths, corners. -/
import Derived.Test.YtkogoflcacameaaBf11
import Derived.Test.YtkogoflcacameaaPts3
namespace Go.Proofs.Ytkogoflcacameaa
set_option maxRecDepth 100000
/-- A row of a table of cells. -/
def rowB (T : List (List Bool)) (i : Nat) : List Bool := T.getD i []
/-- A cell exists and is free. -/
def freeV (T : List (List Bool)) (c : C2) : Bool := decide (0 ≤ c.1 ∧ c.1 < (T.length : Int) ∧ 0 ≤ c.2 ∧ c.2 < ((rowB T c.1.toNat).length : Int) ∧ (rowB T c.1.toNat).getD c.2.toNat false = true)
/-- A table's rows are of equal lengths, and it is not too large. -/
def squV (T : List (List Bool)) : Prop := T.length ≤ 20 ∧ ∀ k, k < T.length → (rowB T k).length = (rowB T 0).length ∧ (rowB T k).length ≤ 20
instance (T : List (List Bool)) : Decidable (squV T) := by unfold squV; exact inferInstance
theorem freeV_iff {T : List (List Bool)} {c : C2} : freeV T c = true ↔ (0 ≤ c.1 ∧ c.1 < (T.length : Int) ∧ 0 ≤ c.2 ∧ c.2 < ((rowB T c.1.toNat).length : Int) ∧ (rowB T c.1.toNat).getD c.2.toNat false = true) := by
  unfold freeV; exact decide_eq_true_iff
theorem freeV_small {T : List (List Bool)} {c : C2} (hs : squV T) (h : freeV T c = true) : 0 ≤ c.1 ∧ c.1 < 20 ∧ 0 ≤ c.2 ∧ c.2 < 20 := by
  obtain ⟨h1, h2, h3, h4, _⟩ := freeV_iff.1 h
  have := hs.1
  have := (hs.2 c.1.toNat (by omega)).2
  omega
/-- As many letters as places at most. -/
theorem holes : ∀ (N n : Nat) (f : Nat → Nat), (∀ i, i < n → f i < N) → (∀ i j, i < n → j < n → f i = f j → i = j) → n ≤ N
  | 0, n, f, hf, hi => by
    rcases Nat.eq_zero_or_pos n with h | h
    · omega
    · exact absurd (hf 0 h) (by omega)
  | N + 1, n, f, hf, hi => by
    by_cases hx : ∃ m, m < n ∧ f m = N
    · obtain ⟨m, hm, hfm⟩ := hx
      have key := holes N (n - 1) (fun i => f (if i < m then i else i + 1)) (fun i hin => by
        have h1 : (if i < m then i else i + 1) < n := by split <;> omega
        have := hf _ h1
        have h2 : f (if i < m then i else i + 1) ≠ N := fun q => by
          have := hi _ m h1 hm (by rw [q, hfm])
          split at this <;> omega
        omega) (fun i j hin hjn hij => by
        have := hi _ _ (by split <;> omega) (by split <;> omega) hij
        split at this <;> split at this <;> omega)
      omega
    · have := holes N n f (fun i hin => by
        have := hf i hin
        have : f i ≠ N := fun q => hx ⟨i, hin, q⟩
        omega) hi
      omega
theorem QI.small {T : List (List Bool)} {a : C2} {s : Qu} {k : Nat} {d : Nat → Nat} (hs : squV T) (h : QI (freeV T) a s k d) : s.length ≤ 400 := by
  refine holes 400 s.length (fun i => (qc s i).1.toNat * 20 + (qc s i).2.toNat) (fun i hi => ?_) (fun i j hi hj hij => ?_)
  · have := freeV_small hs (h.free i hi)
    omega
  · have h1 := freeV_small hs (h.free i hi)
    have h2 := freeV_small hs (h.free j hj)
    refine h.dist i j hi hj (Prod.ext ?_ ?_) <;> omega
theorem PathI.small {T : List (List Bool)} {a b : C2} {n : Nat} {L : List C2} (hs : squV T) (h : PathI (freeV T) a b n L) : n + 1 ≤ 400 := by
  refine holes 400 (n + 1) (fun i => (L.getD i (0, 0)).1.toNat * 20 + (L.getD i (0, 0)).2.toNat) (fun i hi => ?_) (fun i j hi hj hij => ?_)
  · have := freeV_small hs (h.free i (by omega))
    omega
  · have h1 := freeV_small hs (h.free i (by omega))
    have h2 := freeV_small hs (h.free j (by omega))
    refine h.dist i j (by omega) (by omega) (Prod.ext ?_ ?_) <;> omega
/-- The planned path. -/
def planV (T : List (List Bool)) (a b : C2) : List C2 := if squV T ∧ freeV T a = true ∧ freeV T b = true then bfs (freeV T) b 401 [(a, -1)] 0 else []
theorem planV_no {T : List (List Bool)} {a b : C2} (h : ¬ (squV T ∧ freeV T a = true ∧ freeV T b = true)) : planV T a b = [] := if_neg h
theorem plan_is {T : List (List Bool)} {a b : C2} (h : squV T ∧ freeV T a = true ∧ freeV T b = true) :
    (planV T a b = [] ∧ ∀ m, ¬ Walk (freeV T) a b m) ∨ ∃ n, PathI (freeV T) a b n (planV T a b) ∧ ∀ m, Walk (freeV T) a b m → n ≤ m := by
  have e : planV T a b = bfs (freeV T) b 401 [(a, -1)] 0 := if_pos h
  rw [e]
  exact bfs_is 400 (fun s k d q => q.small h.1) 401 _ 0 _ (QI.start h.2.1) (by omega) (fun i hi => by omega)
/-- What a path that is not empty is. -/
theorem plan_path {T : List (List Bool)} {a b : C2} (h : planV T a b ≠ []) : squV T ∧ freeV T a = true ∧ freeV T b = true ∧ ∃ n, (planV T a b).length = n + 1 ∧ PathI (freeV T) a b n (planV T a b) ∧ ∀ m, Walk (freeV T) a b m → n ≤ m := by
  by_cases q : squV T ∧ freeV T a = true ∧ freeV T b = true
  · rcases plan_is q with ⟨e, _⟩ | ⟨n, hp, hm⟩
    · exact absurd e h
    · exact ⟨q.1, q.2.1, q.2.2, n, hp.len, hp, hm⟩
  · exact absurd (planV_no q) h
theorem plan_of_walk {T : List (List Bool)} {a b : C2} {m : Nat} (hs : squV T) (h : Walk (freeV T) a b m) : planV T a b ≠ [] := fun e => by
  have h' := h
  obtain ⟨f, h0, h1, h2, h3⟩ := h
  rcases plan_is (a := a) (b := b) ⟨hs, by rw [← h0]; exact h3 0 (by omega), by rw [← h1]; exact h3 m (by omega)⟩ with ⟨_, q⟩ | ⟨n, q, _⟩
  · exact q m h'
  · have := q.len
    rw [e] at this
    simp at this
/-- The path back has the same length. -/
theorem plan_back (T : List (List Bool)) (a b : C2) : (planV T b a).length = (planV T a b).length := by
  by_cases h : planV T a b = []
  · by_cases k : planV T b a = []
    · rw [h, k]
    · obtain ⟨hs, _, _, n, _, hp, _⟩ := plan_path k
      exact absurd h (plan_of_walk hs hp.walk.rev)
  · obtain ⟨hs, _, _, n, hn, hp, hm⟩ := plan_path h
    obtain ⟨_, _, _, n', hn', hp', hm'⟩ := plan_path (plan_of_walk hs hp.walk.rev)
    have := hm n' hp'.walk.rev
    have := hm' n hp.walk.rev
    omega
/-- How far two cells are apart. -/
def gap (a b : C2) : Nat := (a.1 - b.1).natAbs + (a.2 - b.2).natAbs
theorem adj_gap {c d : C2} : Adj c d ↔ gap c d = 1 := by
  rw [adj_iff]; unfold gap; omega
theorem walk_gap {fr : C2 → Bool} {a b : C2} {m : Nat} (h : Walk fr a b m) : gap a b ≤ m := by
  obtain ⟨f, h0, h1, h2, h3⟩ := h
  have key : ∀ i, i ≤ m → gap a (f i) ≤ i := by
    intro i
    induction i with
    | zero => intro _; rw [h0]; unfold gap; omega
    | succ i ih =>
      intro hi
      have := ih (by omega)
      have := adj_gap.1 (h2 i (by omega))
      unfold gap at *
      omega
  have := key m (Nat.le_refl _)
  rwa [h1] at this
theorem plan_far {T : List (List Bool)} {a b : C2} (h : planV T a b ≠ []) : gap a b + 1 ≤ (planV T a b).length := by
  obtain ⟨_, _, _, n, hn, hp, _⟩ := plan_path h
  have := walk_gap hp.walk
  omega
/-- A valid path. -/
def validV (T : List (List Bool)) (L : List C2) : Prop := squV T ∧ 1 ≤ L.length ∧ L.length ≤ 400 ∧ (∀ k, k < L.length → freeV T (L.getD k (0, 0)) = true) ∧ ∀ k, k + 1 < L.length → gap (L.getD (k + 1) (0, 0)) (L.getD k (0, 0)) = 1
instance decAll1 (n : Nat) (p : Nat → Prop) [DecidablePred p] : Decidable (∀ k, k + 1 < n → p k) :=
  decidable_of_iff (∀ k, k < n - 1 → p k) ⟨fun h k hk => h k (by omega), fun h k hk => h k (by omega)⟩
instance (T : List (List Bool)) (L : List C2) : Decidable (validV T L) := by unfold validV; exact inferInstance
theorem plan_valid {T : List (List Bool)} {a b : C2} (h : planV T a b ≠ []) : validV T (planV T a b) := by
  obtain ⟨hs, _, _, n, hn, hp, _⟩ := plan_path h
  have := hp.small hs
  refine ⟨hs, by omega, by omega, fun k hk => hp.free k (by omega), fun k hk => ?_⟩
  have := adj_gap.1 (hp.adj k (by omega))
  unfold gap at *
  omega
theorem plan_ends {T : List (List Bool)} {a b : C2} (h : planV T a b ≠ []) : (planV T a b).getD 0 (0, 0) = a ∧ (planV T a b).getD ((planV T a b).length - 1) (0, 0) = b ∧ ∀ i j, i < (planV T a b).length → j < (planV T a b).length → (planV T a b).getD i (0, 0) = (planV T a b).getD j (0, 0) → i = j := by
  obtain ⟨hs, _, _, n, hn, hp, _⟩ := plan_path h
  refine ⟨hp.head, ?_, fun i j hi hj => hp.dist i j (by omega) (by omega)⟩
  rw [hn]; exact hp.last
/-- A valid path's beginning. -/
theorem validV.head {T : List (List Bool)} {L : List C2} (h : validV T L) : validV T (L.take 1) := by
  obtain ⟨h1, h2, h3, h4, h5⟩ := h
  cases L with
  | nil => simp at h2
  | cons c L => exact ⟨h1, by simp, by simp, fun k hk => by
      have hk' : k < 1 := by simpa using hk
      obtain rfl : k = 0 := by omega
      exact h4 0 (by simp), fun k hk => by simp at hk⟩
theorem getD_rev (L : List C2) {k : Nat} (hk : k < L.length) : L.reverse.getD k (0, 0) = L.getD (L.length - 1 - k) (0, 0) := by
  rw [List.getD_eq_getElem?_getD, List.getD_eq_getElem?_getD, List.getElem?_reverse hk]
theorem validV.rev {T : List (List Bool)} {L : List C2} (h : validV T L) : validV T L.reverse := by
  obtain ⟨h1, h2, h3, h4, h5⟩ := h
  refine ⟨h1, by rw [List.length_reverse]; exact h2, by rw [List.length_reverse]; exact h3, fun k hk => ?_, fun k hk => ?_⟩
  · rw [List.length_reverse] at hk
    rw [getD_rev L hk]; exact h4 _ (by omega)
  · rw [List.length_reverse] at hk
    rw [getD_rev L hk, getD_rev L (by omega)]
    have := h5 (L.length - 1 - (k + 1)) (by omega)
    rw [show L.length - 1 - (k + 1) + 1 = L.length - 1 - k by omega] at this
    unfold gap at *
    omega
theorem not_valid_twice {T : List (List Bool)} {L : List C2} (h : 0 < L.length) : ¬ validV T (L.reverse ++ [L.getD 0 (0, 0)]) := fun k => by
  have h5 := k.2.2.2.2 (L.length - 1) (by simp; omega)
  have e1 : (L.reverse ++ [L.getD 0 (0, 0)]).getD (L.length - 1 + 1) (0, 0) = L.getD 0 (0, 0) := by
    have := getD_app_last L.reverse (L.getD 0 (0, 0)) (0, 0)
    rw [List.length_reverse] at this
    rw [show L.length - 1 + 1 = L.length by omega]; exact this
  have e2 : (L.reverse ++ [L.getD 0 (0, 0)]).getD (L.length - 1) (0, 0) = L.getD 0 (0, 0) := by
    rw [getD_app_left _ _ _ (by rw [List.length_reverse]; omega), getD_rev L (by omega)]
    congr 1; omega
  rw [e1, e2] at h5
  unfold gap at h5
  omega
/-- A table of which all cells are free. -/
def openV (T : List (List Bool)) : List (List Bool) := T.map fun r => List.replicate r.length true
theorem openV_row (T : List (List Bool)) {k : Nat} (hk : k < T.length) : rowB (openV T) k = List.replicate (rowB T k).length true := by
  unfold rowB openV
  rw [List.getD_eq_getElem?_getD, List.getD_eq_getElem?_getD, List.getElem?_map, List.getElem?_eq_getElem hk]
  rfl
theorem openV_len (T : List (List Bool)) : (openV T).length = T.length := by unfold openV; rw [List.length_map]
theorem openV_squ {T : List (List Bool)} (h : squV T) : squV (openV T) := by
  refine ⟨by rw [openV_len]; exact h.1, fun k hk => ?_⟩
  rw [openV_len] at hk
  rw [openV_row T hk, openV_row T (by omega), List.length_replicate, List.length_replicate]
  exact h.2 k hk
theorem openV_free {T : List (List Bool)} {c : C2} : freeV (openV T) c = true ↔ (0 ≤ c.1 ∧ c.1 < (T.length : Int) ∧ 0 ≤ c.2 ∧ c.2 < ((rowB T c.1.toNat).length : Int)) := by
  rw [freeV_iff, openV_len]
  constructor
  · rintro ⟨h1, h2, h3, h4, _⟩
    rw [openV_row T (by omega), List.length_replicate] at h4
    exact ⟨h1, h2, h3, h4⟩
  · rintro ⟨h1, h2, h3, h4⟩
    rw [openV_row T (by omega), List.length_replicate]
    refine ⟨h1, h2, h3, h4, ?_⟩
    rw [List.getD_eq_getElem?_getD, List.getElem?_replicate, if_pos (by omega)]; rfl
theorem Walk.cons {fr : C2 → Bool} {a c b : C2} {n : Nat} (ha : fr a = true) (hac : Adj a c) (h : Walk fr c b n) : Walk fr a b (n + 1) := by
  obtain ⟨f, h0, h1, h2, h3⟩ := h
  refine ⟨fun i => Nat.casesOn i a f, rfl, h1, fun i hi => ?_, fun i hi => ?_⟩
  · cases i with
    | zero => show Adj a (f 0); rw [h0]; exact hac
    | succ i => exact h2 i (by omega)
  · cases i with
    | zero => exact ha
    | succ i => exact h3 i (by omega)
/-- In a box of free cells a walk is as long as the cells are apart. -/
theorem walk_box {fr : C2 → Bool} {X Y : Int} (hf : ∀ c : C2, 0 ≤ c.1 → c.1 < X → 0 ≤ c.2 → c.2 < Y → fr c = true) : ∀ (n : Nat) (a b : C2), gap a b = n → (0 ≤ a.1 ∧ a.1 < X ∧ 0 ≤ a.2 ∧ a.2 < Y) → (0 ≤ b.1 ∧ b.1 < X ∧ 0 ≤ b.2 ∧ b.2 < Y) → Walk fr a b n
  | 0, a, b, hg, ha, hb => by
    have : a = b := by unfold gap at hg; exact Prod.ext (by omega) (by omega)
    subst this
    exact ⟨fun _ => a, rfl, rfl, fun i hi => by omega, fun i hi => hf a ha.1 ha.2.1 ha.2.2.1 ha.2.2.2⟩
  | n + 1, a, b, hg, ha, hb => by
    have hfa := hf a ha.1 ha.2.1 ha.2.2.1 ha.2.2.2
    have go : ∀ c : C2, gap a c = 1 → gap c b = n → (0 ≤ c.1 ∧ c.1 < X ∧ 0 ≤ c.2 ∧ c.2 < Y) → Walk fr a b (n + 1) := fun c h1 h2 h3 => (walk_box hf n c b h2 h3 hb).cons hfa (adj_gap.2 h1)
    unfold gap at hg go
    rcases Int.lt_trichotomy a.1 b.1 with h | h | h
    · exact go (a.1 + 1, a.2) (by simp only; omega) (by simp only; omega) (by simp only; omega)
    · rcases Int.lt_trichotomy a.2 b.2 with q | q | q
      · exact go (a.1, a.2 + 1) (by simp only; omega) (by simp only; omega) (by simp only; omega)
      · omega
      · exact go (a.1, a.2 - 1) (by simp only; omega) (by simp only; omega) (by simp only; omega)
    · exact go (a.1 - 1, a.2) (by simp only; omega) (by simp only; omega) (by simp only; omega)
/-- Where all cells are free, a path is as long as the cells are apart. -/
theorem plan_open {T : List (List Bool)} {a b : C2} (h : planV T a b ≠ []) : (planV (openV T) a b).length = gap a b + 1 := by
  obtain ⟨hs, ha, hb, _⟩ := plan_path h
  have a1 := freeV_iff.1 ha
  have b1 := freeV_iff.1 hb
  have ra := (hs.2 a.1.toNat (by omega)).1
  have rb := (hs.2 b.1.toNat (by omega)).1
  have hw : Walk (freeV (openV T)) a b (gap a b) := walk_box (X := T.length) (Y := (rowB T 0).length) (fun c h1 h2 h3 h4 => openV_free.2 ⟨h1, h2, h3, by rw [(hs.2 c.1.toNat (by omega)).1]; exact h4⟩) (gap a b) a b rfl (by omega) (by omega)
  have hn := plan_of_walk (openV_squ hs) hw
  obtain ⟨_, _, _, n, hn, hp, hm⟩ := plan_path hn
  have := hm _ hw
  have := walk_gap hp.walk
  omega
/-- A difference in the machine's numbers. -/
def dif (x y : Int) : Int := IntKind.i64.wrap (x - y)
/-- The cell at k is a corner. -/
def cornV (L : List C2) (k : Nat) : Bool := decide (k = 0 ∨ k + 1 = L.length ∨ dif (L.getD k (0, 0)).1 (L.getD (k - 1) (0, 0)).1 ≠ dif (L.getD (k + 1) (0, 0)).1 (L.getD k (0, 0)).1 ∨ dif (L.getD k (0, 0)).2 (L.getD (k - 1) (0, 0)).2 ≠ dif (L.getD (k + 1) (0, 0)).2 (L.getD k (0, 0)).2)
/-- The corners of the first k cells. -/
def cornTo (L : List C2) (k : Nat) : List C2 := ((List.range k).filter (cornV L)).map fun i => L.getD i (0, 0)
def cornersV (L : List C2) : List C2 := if 400 < L.length then [] else cornTo L L.length
theorem cornTo_yes {L : List C2} {k : Nat} (h : cornV L k = true) : cornTo L (k + 1) = cornTo L k ++ [L.getD k (0, 0)] := by
  unfold cornTo; rw [List.range_succ, List.filter_append, List.map_append]; simp [h]
theorem cornTo_no {L : List C2} {k : Nat} (h : cornV L k = false) : cornTo L (k + 1) = cornTo L k := by
  unfold cornTo; rw [List.range_succ, List.filter_append, List.map_append]; simp [h]
/-- Of numbers that are picked out in order: no other one lies between. -/
theorem between11 (p : Nat → Bool) : ∀ n : Nat, (∀ i : Nat, i < ((List.range n).filter p).length → ((List.range n).filter p).getD i 0 < n ∧ p (((List.range n).filter p).getD i 0) = true) ∧
    (∀ i, i + 1 < ((List.range n).filter p).length → ((List.range n).filter p).getD i 0 < ((List.range n).filter p).getD (i + 1) 0 ∧ ∀ m, ((List.range n).filter p).getD i 0 < m → m < ((List.range n).filter p).getD (i + 1) 0 → p m = false) ∧
    (∀ m, m < n → (((List.range n).filter p).length = 0 ∨ ((List.range n).filter p).getD (((List.range n).filter p).length - 1) 0 < m) → p m = false) ∧ ((List.range n).filter p).length ≤ n
  | 0 => ⟨fun i h => by simp at h, fun i h => by simp at h, fun m h => by omega, by simp⟩
  | n + 1 => by
    obtain ⟨h1, h2, h3, h4⟩ := between11 p n
    have e : (List.range (n + 1)).filter p = (List.range n).filter p ++ (if p n = true then [n] else []) := by
      rw [List.range_succ, List.filter_append]
      congr 1
      cases h : p n <;> simp [h]
    rw [e]
    generalize (List.range n).filter p = Q at *
    cases hp : p n with
    | false =>
      simp only [Bool.false_eq_true, if_false, List.append_nil]
      refine ⟨fun i hi => ⟨by have := (h1 i hi).1; omega, (h1 i hi).2⟩, h2, fun m hm q => ?_, by omega⟩
      by_cases k : m = n
      · subst k; exact hp
      · exact h3 m (by omega) q
    | true =>
      simp only [if_true]
      have hl : (Q ++ [n]).length = Q.length + 1 := by simp
      have hlast : (Q ++ [n]).getD Q.length 0 = n := getD_app_last Q n 0
      have hleft : ∀ i, i < Q.length → (Q ++ [n]).getD i 0 = Q.getD i 0 := fun i hi => getD_app_left Q [n] 0 hi
      refine ⟨fun i hi => ?_, fun i hi => ?_, fun m hm q => ?_, by rw [hl]; omega⟩
      · rw [hl] at hi
        by_cases k : i < Q.length
        · rw [hleft i k]; exact ⟨by have := (h1 i k).1; omega, (h1 i k).2⟩
        · obtain rfl : i = Q.length := by omega
          rw [hlast]; exact ⟨by omega, hp⟩
      · rw [hl] at hi
        by_cases k : i + 1 < Q.length
        · rw [hleft i (by omega), hleft (i + 1) k]; exact h2 i k
        · have k2 : i + 1 = Q.length := by omega
          rw [hleft i (by omega), k2, hlast]
          refine ⟨(h1 i (by omega)).1, fun m q1 q2 => h3 m q2 (.inr ?_)⟩
          rw [show Q.length - 1 = i by omega]; exact q1
      · rw [hl] at q
        rcases q with q | q
        · omega
        · rw [show Q.length + 1 - 1 = Q.length by omega, hlast] at q
          omega
/-- Small cells, of which consecutive ones agree in a coordinate. -/
def Straight (L : List C2) : Prop := (∀ k, k < L.length → 0 ≤ (L.getD k (0, 0)).1 ∧ (L.getD k (0, 0)).1 < 20 ∧ 0 ≤ (L.getD k (0, 0)).2 ∧ (L.getD k (0, 0)).2 < 20) ∧ ∀ k, k + 1 < L.length → (L.getD (k + 1) (0, 0)).1 = (L.getD k (0, 0)).1 ∨ (L.getD (k + 1) (0, 0)).2 = (L.getD k (0, 0)).2
theorem plan_straight (T : List (List Bool)) (a b : C2) : Straight (planV T a b) := by
  by_cases h : planV T a b = []
  · rw [h]; exact ⟨fun k hk => by simp at hk, fun k hk => by simp at hk⟩
  · have hv := plan_valid h
    refine ⟨fun k hk => freeV_small hv.1 (hv.2.2.2.1 k hk), fun k hk => ?_⟩
    have := hv.2.2.2.2 k hk
    unfold gap at this
    omega
theorem zero_straight (n : Nat) : Straight (List.replicate n (0, 0)) := by
  have e : ∀ k, (List.replicate n ((0, 0) : C2)).getD k (0, 0) = (0, 0) := fun k => by
    rw [List.getD_eq_getElem?_getD, List.getElem?_replicate]; split <;> rfl
  refine ⟨fun k _ => ?_, fun k _ => ?_⟩
  · rw [e]; decide
  · rw [e, e]; exact .inl rfl
theorem dif_small {x y : Int} (h1 : 0 ≤ x) (h2 : x < 20) (h3 : 0 ≤ y) (h4 : y < 20) : dif x y = x - y := wrap_in (by omega) (by omega)
theorem run_one {L : List C2} (hs : Straight L) {i : Nat} : ∀ j, i < j → j < L.length → (∀ m, i < m → m < j → cornV L m = false) → ((L.getD (i + 1) (0, 0)).1 = (L.getD i (0, 0)).1 → (L.getD j (0, 0)).1 = (L.getD i (0, 0)).1) ∧ ((L.getD (i + 1) (0, 0)).2 = (L.getD i (0, 0)).2 → (L.getD j (0, 0)).2 = (L.getD i (0, 0)).2) ∧ (L.getD j (0, 0)).1 - (L.getD (j - 1) (0, 0)).1 = (L.getD (i + 1) (0, 0)).1 - (L.getD i (0, 0)).1 ∧ (L.getD j (0, 0)).2 - (L.getD (j - 1) (0, 0)).2 = (L.getD (i + 1) (0, 0)).2 - (L.getD i (0, 0)).2 := by
  intro j
  induction j with
  | zero => intro h; omega
  | succ j ih =>
    intro hij hj hm
    by_cases e : i = j
    · subst e; exact ⟨fun h => h, fun h => h, rfl, rfl⟩
    · obtain ⟨h1, h2, h3, h4⟩ := ih (by omega) (by omega) (fun m q1 q2 => hm m q1 (by omega))
      have c := hm j (by omega) (by omega)
      unfold cornV at c
      have c := of_decide_eq_false c
      have s0 := hs.1 (j - 1) (by omega)
      have s1 := hs.1 j (by omega)
      have s2 := hs.1 (j + 1) hj
      rw [dif_small s1.1 s1.2.1 s0.1 s0.2.1, dif_small s1.2.2.1 s1.2.2.2 s0.2.2.1 s0.2.2.2, dif_small s2.1 s2.2.1 s1.1 s1.2.1, dif_small s2.2.2.1 s2.2.2.2 s1.2.2.1 s1.2.2.2] at c
      rw [show j + 1 - 1 = j from rfl]
      refine ⟨fun q => ?_, fun q => ?_, ?_, ?_⟩
      · have := h1 q; omega
      · have := h2 q; omega
      · omega
      · omega
theorem cornTo_len (L : List C2) (n : Nat) : (cornTo L n).length = ((List.range n).filter (cornV L)).length := by unfold cornTo; rw [List.length_map]
theorem cornTo_at (L : List C2) (n : Nat) {k : Nat} (hk : k < (cornTo L n).length) : (cornTo L n).getD k (0, 0) = L.getD (((List.range n).filter (cornV L)).getD k 0) (0, 0) := by
  rw [cornTo_len] at hk
  unfold cornTo
  rw [List.getD_eq_getElem?_getD, List.getElem?_map, List.getD_eq_getElem?_getD (l := List.filter _ _), List.getElem?_eq_getElem hk]
  rfl
/-- Consecutive corners agree in a coordinate. -/
theorem corn_axis {L : List C2} (hs : Straight L) {k : Nat} (hk : k + 1 < (cornTo L L.length).length) : ((cornTo L L.length).getD (k + 1) (0, 0)).1 = ((cornTo L L.length).getD k (0, 0)).1 ∨ ((cornTo L L.length).getD (k + 1) (0, 0)).2 = ((cornTo L L.length).getD k (0, 0)).2 := by
  obtain ⟨b1, b2, _, _⟩ := between11 (cornV L) L.length
  rw [cornTo_at L _ hk, cornTo_at L _ (by omega)]
  rw [cornTo_len] at hk
  have q := b2 k hk
  have l1 := (b1 (k + 1) hk).1
  obtain ⟨r1, r2, _, _⟩ := run_one hs _ q.1 l1 q.2
  rcases hs.2 _ (show ((List.range L.length).filter (cornV L)).getD k 0 + 1 < L.length by have := q.1; omega) with h | h
  · exact .inl (r1 h)
  · exact .inr (r2 h)
theorem corn_first {L : List C2} (h : 0 < L.length) : 0 < (cornTo L L.length).length ∧ (cornTo L L.length).getD 0 (0, 0) = L.getD 0 (0, 0) := by
  obtain ⟨b1, b2, b3, _⟩ := between11 (cornV L) L.length
  have c0 : cornV L 0 = true := by unfold cornV; exact decide_eq_true (.inl rfl)
  have h0 : 0 < (cornTo L L.length).length := by
    rw [cornTo_len]
    rcases Nat.eq_zero_or_pos ((List.range L.length).filter (cornV L)).length with q | q
    · have := b3 0 h (.inl q); rw [c0] at this; cases this
    · exact q
  refine ⟨h0, ?_⟩
  rw [cornTo_at L _ h0]
  congr 1
  rw [cornTo_len] at h0
  obtain ⟨n, hn⟩ : ∃ n, L.length = n + 1 := ⟨L.length - 1, by omega⟩
  rw [hn, List.range_succ_eq_map, List.filter_cons, if_pos c0]; rfl
theorem corn_last {L : List C2} (h : 0 < L.length) : (cornTo L L.length).getD ((cornTo L L.length).length - 1) (0, 0) = L.getD (L.length - 1) (0, 0) := by
  obtain ⟨n, hn⟩ : ∃ n, L.length = n + 1 := ⟨L.length - 1, by omega⟩
  have c : cornV L n = true := by unfold cornV; exact decide_eq_true (.inr (.inl hn.symm))
  have e : cornTo L L.length = cornTo L n ++ [L.getD n (0, 0)] := by rw [hn]; exact cornTo_yes c
  rw [e, List.length_append, hn]
  exact getD_app_last _ _ _
theorem corn_le (L : List C2) : (cornTo L L.length).length ≤ L.length := by rw [cornTo_len]; exact (between11 (cornV L) L.length).2.2.2
end Go.Proofs.Ytkogoflcacameaa
