/- Plain mathematics of a search by breadth: the queue of cells, what holds of it, the path that is read back out of it. -/
import Derived.Test.YtkogoflcacameaaNum
namespace Go.Proofs.Ytkogoflcacameaa
set_option maxRecDepth 100000
/-- A cell. -/
abbrev C2 : Type := Int × Int
/-- The neighbours of a cell, in the order in which they are visited. -/
def nbs (c : C2) : List C2 := [(c.1 - 1, c.2), (c.1, c.2 - 1), (c.1, c.2 + 1), (c.1 + 1, c.2)]
def Adj (c d : C2) : Prop := d ∈ nbs c
theorem adj_iff {c d : C2} : Adj c d ↔ (d.1 = c.1 - 1 ∧ d.2 = c.2) ∨ (d.1 = c.1 ∧ d.2 = c.2 - 1) ∨ (d.1 = c.1 ∧ d.2 = c.2 + 1) ∨ (d.1 = c.1 + 1 ∧ d.2 = c.2) := by
  obtain ⟨a, b⟩ := d
  unfold Adj nbs
  simp only [List.mem_cons, List.not_mem_nil, or_false, Prod.mk.injEq]
theorem Adj.symm {c d : C2} (h : Adj c d) : Adj d c := by
  rw [adj_iff] at h ⊢
  omega
/-- A queue of cells, each with the place of the cell from which it was visited. -/
abbrev Qu : Type := List (C2 × Int)
abbrev q0 : C2 × Int := ((0, 0), -1)
def qc (s : Qu) (i : Nat) : C2 := (s.getD i q0).1
def qb (s : Qu) (i : Nat) : Int := (s.getD i q0).2
theorem getD_app_left {α : Type} (s t : List α) (z : α) {i : Nat} (h : i < s.length) : (s ++ t).getD i z = s.getD i z := by
  rw [List.getD_eq_getElem?_getD, List.getD_eq_getElem?_getD, List.getElem?_append_left h]
theorem getD_app_last {α : Type} (s : List α) (x z : α) : (s ++ [x]).getD s.length z = x := by
  rw [List.getD_eq_getElem?_getD, List.getElem?_append_right (Nat.le_refl _)]; simp
/-- One neighbour is visited. -/
def Has (s : Qu) (n : C2) : Prop := ∃ i, i < s.length ∧ qc s i = n
instance (s : Qu) (n : C2) : Decidable (Has s n) := by unfold Has; exact Nat.decidableExistsLT (p := fun i => qc s i = n) s.length
def vis (fr : C2 → Bool) (k : Nat) (s : Qu) (n : C2) : Qu := if Has s n ∨ fr n = false then s else s ++ [(n, (k : Int))]
/-- All neighbours of the cell at k are visited. -/
def expd (fr : C2 → Bool) (s : Qu) (k : Nat) : Qu := (nbs (qc s k)).foldl (vis fr k) s
/-- What holds of the queue: all cells are free and distinct, each was visited from an earlier one, one step nearer; the distances do not decrease. -/
structure QI (fr : C2 → Bool) (a : C2) (s : Qu) (k : Nat) (d : Nat → Nat) : Prop where
  root : 0 < s.length ∧ qc s 0 = a ∧ qb s 0 = -1 ∧ d 0 = 0
  free : ∀ i, i < s.length → fr (qc s i) = true
  dist : ∀ i j, i < s.length → j < s.length → qc s i = qc s j → i = j
  par : ∀ i, 0 < i → i < s.length → ∃ p : Nat, qb s i = (p : Int) ∧ p < i ∧ p ≤ k ∧ Adj (qc s p) (qc s i) ∧ d i = d p + 1
  mono : ∀ i j, i ≤ j → j < s.length → d i ≤ d j
  top : k < s.length → ∀ i, i < s.length → d i ≤ d k + 1
  done : ∀ i, i < k → i < s.length → ∀ n, Adj (qc s i) n → fr n = true → ∃ j, j < s.length ∧ qc s j = n ∧ d j ≤ d i + 1
theorem qc_app {s : Qu} {e : C2 × Int} {i : Nat} (h : i < s.length) : qc (s ++ [e]) i = qc s i := by unfold qc; rw [getD_app_left _ _ _ h]
theorem qb_app {s : Qu} {e : C2 × Int} {i : Nat} (h : i < s.length) : qb (s ++ [e]) i = qb s i := by unfold qb; rw [getD_app_left _ _ _ h]
theorem qc_last {s : Qu} {e : C2 × Int} : qc (s ++ [e]) s.length = e.1 := by unfold qc; rw [getD_app_last]
theorem qb_last {s : Qu} {e : C2 × Int} : qb (s ++ [e]) s.length = e.2 := by unfold qb; rw [getD_app_last]
theorem QI.start {fr : C2 → Bool} {a : C2} (h : fr a = true) : QI fr a [(a, -1)] 0 (fun _ => 0) where
  root := ⟨by simp, rfl, rfl, rfl⟩
  free := fun i hi => by
    have : i = 0 := by simpa using hi
    subst this; exact h
  dist := fun i j hi hj _ => by simp at hi hj; omega
  par := fun i h0 hi => by simp at hi; omega
  mono := fun _ _ _ _ => Nat.le_refl _
  top := fun _ _ _ => by omega
  done := fun i hi => by omega
/-- One neighbour of the cell at k is visited. -/
theorem QI.vis1 {fr : C2 → Bool} {a : C2} {s : Qu} {k : Nat} {d : Nat → Nat} (h : QI fr a s k d) (hk : k < s.length) {n : C2} (hn : Adj (qc s k) n) :
    ∃ d', QI fr a (vis fr k s n) k d' ∧ (∃ t, vis fr k s n = s ++ t) ∧ (∀ i, i < s.length → d' i = d i) ∧ (fr n = true → ∃ j, j < (vis fr k s n).length ∧ qc (vis fr k s n) j = n ∧ d' j ≤ d k + 1) := by
  by_cases hc : Has s n ∨ fr n = false
  · have e : vis fr k s n = s := if_pos hc
    rw [e]
    refine ⟨d, h, ⟨[], by simp⟩, fun _ _ => rfl, fun hf => ?_⟩
    rcases hc with ⟨i, hi, hin⟩ | hc
    · exact ⟨i, hi, hin, h.top hk i hi⟩
    · rw [hc] at hf; cases hf
  · have e : vis fr k s n = s ++ [(n, (k : Int))] := if_neg hc
    rw [e]
    have hnew : ¬ Has s n := fun q => hc (.inl q)
    have hfree : fr n = true := by
      cases hf : fr n with
      | true => rfl
      | false => exact absurd (.inr hf) hc
    have hlen : (s ++ [(n, (k : Int))]).length = s.length + 1 := by simp
    refine ⟨fun i => if i = s.length then d k + 1 else d i, ?_, ⟨_, rfl⟩, fun i hi => if_neg (by omega), fun _ => ⟨s.length, by rw [hlen]; omega, qc_last, by simp⟩⟩
    constructor
    · obtain ⟨h0, h1, h2, h3⟩ := h.root
      refine ⟨by rw [hlen]; omega, by rw [qc_app h0]; exact h1, by rw [qb_app h0]; exact h2, ?_⟩
      rw [if_neg (by omega)]; exact h3
    · intro i hi
      rw [hlen] at hi
      by_cases hs : i < s.length
      · rw [qc_app hs]; exact h.free i hs
      · obtain rfl : i = s.length := by omega
        rw [qc_last]; exact hfree
    · intro i j hi hj hij
      rw [hlen] at hi hj
      by_cases hs : i < s.length
      · by_cases ht : j < s.length
        · rw [qc_app hs, qc_app ht] at hij; exact h.dist i j hs ht hij
        · obtain rfl : j = s.length := by omega
          rw [qc_app hs, qc_last] at hij
          exact absurd ⟨i, hs, hij⟩ hnew
      · obtain rfl : i = s.length := by omega
        by_cases ht : j < s.length
        · rw [qc_app ht, qc_last] at hij
          exact absurd ⟨j, ht, hij.symm⟩ hnew
        · omega
    · intro i h0 hi
      rw [hlen] at hi
      by_cases hs : i < s.length
      · obtain ⟨p, p1, p2, p3, p4, p5⟩ := h.par i h0 hs
        refine ⟨p, by rw [qb_app hs]; exact p1, p2, p3, by rw [qc_app hs, qc_app (by omega)]; exact p4, ?_⟩
        rw [if_neg (by omega), if_neg (by omega)]; exact p5
      · obtain rfl : i = s.length := by omega
        refine ⟨k, by rw [qb_last], hk, Nat.le_refl _, by rw [qc_last, qc_app hk]; exact hn, ?_⟩
        rw [if_pos rfl, if_neg (by omega)]
    · intro i j hij hj
      rw [hlen] at hj
      by_cases ht : j = s.length
      · rw [if_pos ht]
        by_cases hs : i = s.length
        · rw [if_pos hs]; exact Nat.le_refl _
        · rw [if_neg hs]; exact h.top hk i (by omega)
      · rw [if_neg ht, if_neg (by omega)]
        exact h.mono i j hij (by omega)
    · intro _ i hi
      rw [hlen] at hi
      rw [if_neg (show ¬ k = s.length by omega)]
      by_cases hs : i = s.length
      · rw [if_pos hs]; exact Nat.le_refl _
      · rw [if_neg hs]; exact h.top hk i (by omega)
    · intro i hik hi m hm hf
      have hs : i < s.length := by omega
      rw [qc_app hs] at hm
      obtain ⟨j, j1, j2, j3⟩ := h.done i hik hs m hm hf
      refine ⟨j, by rw [hlen]; omega, by rw [qc_app j1]; exact j2, ?_⟩
      rw [if_neg (by omega), if_neg (by omega)]; exact j3
/-- Some neighbours are visited. -/
theorem QI.fold {fr : C2 → Bool} {a : C2} {k : Nat} {c : C2} : ∀ (l : List C2) (s : Qu) (d : Nat → Nat), QI fr a s k d → k < s.length → qc s k = c → (∀ n ∈ l, Adj c n) →
    ∃ d', QI fr a (l.foldl (vis fr k) s) k d' ∧ (∃ t, l.foldl (vis fr k) s = s ++ t) ∧ (∀ i, i < s.length → d' i = d i) ∧ ∀ n ∈ l, fr n = true → ∃ j, j < (l.foldl (vis fr k) s).length ∧ qc (l.foldl (vis fr k) s) j = n ∧ d' j ≤ d k + 1
  | [], s, d, h, hk, hc, hl => ⟨d, h, ⟨[], by simp⟩, fun _ _ => rfl, fun n hn => by cases hn⟩
  | m :: l, s, d, h, hk, hc, hl => by
    obtain ⟨d1, h1, ⟨t1, e1⟩, q1, f1⟩ := h.vis1 hk (n := m) (by rw [hc]; exact hl m (List.mem_cons_self))
    have hlen1 : s.length ≤ (vis fr k s m).length := by rw [e1, List.length_append]; omega
    have hk1 : k < (vis fr k s m).length := by omega
    have hc1 : qc (vis fr k s m) k = c := by
      rw [← hc, e1]; unfold qc; rw [getD_app_left _ _ _ hk]
    obtain ⟨d2, h2, ⟨t2, e2⟩, q2, f2⟩ := QI.fold l (vis fr k s m) d1 h1 hk1 hc1 (fun n hn => hl n (List.mem_cons_of_mem _ hn))
    rw [List.foldl_cons]
    refine ⟨d2, h2, ⟨t1 ++ t2, by rw [e2, e1, List.append_assoc]⟩, fun i hi => by rw [q2 i (by omega), q1 i hi], fun n hn hf => ?_⟩
    have dk : d1 k = d k := q1 k hk
    rcases List.mem_cons.1 hn with rfl | hn
    · obtain ⟨j, j1, j2, j3⟩ := f1 hf
      refine ⟨j, by rw [e2, List.length_append]; omega, ?_, by rw [q2 j j1]; exact j3⟩
      rw [e2, show qc (vis fr k s n ++ t2) j = qc (vis fr k s n) j from by unfold qc; rw [getD_app_left _ _ _ j1]]
      exact j2
    · obtain ⟨j, j1, j2, j3⟩ := f2 n hn hf
      exact ⟨j, j1, j2, by rw [← dk]; exact j3⟩
/-- The cell at k has been looked at. -/
theorem QI.step {fr : C2 → Bool} {a : C2} {s : Qu} {k : Nat} {d : Nat → Nat} (h : QI fr a s k d) (hk : k < s.length) : ∃ d', QI fr a (expd fr s k) (k + 1) d' ∧ (∃ t, expd fr s k = s ++ t) := by
  obtain ⟨d1, h1, ⟨t, e⟩, q1, f1⟩ := QI.fold (nbs (qc s k)) s d h hk rfl (fun n hn => hn)
  have e' : expd fr s k = s ++ t := e
  have hx : expd fr s k = (nbs (qc s k)).foldl (vis fr k) s := rfl
  rw [← hx] at h1 f1
  have hlen : s.length ≤ (expd fr s k).length := by rw [e', List.length_append]; omega
  have hqk : qc (expd fr s k) k = qc s k := by rw [e']; unfold qc; rw [getD_app_left _ _ _ hk]
  refine ⟨d1, ⟨h1.root, h1.free, h1.dist, fun i h0 hi => ?_, h1.mono, fun hk1 i hi => ?_, fun i hik hi n hn hf => ?_⟩, t, e'⟩
  · obtain ⟨p, p1, p2, p3, p4, p5⟩ := h1.par i h0 hi
    exact ⟨p, p1, p2, by omega, p4, p5⟩
  · have := h1.top (by omega) i hi
    have m := h1.mono k (k + 1) (by omega) hk1
    omega
  · by_cases hik2 : i < k
    · exact h1.done i hik2 hi n hn hf
    · obtain rfl : i = k := by omega
      rw [hqk] at hn
      obtain ⟨j, j1, j2, j3⟩ := f1 n hn hf
      exact ⟨j, j1, j2, by rw [q1 i hk]; exact j3⟩
/-- A walk of n steps over free cells. -/
def Walk (fr : C2 → Bool) (a b : C2) (n : Nat) : Prop := ∃ f : Nat → C2, f 0 = a ∧ f n = b ∧ (∀ i, i < n → Adj (f i) (f (i + 1))) ∧ ∀ i, i ≤ n → fr (f i) = true
theorem Walk.rev {fr : C2 → Bool} {a b : C2} {n : Nat} (h : Walk fr a b n) : Walk fr b a n := by
  obtain ⟨f, h0, h1, h2, h3⟩ := h
  refine ⟨fun i => f (n - i), by simpa using h1, by simpa using h0, fun i hi => ?_, fun i hi => h3 _ (by omega)⟩
  have := (h2 (n - (i + 1)) (by omega)).symm
  rw [show n - (i + 1) + 1 = n - i by omega] at this
  exact this
/-- Where the cell looked at is the end, no walk is shorter. -/
theorem QI.least {fr : C2 → Bool} {a b : C2} {s : Qu} {k : Nat} {d : Nat → Nat} (h : QI fr a s k d) (hk : k < s.length) (hb : qc s k = b) {m : Nat} (hw : Walk fr a b m) : d k ≤ m := by
  obtain ⟨f, h0, h1, h2, h3⟩ := hw
  rcases Nat.lt_or_ge m (d k) with hm | hm
  · exfalso
    have key : ∀ i, i ≤ m → ∃ j, j < s.length ∧ qc s j = f i ∧ d j ≤ i := by
      intro i
      induction i with
      | zero => exact fun _ => ⟨0, h.root.1, by rw [h0]; exact h.root.2.1, by rw [h.root.2.2.2]; exact Nat.le_refl _⟩
      | succ i ih =>
        intro hi
        obtain ⟨j, j1, j2, j3⟩ := ih (by omega)
        have hjk : j < k := by
          rcases Nat.lt_or_ge j k with q | q
          · exact q
          · have := h.mono k j q j1; omega
        obtain ⟨j', p1, p2, p3⟩ := h.done j hjk j1 (f (i + 1)) (by rw [j2]; exact h2 i (by omega)) (h3 (i + 1) hi)
        exact ⟨j', p1, p2, by omega⟩
    obtain ⟨j, j1, j2, j3⟩ := key m (Nat.le_refl _)
    have : j = k := h.dist j k j1 hk (by rw [j2, h1, hb])
    subst this
    omega
  · exact hm
/-- Where all have been looked at, whatever can be reached is there. -/
theorem QI.all {fr : C2 → Bool} {a b : C2} {s : Qu} {k : Nat} {d : Nat → Nat} (h : QI fr a s k d) (hk : s.length ≤ k) {m : Nat} (hw : Walk fr a b m) : Has s b := by
  obtain ⟨f, h0, h1, h2, h3⟩ := hw
  have key : ∀ i, i ≤ m → Has s (f i) := by
    intro i
    induction i with
    | zero => exact fun _ => ⟨0, h.root.1, by rw [h0]; exact h.root.2.1⟩
    | succ i ih =>
      intro hi
      obtain ⟨j, j1, j2⟩ := ih (by omega)
      obtain ⟨j', p1, p2, _⟩ := h.done j (by omega) j1 (f (i + 1)) (by rw [j2]; exact h2 i (by omega)) (h3 (i + 1) hi)
      exact ⟨j', p1, p2⟩
  have := key m (Nat.le_refl _)
  rwa [h1] at this
/-- The cells that lead to the cell at k. -/
def bkL (s : Qu) : Nat → Int → List C2 → List C2
  | 0, _, out => out
  | f + 1, k, out => if k < 0 then out else bkL s f (qb s k.toNat) (qc s k.toNat :: out)
/-- What a path from a to b of n steps is. -/
structure PathI (fr : C2 → Bool) (a b : C2) (n : Nat) (L : List C2) : Prop where
  len : L.length = n + 1
  head : L.getD 0 (0, 0) = a
  last : L.getD n (0, 0) = b
  adj : ∀ i, i < n → Adj (L.getD i (0, 0)) (L.getD (i + 1) (0, 0))
  free : ∀ i, i ≤ n → fr (L.getD i (0, 0)) = true
  dist : ∀ i j, i ≤ n → j ≤ n → L.getD i (0, 0) = L.getD j (0, 0) → i = j
theorem PathI.walk {fr : C2 → Bool} {a b : C2} {n : Nat} {L : List C2} (h : PathI fr a b n L) : Walk fr a b n := ⟨fun i => L.getD i (0, 0), h.head, h.last, h.adj, h.free⟩
theorem bk_is {fr : C2 → Bool} {a : C2} {s : Qu} {K : Nat} {d : Nat → Nat} (h : QI fr a s K d) : ∀ (k : Nat), k < s.length → ∀ f, k < f → ∀ out, ∃ L, bkL s f (k : Int) out = L ++ out ∧ L.length = d k + 1 ∧ L.getD 0 (0, 0) = a ∧ L.getD (d k) (0, 0) = qc s k ∧ (∀ i, i < d k → Adj (L.getD i (0, 0)) (L.getD (i + 1) (0, 0))) ∧ ∀ i, i ≤ d k → ∃ q, q < s.length ∧ L.getD i (0, 0) = qc s q ∧ d q = i := by
  intro k
  induction k using Nat.strongRecOn with
  | _ k ih =>
    intro hk f hf out
    obtain ⟨f, rfl⟩ : ∃ g, f = g + 1 := ⟨f - 1, by omega⟩
    have e : bkL s (f + 1) (k : Int) out = bkL s f (qb s k) (qc s k :: out) := by
      show (if (k : Int) < 0 then out else bkL s f (qb s (k : Int).toNat) (qc s (k : Int).toNat :: out)) = _
      rw [if_neg (by omega), Int.toNat_natCast]
    rw [e]
    by_cases h0 : k = 0
    · subst h0
      rw [h.root.2.2.1]
      refine ⟨[qc s 0], ?_, by rw [h.root.2.2.2]; rfl, h.root.2.1, by rw [h.root.2.2.2]; rfl, fun i hi => by rw [h.root.2.2.2] at hi; omega, fun i hi => ⟨0, hk, ?_, ?_⟩⟩
      · cases f with
        | zero => rfl
        | succ f => rfl
      · have : i = 0 := by rw [h.root.2.2.2] at hi; omega
        subst this; rfl
      · rw [h.root.2.2.2] at hi ⊢; omega
    · obtain ⟨p, p1, p2, _, p4, p5⟩ := h.par k (by omega) hk
      rw [p1]
      obtain ⟨L, l1, l2, l3, l4, l5, l6⟩ := ih p p2 (by omega) f (by omega) (qc s k :: out)
      have hlast : (L ++ [qc s k]).getD (d k) (0, 0) = qc s k := by
        have := getD_app_last L (qc s k) (0, 0)
        rw [l2] at this
        rw [p5]; exact this
      have hleft : ∀ i, i ≤ d p → (L ++ [qc s k]).getD i (0, 0) = L.getD i (0, 0) := fun i hi => getD_app_left _ _ _ (by omega)
      refine ⟨L ++ [qc s k], by rw [l1]; simp, by rw [List.length_append, l2, p5]; rfl, by rw [hleft 0 (by omega)]; exact l3, hlast, fun i hi => ?_, fun i hi => ?_⟩
      · by_cases hi2 : i < d p
        · rw [hleft i (by omega), hleft (i + 1) (by omega)]; exact l5 i hi2
        · have : i = d p := by omega
          subst this
          rw [hleft _ (Nat.le_refl _), l4, ← p5, hlast]
          exact p4
      · by_cases hi2 : i ≤ d p
        · rw [hleft i hi2]; exact l6 i hi2
        · have : i = d k := by omega
          subst this
          exact ⟨k, hk, hlast, rfl⟩
theorem QI.path {fr : C2 → Bool} {a : C2} {s : Qu} {K k : Nat} {d : Nat → Nat} (h : QI fr a s K d) (hk : k < s.length) {f : Nat} (hf : k < f) : PathI fr a (qc s k) (d k) (bkL s f (k : Int) []) := by
  obtain ⟨L, l1, l2, l3, l4, l5, l6⟩ := bk_is h k hk f hf []
  rw [l1, List.append_nil]
  refine ⟨l2, l3, l4, l5, fun i hi => ?_, fun i j hi hj hij => ?_⟩
  · obtain ⟨q, q1, q2, _⟩ := l6 i hi
    rw [q2]; exact h.free q q1
  · obtain ⟨q, q1, q2, q3⟩ := l6 i hi
    obtain ⟨r, r1, r2, r3⟩ := l6 j hj
    have : q = r := h.dist q r q1 r1 (by rw [← q2, ← r2]; exact hij)
    subst this
    omega
/-- The search. -/
def bfs (fr : C2 → Bool) (b : C2) : Nat → Qu → Nat → List C2
  | 0, _, _ => []
  | f + 1, s, k => if k < s.length then (if qc s k = b then bkL s (k + 1) (k : Int) [] else bfs fr b f (expd fr s k) (k + 1)) else []
theorem bfs_is {fr : C2 → Bool} {a b : C2} (N : Nat) (hN : ∀ s k d, QI fr a s k d → s.length ≤ N) : ∀ (f : Nat) (s : Qu) (k : Nat) (d : Nat → Nat), QI fr a s k d → N < k + f → (∀ i, i < k → i < s.length → qc s i ≠ b) →
    (bfs fr b f s k = [] ∧ ∀ m, ¬ Walk fr a b m) ∨ ∃ n, PathI fr a b n (bfs fr b f s k) ∧ ∀ m, Walk fr a b m → n ≤ m
  | 0, s, k, d, h, hf, hne => by
    left
    refine ⟨rfl, fun m hw => ?_⟩
    obtain ⟨i, i1, i2⟩ := h.all (by have := hN s k d h; omega) hw
    exact hne i (by have := hN s k d h; omega) i1 i2
  | f + 1, s, k, d, h, hf, hne => by
    show ((if k < s.length then _ else _) = _ ∧ _) ∨ ∃ n, PathI fr a b n (if k < s.length then _ else _) ∧ _
    by_cases hk : k < s.length
    · rw [if_pos hk]
      by_cases hb : qc s k = b
      · rw [if_pos hb]
        right
        refine ⟨d k, ?_, fun m hw => h.least hk hb hw⟩
        rw [← hb]; exact h.path hk (by omega)
      · rw [if_neg hb]
        obtain ⟨d', h', t, e⟩ := h.step hk
        refine bfs_is N hN f _ (k + 1) d' h' (by omega) (fun i hik hi => ?_)
        have his : i < s.length := by omega
        have : qc (expd fr s k) i = qc s i := by rw [e]; unfold qc; rw [getD_app_left _ _ _ his]
        rw [this]
        by_cases hik2 : i < k
        · exact hne i hik2 his
        · have : i = k := by omega
          subst this; exact hb
    · rw [if_neg hk]
      left
      refine ⟨rfl, fun m hw => ?_⟩
      obtain ⟨i, i1, i2⟩ := h.all (by omega) hw
      exact hne i (by omega) i1 i2
end Go.Proofs.Ytkogoflcacameaa
