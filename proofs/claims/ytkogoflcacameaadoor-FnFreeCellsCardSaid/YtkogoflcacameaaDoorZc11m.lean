/- Several of my texts in one: Bf11, Gd11, Pl11. -/
import Derived.Test.YtkogoflcacameaaDoorZcPts
import Derived.Test.YtkogoflcacameaaDoorZbArm
namespace Go.Proofs.YtkogoflcacameaaDoor
set_option maxRecDepth 100000
/-- A cell. -/
abbrev C2 : Type := Int × Int
/-- The neighbours of a cell, in the order in which they are visited. -/
def nbs (c : C2) : List C2 := [(c.1 - 1, c.2), (c.1, c.2 - 1), (c.1, c.2 + 1), (c.1 + 1, c.2)]
def Adj (c d : C2) : Prop := d ∈ nbs c
theorem adj_iff {c d : C2} : Adj c d ↔ (d.1 = c.1 - 1 ∧ d.2 = c.2) ∨ (d.1 = c.1 ∧ d.2 = c.2 - 1) ∨ (d.1 = c.1 ∧ d.2 = c.2 + 1) ∨ (d.1 = c.1 + 1 ∧ d.2 = c.2) := by
  obtain ⟨a, b⟩ := d
  unfold Adj nbs
  simp only [List.mem_cons, List.not_mem_nil, or_false, Prod.mk.injEq]
theorem Adj.symm {c d : C2} (h : Adj c d) : Adj d c := by
  rw [adj_iff] at h ⊢
  omega
/-- A queue of cells, each with the place of the cell from which it was visited. -/
abbrev Qu : Type := List (C2 × Int)
abbrev q0 : C2 × Int := ((0, 0), -1)
def qc (s : Qu) (i : Nat) : C2 := (s.getD i q0).1
def qb (s : Qu) (i : Nat) : Int := (s.getD i q0).2
theorem getD_app_left {α : Type} (s t : List α) (z : α) {i : Nat} (h : i < s.length) : (s ++ t).getD i z = s.getD i z := by
  rw [List.getD_eq_getElem?_getD, List.getD_eq_getElem?_getD, List.getElem?_append_left h]
theorem getD_app_last {α : Type} (s : List α) (x z : α) : (s ++ [x]).getD s.length z = x := by
  rw [List.getD_eq_getElem?_getD, List.getElem?_append_right (Nat.le_refl _)]; simp
/-- One neighbour is visited. -/
def Has (s : Qu) (n : C2) : Prop := ∃ i, i < s.length ∧ qc s i = n
instance (s : Qu) (n : C2) : Decidable (Has s n) := by unfold Has; exact Nat.decidableExistsLT (p := fun i => qc s i = n) s.length
def vis (fr : C2 → Bool) (k : Nat) (s : Qu) (n : C2) : Qu := if Has s n ∨ fr n = false then s else s ++ [(n, (k : Int))]
/-- All neighbours of the cell at k are visited. -/
def expd (fr : C2 → Bool) (s : Qu) (k : Nat) : Qu := (nbs (qc s k)).foldl (vis fr k) s
/-- What holds of the queue: all cells are free and distinct, each was visited from an earlier one, one step nearer; the distances do not decrease. -/
structure QI (fr : C2 → Bool) (a : C2) (s : Qu) (k : Nat) (d : Nat → Nat) : Prop where
  root : 0 < s.length ∧ qc s 0 = a ∧ qb s 0 = -1 ∧ d 0 = 0
  free : ∀ i, i < s.length → fr (qc s i) = true
  dist : ∀ i j, i < s.length → j < s.length → qc s i = qc s j → i = j
  par : ∀ i, 0 < i → i < s.length → ∃ p : Nat, qb s i = (p : Int) ∧ p < i ∧ p ≤ k ∧ Adj (qc s p) (qc s i) ∧ d i = d p + 1
  mono : ∀ i j, i ≤ j → j < s.length → d i ≤ d j
  top : k < s.length → ∀ i, i < s.length → d i ≤ d k + 1
  done : ∀ i, i < k → i < s.length → ∀ n, Adj (qc s i) n → fr n = true → ∃ j, j < s.length ∧ qc s j = n ∧ d j ≤ d i + 1
theorem qc_app {s : Qu} {e : C2 × Int} {i : Nat} (h : i < s.length) : qc (s ++ [e]) i = qc s i := by unfold qc; rw [getD_app_left _ _ _ h]
theorem qb_app {s : Qu} {e : C2 × Int} {i : Nat} (h : i < s.length) : qb (s ++ [e]) i = qb s i := by unfold qb; rw [getD_app_left _ _ _ h]
theorem qc_last {s : Qu} {e : C2 × Int} : qc (s ++ [e]) s.length = e.1 := by unfold qc; rw [getD_app_last]
theorem qb_last {s : Qu} {e : C2 × Int} : qb (s ++ [e]) s.length = e.2 := by unfold qb; rw [getD_app_last]
theorem QI.start {fr : C2 → Bool} {a : C2} (h : fr a = true) : QI fr a [(a, -1)] 0 (fun _ => 0) where
  root := ⟨by simp, rfl, rfl, rfl⟩
  free := fun i hi => by
    have : i = 0 := by simpa using hi
    subst this; exact h
  dist := fun i j hi hj _ => by simp at hi hj; omega
  par := fun i h0 hi => by simp at hi; omega
  mono := fun _ _ _ _ => Nat.le_refl _
  top := fun _ _ _ => by omega
  done := fun i hi => by omega
/-- One neighbour of the cell at k is visited. -/
theorem QI.vis1 {fr : C2 → Bool} {a : C2} {s : Qu} {k : Nat} {d : Nat → Nat} (h : QI fr a s k d) (hk : k < s.length) {n : C2} (hn : Adj (qc s k) n) :
    ∃ d', QI fr a (vis fr k s n) k d' ∧ (∃ t, vis fr k s n = s ++ t) ∧ (∀ i, i < s.length → d' i = d i) ∧ (fr n = true → ∃ j, j < (vis fr k s n).length ∧ qc (vis fr k s n) j = n ∧ d' j ≤ d k + 1) := by
  by_cases hc : Has s n ∨ fr n = false
  · have e : vis fr k s n = s := if_pos hc
    rw [e]
    refine ⟨d, h, ⟨[], by simp⟩, fun _ _ => rfl, fun hf => ?_⟩
    rcases hc with ⟨i, hi, hin⟩ | hc
    · exact ⟨i, hi, hin, h.top hk i hi⟩
    · rw [hc] at hf; cases hf
  · have e : vis fr k s n = s ++ [(n, (k : Int))] := if_neg hc
    rw [e]
    have hnew : ¬ Has s n := fun q => hc (.inl q)
    have hfree : fr n = true := by
      cases hf : fr n with
      | true => rfl
      | false => exact absurd (.inr hf) hc
    have hlen : (s ++ [(n, (k : Int))]).length = s.length + 1 := by simp
    refine ⟨fun i => if i = s.length then d k + 1 else d i, ?_, ⟨_, rfl⟩, fun i hi => if_neg (by omega), fun _ => ⟨s.length, by rw [hlen]; omega, qc_last, by simp⟩⟩
    constructor
    · obtain ⟨h0, h1, h2, h3⟩ := h.root
      refine ⟨by rw [hlen]; omega, by rw [qc_app h0]; exact h1, by rw [qb_app h0]; exact h2, ?_⟩
      rw [if_neg (by omega)]; exact h3
    · intro i hi
      rw [hlen] at hi
      by_cases hs : i < s.length
      · rw [qc_app hs]; exact h.free i hs
      · obtain rfl : i = s.length := by omega
        rw [qc_last]; exact hfree
    · intro i j hi hj hij
      rw [hlen] at hi hj
      by_cases hs : i < s.length
      · by_cases ht : j < s.length
        · rw [qc_app hs, qc_app ht] at hij; exact h.dist i j hs ht hij
        · obtain rfl : j = s.length := by omega
          rw [qc_app hs, qc_last] at hij
          exact absurd ⟨i, hs, hij⟩ hnew
      · obtain rfl : i = s.length := by omega
        by_cases ht : j < s.length
        · rw [qc_app ht, qc_last] at hij
          exact absurd ⟨j, ht, hij.symm⟩ hnew
        · omega
    · intro i h0 hi
      rw [hlen] at hi
      by_cases hs : i < s.length
      · obtain ⟨p, p1, p2, p3, p4, p5⟩ := h.par i h0 hs
        refine ⟨p, by rw [qb_app hs]; exact p1, p2, p3, by rw [qc_app hs, qc_app (by omega)]; exact p4, ?_⟩
        rw [if_neg (by omega), if_neg (by omega)]; exact p5
      · obtain rfl : i = s.length := by omega
        refine ⟨k, by rw [qb_last], hk, Nat.le_refl _, by rw [qc_last, qc_app hk]; exact hn, ?_⟩
        rw [if_pos rfl, if_neg (by omega)]
    · intro i j hij hj
      rw [hlen] at hj
      by_cases ht : j = s.length
      · rw [if_pos ht]
        by_cases hs : i = s.length
        · rw [if_pos hs]; exact Nat.le_refl _
        · rw [if_neg hs]; exact h.top hk i (by omega)
      · rw [if_neg ht, if_neg (by omega)]
        exact h.mono i j hij (by omega)
    · intro _ i hi
      rw [hlen] at hi
      rw [if_neg (show ¬ k = s.length by omega)]
      by_cases hs : i = s.length
      · rw [if_pos hs]; exact Nat.le_refl _
      · rw [if_neg hs]; exact h.top hk i (by omega)
    · intro i hik hi m hm hf
      have hs : i < s.length := by omega
      rw [qc_app hs] at hm
      obtain ⟨j, j1, j2, j3⟩ := h.done i hik hs m hm hf
      refine ⟨j, by rw [hlen]; omega, by rw [qc_app j1]; exact j2, ?_⟩
      rw [if_neg (by omega), if_neg (by omega)]; exact j3
/-- Some neighbours are visited. -/
theorem QI.fold {fr : C2 → Bool} {a : C2} {k : Nat} {c : C2} : ∀ (l : List C2) (s : Qu) (d : Nat → Nat), QI fr a s k d → k < s.length → qc s k = c → (∀ n ∈ l, Adj c n) →
    ∃ d', QI fr a (l.foldl (vis fr k) s) k d' ∧ (∃ t, l.foldl (vis fr k) s = s ++ t) ∧ (∀ i, i < s.length → d' i = d i) ∧ ∀ n ∈ l, fr n = true → ∃ j, j < (l.foldl (vis fr k) s).length ∧ qc (l.foldl (vis fr k) s) j = n ∧ d' j ≤ d k + 1
  | [], s, d, h, hk, hc, hl => ⟨d, h, ⟨[], by simp⟩, fun _ _ => rfl, fun n hn => by cases hn⟩
  | m :: l, s, d, h, hk, hc, hl => by
    obtain ⟨d1, h1, ⟨t1, e1⟩, q1, f1⟩ := h.vis1 hk (n := m) (by rw [hc]; exact hl m (List.mem_cons_self))
    have hlen1 : s.length ≤ (vis fr k s m).length := by rw [e1, List.length_append]; omega
    have hk1 : k < (vis fr k s m).length := by omega
    have hc1 : qc (vis fr k s m) k = c := by
      rw [← hc, e1]; unfold qc; rw [getD_app_left _ _ _ hk]
    obtain ⟨d2, h2, ⟨t2, e2⟩, q2, f2⟩ := QI.fold l (vis fr k s m) d1 h1 hk1 hc1 (fun n hn => hl n (List.mem_cons_of_mem _ hn))
    rw [List.foldl_cons]
    refine ⟨d2, h2, ⟨t1 ++ t2, by rw [e2, e1, List.append_assoc]⟩, fun i hi => by rw [q2 i (by omega), q1 i hi], fun n hn hf => ?_⟩
    have dk : d1 k = d k := q1 k hk
    rcases List.mem_cons.1 hn with rfl | hn
    · obtain ⟨j, j1, j2, j3⟩ := f1 hf
      refine ⟨j, by rw [e2, List.length_append]; omega, ?_, by rw [q2 j j1]; exact j3⟩
      rw [e2, show qc (vis fr k s n ++ t2) j = qc (vis fr k s n) j from by unfold qc; rw [getD_app_left _ _ _ j1]]
      exact j2
    · obtain ⟨j, j1, j2, j3⟩ := f2 n hn hf
      exact ⟨j, j1, j2, by rw [← dk]; exact j3⟩
/-- The cell at k has been looked at. -/
theorem QI.step {fr : C2 → Bool} {a : C2} {s : Qu} {k : Nat} {d : Nat → Nat} (h : QI fr a s k d) (hk : k < s.length) : ∃ d', QI fr a (expd fr s k) (k + 1) d' ∧ (∃ t, expd fr s k = s ++ t) := by
  obtain ⟨d1, h1, ⟨t, e⟩, q1, f1⟩ := QI.fold (nbs (qc s k)) s d h hk rfl (fun n hn => hn)
  have e' : expd fr s k = s ++ t := e
  have hx : expd fr s k = (nbs (qc s k)).foldl (vis fr k) s := rfl
  rw [← hx] at h1 f1
  have hlen : s.length ≤ (expd fr s k).length := by rw [e', List.length_append]; omega
  have hqk : qc (expd fr s k) k = qc s k := by rw [e']; unfold qc; rw [getD_app_left _ _ _ hk]
  refine ⟨d1, ⟨h1.root, h1.free, h1.dist, fun i h0 hi => ?_, h1.mono, fun hk1 i hi => ?_, fun i hik hi n hn hf => ?_⟩, t, e'⟩
  · obtain ⟨p, p1, p2, p3, p4, p5⟩ := h1.par i h0 hi
    exact ⟨p, p1, p2, by omega, p4, p5⟩
  · have := h1.top (by omega) i hi
    have m := h1.mono k (k + 1) (by omega) hk1
    omega
  · by_cases hik2 : i < k
    · exact h1.done i hik2 hi n hn hf
    · obtain rfl : i = k := by omega
      rw [hqk] at hn
      obtain ⟨j, j1, j2, j3⟩ := f1 n hn hf
      exact ⟨j, j1, j2, by rw [q1 i hk]; exact j3⟩
/-- A walk of n steps over free cells. -/
def Walk (fr : C2 → Bool) (a b : C2) (n : Nat) : Prop := ∃ f : Nat → C2, f 0 = a ∧ f n = b ∧ (∀ i, i < n → Adj (f i) (f (i + 1))) ∧ ∀ i, i ≤ n → fr (f i) = true
theorem Walk.rev {fr : C2 → Bool} {a b : C2} {n : Nat} (h : Walk fr a b n) : Walk fr b a n := by
  obtain ⟨f, h0, h1, h2, h3⟩ := h
  refine ⟨fun i => f (n - i), by simpa using h1, by simpa using h0, fun i hi => ?_, fun i hi => h3 _ (by omega)⟩
  have := (h2 (n - (i + 1)) (by omega)).symm
  rw [show n - (i + 1) + 1 = n - i by omega] at this
  exact this
/-- Where the cell looked at is the end, no walk is shorter. -/
theorem QI.least {fr : C2 → Bool} {a b : C2} {s : Qu} {k : Nat} {d : Nat → Nat} (h : QI fr a s k d) (hk : k < s.length) (hb : qc s k = b) {m : Nat} (hw : Walk fr a b m) : d k ≤ m := by
  obtain ⟨f, h0, h1, h2, h3⟩ := hw
  rcases Nat.lt_or_ge m (d k) with hm | hm
  · exfalso
    have key : ∀ i, i ≤ m → ∃ j, j < s.length ∧ qc s j = f i ∧ d j ≤ i := by
      intro i
      induction i with
      | zero => exact fun _ => ⟨0, h.root.1, by rw [h0]; exact h.root.2.1, by rw [h.root.2.2.2]; exact Nat.le_refl _⟩
      | succ i ih =>
        intro hi
        obtain ⟨j, j1, j2, j3⟩ := ih (by omega)
        have hjk : j < k := by
          rcases Nat.lt_or_ge j k with q | q
          · exact q
          · have := h.mono k j q j1; omega
        obtain ⟨j', p1, p2, p3⟩ := h.done j hjk j1 (f (i + 1)) (by rw [j2]; exact h2 i (by omega)) (h3 (i + 1) hi)
        exact ⟨j', p1, p2, by omega⟩
    obtain ⟨j, j1, j2, j3⟩ := key m (Nat.le_refl _)
    have : j = k := h.dist j k j1 hk (by rw [j2, h1, hb])
    subst this
    omega
  · exact hm
/-- Where all have been looked at, whatever can be reached is there. -/
theorem QI.all {fr : C2 → Bool} {a b : C2} {s : Qu} {k : Nat} {d : Nat → Nat} (h : QI fr a s k d) (hk : s.length ≤ k) {m : Nat} (hw : Walk fr a b m) : Has s b := by
  obtain ⟨f, h0, h1, h2, h3⟩ := hw
  have key : ∀ i, i ≤ m → Has s (f i) := by
    intro i
    induction i with
    | zero => exact fun _ => ⟨0, h.root.1, by rw [h0]; exact h.root.2.1⟩
    | succ i ih =>
      intro hi
      obtain ⟨j, j1, j2⟩ := ih (by omega)
      obtain ⟨j', p1, p2, _⟩ := h.done j (by omega) j1 (f (i + 1)) (by rw [j2]; exact h2 i (by omega)) (h3 (i + 1) hi)
      exact ⟨j', p1, p2⟩
  have := key m (Nat.le_refl _)
  rwa [h1] at this
/-- The cells that lead to the cell at k. -/
def bkL (s : Qu) : Nat → Int → List C2 → List C2
  | 0, _, out => out
  | f + 1, k, out => if k < 0 then out else bkL s f (qb s k.toNat) (qc s k.toNat :: out)
/-- What a path from a to b of n steps is. -/
structure PathI (fr : C2 → Bool) (a b : C2) (n : Nat) (L : List C2) : Prop where
  len : L.length = n + 1
  head : L.getD 0 (0, 0) = a
  last : L.getD n (0, 0) = b
  adj : ∀ i, i < n → Adj (L.getD i (0, 0)) (L.getD (i + 1) (0, 0))
  free : ∀ i, i ≤ n → fr (L.getD i (0, 0)) = true
  dist : ∀ i j, i ≤ n → j ≤ n → L.getD i (0, 0) = L.getD j (0, 0) → i = j
theorem PathI.walk {fr : C2 → Bool} {a b : C2} {n : Nat} {L : List C2} (h : PathI fr a b n L) : Walk fr a b n := ⟨fun i => L.getD i (0, 0), h.head, h.last, h.adj, h.free⟩
theorem bk_is {fr : C2 → Bool} {a : C2} {s : Qu} {K : Nat} {d : Nat → Nat} (h : QI fr a s K d) : ∀ (k : Nat), k < s.length → ∀ f, k < f → ∀ out, ∃ L, bkL s f (k : Int) out = L ++ out ∧ L.length = d k + 1 ∧ L.getD 0 (0, 0) = a ∧ L.getD (d k) (0, 0) = qc s k ∧ (∀ i, i < d k → Adj (L.getD i (0, 0)) (L.getD (i + 1) (0, 0))) ∧ ∀ i, i ≤ d k → ∃ q, q < s.length ∧ L.getD i (0, 0) = qc s q ∧ d q = i := by
  intro k
  induction k using Nat.strongRecOn with
  | _ k ih =>
    intro hk f hf out
    obtain ⟨f, rfl⟩ : ∃ g, f = g + 1 := ⟨f - 1, by omega⟩
    have e : bkL s (f + 1) (k : Int) out = bkL s f (qb s k) (qc s k :: out) := by
      show (if (k : Int) < 0 then out else bkL s f (qb s (k : Int).toNat) (qc s (k : Int).toNat :: out)) = _
      rw [if_neg (by omega), Int.toNat_natCast]
    rw [e]
    by_cases h0 : k = 0
    · subst h0
      rw [h.root.2.2.1]
      refine ⟨[qc s 0], ?_, by rw [h.root.2.2.2]; rfl, h.root.2.1, by rw [h.root.2.2.2]; rfl, fun i hi => by rw [h.root.2.2.2] at hi; omega, fun i hi => ⟨0, hk, ?_, ?_⟩⟩
      · cases f with
        | zero => rfl
        | succ f => rfl
      · have : i = 0 := by rw [h.root.2.2.2] at hi; omega
        subst this; rfl
      · rw [h.root.2.2.2] at hi ⊢; omega
    · obtain ⟨p, p1, p2, _, p4, p5⟩ := h.par k (by omega) hk
      rw [p1]
      obtain ⟨L, l1, l2, l3, l4, l5, l6⟩ := ih p p2 (by omega) f (by omega) (qc s k :: out)
      have hlast : (L ++ [qc s k]).getD (d k) (0, 0) = qc s k := by
        have := getD_app_last L (qc s k) (0, 0)
        rw [l2] at this
        rw [p5]; exact this
      have hleft : ∀ i, i ≤ d p → (L ++ [qc s k]).getD i (0, 0) = L.getD i (0, 0) := fun i hi => getD_app_left _ _ _ (by omega)
      refine ⟨L ++ [qc s k], by rw [l1]; simp, by rw [List.length_append, l2, p5]; rfl, by rw [hleft 0 (by omega)]; exact l3, hlast, fun i hi => ?_, fun i hi => ?_⟩
      · by_cases hi2 : i < d p
        · rw [hleft i (by omega), hleft (i + 1) (by omega)]; exact l5 i hi2
        · have : i = d p := by omega
          subst this
          rw [hleft _ (Nat.le_refl _), l4, ← p5, hlast]
          exact p4
      · by_cases hi2 : i ≤ d p
        · rw [hleft i hi2]; exact l6 i hi2
        · have : i = d k := by omega
          subst this
          exact ⟨k, hk, hlast, rfl⟩
theorem QI.path {fr : C2 → Bool} {a : C2} {s : Qu} {K k : Nat} {d : Nat → Nat} (h : QI fr a s K d) (hk : k < s.length) {f : Nat} (hf : k < f) : PathI fr a (qc s k) (d k) (bkL s f (k : Int) []) := by
  obtain ⟨L, l1, l2, l3, l4, l5, l6⟩ := bk_is h k hk f hf []
  rw [l1, List.append_nil]
  refine ⟨l2, l3, l4, l5, fun i hi => ?_, fun i j hi hj hij => ?_⟩
  · obtain ⟨q, q1, q2, _⟩ := l6 i hi
    rw [q2]; exact h.free q q1
  · obtain ⟨q, q1, q2, q3⟩ := l6 i hi
    obtain ⟨r, r1, r2, r3⟩ := l6 j hj
    have : q = r := h.dist q r q1 r1 (by rw [← q2, ← r2]; exact hij)
    subst this
    omega
/-- The search. -/
def bfs (fr : C2 → Bool) (b : C2) : Nat → Qu → Nat → List C2
  | 0, _, _ => []
  | f + 1, s, k => if k < s.length then (if qc s k = b then bkL s (k + 1) (k : Int) [] else bfs fr b f (expd fr s k) (k + 1)) else []
theorem bfs_is {fr : C2 → Bool} {a b : C2} (N : Nat) (hN : ∀ s k d, QI fr a s k d → s.length ≤ N) : ∀ (f : Nat) (s : Qu) (k : Nat) (d : Nat → Nat), QI fr a s k d → N < k + f → (∀ i, i < k → i < s.length → qc s i ≠ b) →
    (bfs fr b f s k = [] ∧ ∀ m, ¬ Walk fr a b m) ∨ ∃ n, PathI fr a b n (bfs fr b f s k) ∧ ∀ m, Walk fr a b m → n ≤ m
  | 0, s, k, d, h, hf, hne => by
    left
    refine ⟨rfl, fun m hw => ?_⟩
    obtain ⟨i, i1, i2⟩ := h.all (by have := hN s k d h; omega) hw
    exact hne i (by have := hN s k d h; omega) i1 i2
  | f + 1, s, k, d, h, hf, hne => by
    show ((if k < s.length then _ else _) = _ ∧ _) ∨ ∃ n, PathI fr a b n (if k < s.length then _ else _) ∧ _
    by_cases hk : k < s.length
    · rw [if_pos hk]
      by_cases hb : qc s k = b
      · rw [if_pos hb]
        right
        refine ⟨d k, ?_, fun m hw => h.least hk hb hw⟩
        rw [← hb]; exact h.path hk (by omega)
      · rw [if_neg hb]
        obtain ⟨d', h', t, e⟩ := h.step hk
        refine bfs_is N hN f _ (k + 1) d' h' (by omega) (fun i hik hi => ?_)
        have his : i < s.length := by omega
        have : qc (expd fr s k) i = qc s i := by rw [e]; unfold qc; rw [getD_app_left _ _ _ his]
        rw [this]
        by_cases hik2 : i < k
        · exact hne i hik2 his
        · have : i = k := by omega
          subst this; exact hb
    · rw [if_neg hk]
      left
      refine ⟨rfl, fun m hw => ?_⟩
      obtain ⟨i, i1, i2⟩ := h.all (by omega) hw
      exact hne i (by omega) i1 i2
end Go.Proofs.YtkogoflcacameaaDoor
namespace Go.Proofs.YtkogoflcacameaaDoor
set_option maxRecDepth 100000
/-- The number of cells of a joint. -/
def cellsN (lo hi : List Int) (step : Int) (i : Nat) : Int := (hi.getD i 0 - lo.getD i 0) / step + 1
/-- There is a grid. -/
def okGrid (ls lo hi : List Int) (step : Int) : Prop := okArm ls lo hi ∧ ls.length = 2 ∧ 1 ≤ step ∧ step ≤ 360 ∧ cellsN lo hi step 0 ≤ 20 ∧ cellsN lo hi step 1 ≤ 20
instance (ls lo hi : List Int) (step : Int) : Decidable (okGrid ls lo hi step) := by unfold okGrid; infer_instance
def gridX (ls lo hi : List Int) (step : Int) : Int := if okGrid ls lo hi step then cellsN lo hi step 0 else 0
def gridY (ls lo hi : List Int) (step : Int) : Int := if okGrid ls lo hi step then cellsN lo hi step 1 else 0
theorem gridX_in {ls lo hi : List Int} {step : Int} (h : okGrid ls lo hi step) : gridX ls lo hi step = cellsN lo hi step 0 := if_pos h
theorem gridY_in {ls lo hi : List Int} {step : Int} (h : okGrid ls lo hi step) : gridY ls lo hi step = cellsN lo hi step 1 := if_pos h
theorem gridX_out {ls lo hi : List Int} {step : Int} (h : ¬ okGrid ls lo hi step) : gridX ls lo hi step = 0 := if_neg h
theorem gridY_out {ls lo hi : List Int} {step : Int} (h : ¬ okGrid ls lo hi step) : gridY ls lo hi step = 0 := if_neg h
theorem arm_span {ls lo hi : List Int} (h : okArm ls lo hi) {k : Nat} (hk : k < ls.length) : -180 ≤ lo.getD k 0 ∧ lo.getD k 0 ≤ hi.getD k 0 ∧ hi.getD k 0 ≤ 180 := by
  have := h.2.2.2.2 k hk
  unfold okLink at this
  omega
theorem cellsN_pos {ls lo hi : List Int} {step : Int} (h : okArm ls lo hi) (h2 : ls.length = 2) (hs : 1 ≤ step) {k : Nat} (hk : k < 2) : 1 ≤ cellsN lo hi step k ∧ cellsN lo hi step k ≤ 361 := by
  have a := arm_span h (k := k) (by omega)
  have d0 : 0 ≤ (hi.getD k 0 - lo.getD k 0) / step := Int.ediv_nonneg (by omega) (by omega)
  have d1 : (hi.getD k 0 - lo.getD k 0) / step ≤ hi.getD k 0 - lo.getD k 0 := Int.ediv_le_self _ (by omega)
  unfold cellsN
  omega
theorem cellsN_coarser {ls lo hi : List Int} {step step' : Int} (h : okArm ls lo hi) (h2 : ls.length = 2) (hs : 1 ≤ step) (hss : step ≤ step') {k : Nat} (hk : k < 2) : cellsN lo hi step' k ≤ cellsN lo hi step k := by
  have a := arm_span h (k := k) (by omega)
  have d : (hi.getD k 0 - lo.getD k 0) / step' ≤ (hi.getD k 0 - lo.getD k 0) / step := by
    refine Int.le_ediv_of_mul_le (by omega) ?_
    have e0 : 0 ≤ (hi.getD k 0 - lo.getD k 0) / step' := Int.ediv_nonneg (by omega) (by omega)
    have e1 := Int.ediv_mul_le (hi.getD k 0 - lo.getD k 0) (show step' ≠ 0 by omega)
    have e2 := Int.mul_le_mul_of_nonneg_left hss e0
    omega
  unfold cellsN
  omega
/-- A coarser grid has no more cells, and at least one. -/
theorem grid_coarser {ls lo hi : List Int} {step step' : Int} (h : okGrid ls lo hi step) (hss : step ≤ step') (h36 : step' ≤ 360) :
    okGrid ls lo hi step' ∧ 1 ≤ gridX ls lo hi step' ∧ 1 ≤ gridY ls lo hi step' ∧ gridX ls lo hi step' ≤ gridX ls lo hi step ∧ gridY ls lo hi step' ≤ gridY ls lo hi step := by
  obtain ⟨h1, h2, h3, h4, h5, h6⟩ := id h
  have c0 := cellsN_coarser h1 h2 h3 hss (k := 0) (by omega)
  have c1 := cellsN_coarser h1 h2 h3 hss (k := 1) (by omega)
  have p0 := (cellsN_pos h1 h2 (step := step') (by omega) (k := 0) (by omega)).1
  have p1 := (cellsN_pos h1 h2 (step := step') (by omega) (k := 1) (by omega)).1
  have k : okGrid ls lo hi step' := ⟨h1, h2, by omega, h36, by omega, by omega⟩
  rw [gridX_in k, gridY_in k, gridX_in h, gridY_in h]
  exact ⟨k, p0, p1, c0, c1⟩
theorem grid_pos {ls lo hi : List Int} {step : Int} (h : okGrid ls lo hi step) : 1 ≤ gridX ls lo hi step ∧ gridX ls lo hi step ≤ 20 ∧ 1 ≤ gridY ls lo hi step ∧ gridY ls lo hi step ≤ 20 := by
  obtain ⟨h1, h2, h3, h4, h5, h6⟩ := id h
  rw [gridX_in h, gridY_in h]
  exact ⟨(cellsN_pos h1 h2 h3 (k := 0) (by omega)).1, h5, (cellsN_pos h1 h2 h3 (k := 1) (by omega)).1, h6⟩
/-- There is such a cell. -/
def okCell (ls lo hi : List Int) (step : Int) (c : C2) : Prop := okGrid ls lo hi step ∧ 0 ≤ c.1 ∧ c.1 < cellsN lo hi step 0 ∧ 0 ≤ c.2 ∧ c.2 < cellsN lo hi step 1
instance (ls lo hi : List Int) (step : Int) (c : C2) : Decidable (okCell ls lo hi step c) := by unfold okCell; infer_instance
/-- The angles of a cell. -/
def angL (lo : List Int) (step : Int) (c : C2) : List Int := [lo.getD 0 0 + c.1 * step, lo.getD 1 0 + c.2 * step]
def jointsV (ls lo hi : List Int) (step : Int) (c : C2) : List Int := if okCell ls lo hi step c then angL lo step c else []
theorem jointsV_in {ls lo hi : List Int} {step : Int} {c : C2} (h : okCell ls lo hi step c) : jointsV ls lo hi step c = angL lo step c := if_pos h
theorem jointsV_out {ls lo hi : List Int} {step : Int} {c : C2} (h : ¬ okCell ls lo hi step c) : jointsV ls lo hi step c = [] := if_neg h
theorem cell_span {x n step : Int} (h0 : 0 ≤ x) (h1 : x < n / step + 1) (hs : 1 ≤ step) : 0 ≤ x * step ∧ x * step ≤ n := by
  refine ⟨Int.mul_nonneg h0 (by omega), ?_⟩
  have e1 := Int.ediv_mul_le n (show step ≠ 0 by omega)
  have e2 := Int.mul_le_mul_of_nonneg_right (show x ≤ n / step by omega) (show 0 ≤ step by omega)
  omega
/-- The angles of a cell are valid. -/
theorem cell_okJoints {ls lo hi : List Int} {step : Int} {c : C2} (h : okCell ls lo hi step c) : okJoints ls lo hi (angL lo step c) := by
  obtain ⟨⟨h1, h2, h3, h4, h5, h6⟩, c1, c2, c3, c4⟩ := h
  have a0 := arm_span h1 (k := 0) (by omega)
  have a1 := arm_span h1 (k := 1) (by omega)
  unfold cellsN at c2 c4
  have s0 := cell_span c1 c2 h3
  have s1 := cell_span c3 c4 h3
  refine ⟨h1, by rw [h2]; rfl, fun k hk => ?_⟩
  have hk' : k < 2 := hk
  have : k = 0 ∨ k = 1 := by omega
  rcases this with rfl | rfl
  · show lo.getD 0 0 ≤ lo.getD 0 0 + c.1 * step ∧ lo.getD 0 0 + c.1 * step ≤ hi.getD 0 0
    omega
  · show lo.getD 1 0 ≤ lo.getD 1 0 + c.2 * step ∧ lo.getD 1 0 + c.2 * step ≤ hi.getD 1 0
    omega
theorem cell_zero {ls lo hi : List Int} {step : Int} (h : okGrid ls lo hi step) : okCell ls lo hi step (0, 0) ∧ angL lo step (0, 0) = lo := by
  obtain ⟨h1, h2, h3, h4, h5, h6⟩ := id h
  have p0 := (cellsN_pos h1 h2 h3 (k := 0) (by omega)).1
  have p1 := (cellsN_pos h1 h2 h3 (k := 1) (by omega)).1
  refine ⟨⟨h, by simp only; omega, by simp only; omega, by simp only; omega, by simp only; omega⟩, ?_⟩
  have hl : lo.length = 2 := by rw [h1.2.2.1, h2]
  match lo, hl with
  | [a, b], _ => simp [angL]
end Go.Proofs.YtkogoflcacameaaDoor
namespace Go.Proofs.YtkogoflcacameaaDoor
set_option maxRecDepth 100000
/-- A row of a table of cells. -/
def rowB (T : List (List Bool)) (i : Nat) : List Bool := T.getD i []
/-- A cell exists and is free. -/
def freeV (T : List (List Bool)) (c : C2) : Bool := decide (0 ≤ c.1 ∧ c.1 < (T.length : Int) ∧ 0 ≤ c.2 ∧ c.2 < ((rowB T c.1.toNat).length : Int) ∧ (rowB T c.1.toNat).getD c.2.toNat false = true)
/-- A table's rows are of equal lengths, and it is not too large. -/
def squV (T : List (List Bool)) : Prop := T.length ≤ 20 ∧ ∀ k, k < T.length → (rowB T k).length = (rowB T 0).length ∧ (rowB T k).length ≤ 20
instance (T : List (List Bool)) : Decidable (squV T) := by unfold squV; exact inferInstance
theorem freeV_iff {T : List (List Bool)} {c : C2} : freeV T c = true ↔ (0 ≤ c.1 ∧ c.1 < (T.length : Int) ∧ 0 ≤ c.2 ∧ c.2 < ((rowB T c.1.toNat).length : Int) ∧ (rowB T c.1.toNat).getD c.2.toNat false = true) := by
  unfold freeV; exact decide_eq_true_iff
theorem freeV_small {T : List (List Bool)} {c : C2} (hs : squV T) (h : freeV T c = true) : 0 ≤ c.1 ∧ c.1 < 20 ∧ 0 ≤ c.2 ∧ c.2 < 20 := by
  obtain ⟨h1, h2, h3, h4, _⟩ := freeV_iff.1 h
  have := hs.1
  have := (hs.2 c.1.toNat (by omega)).2
  omega
/-- As many letters as places at most. -/
theorem holes : ∀ (N n : Nat) (f : Nat → Nat), (∀ i, i < n → f i < N) → (∀ i j, i < n → j < n → f i = f j → i = j) → n ≤ N
  | 0, n, f, hf, hi => by
    rcases Nat.eq_zero_or_pos n with h | h
    · omega
    · exact absurd (hf 0 h) (by omega)
  | N + 1, n, f, hf, hi => by
    by_cases hx : ∃ m, m < n ∧ f m = N
    · obtain ⟨m, hm, hfm⟩ := hx
      have key := holes N (n - 1) (fun i => f (if i < m then i else i + 1)) (fun i hin => by
        have h1 : (if i < m then i else i + 1) < n := by split <;> omega
        have := hf _ h1
        have h2 : f (if i < m then i else i + 1) ≠ N := fun q => by
          have := hi _ m h1 hm (by rw [q, hfm])
          split at this <;> omega
        omega) (fun i j hin hjn hij => by
        have := hi _ _ (by split <;> omega) (by split <;> omega) hij
        split at this <;> split at this <;> omega)
      omega
    · have := holes N n f (fun i hin => by
        have := hf i hin
        have : f i ≠ N := fun q => hx ⟨i, hin, q⟩
        omega) hi
      omega
theorem QI.small {T : List (List Bool)} {a : C2} {s : Qu} {k : Nat} {d : Nat → Nat} (hs : squV T) (h : QI (freeV T) a s k d) : s.length ≤ 400 := by
  refine holes 400 s.length (fun i => (qc s i).1.toNat * 20 + (qc s i).2.toNat) (fun i hi => ?_) (fun i j hi hj hij => ?_)
  · have := freeV_small hs (h.free i hi)
    omega
  · have h1 := freeV_small hs (h.free i hi)
    have h2 := freeV_small hs (h.free j hj)
    refine h.dist i j hi hj (Prod.ext ?_ ?_) <;> omega
theorem PathI.small {T : List (List Bool)} {a b : C2} {n : Nat} {L : List C2} (hs : squV T) (h : PathI (freeV T) a b n L) : n + 1 ≤ 400 := by
  refine holes 400 (n + 1) (fun i => (L.getD i (0, 0)).1.toNat * 20 + (L.getD i (0, 0)).2.toNat) (fun i hi => ?_) (fun i j hi hj hij => ?_)
  · have := freeV_small hs (h.free i (by omega))
    omega
  · have h1 := freeV_small hs (h.free i (by omega))
    have h2 := freeV_small hs (h.free j (by omega))
    refine h.dist i j (by omega) (by omega) (Prod.ext ?_ ?_) <;> omega
/-- The planned path. -/
def planV (T : List (List Bool)) (a b : C2) : List C2 := if squV T ∧ freeV T a = true ∧ freeV T b = true then bfs (freeV T) b 401 [(a, -1)] 0 else []
theorem planV_no {T : List (List Bool)} {a b : C2} (h : ¬ (squV T ∧ freeV T a = true ∧ freeV T b = true)) : planV T a b = [] := if_neg h
theorem plan_is {T : List (List Bool)} {a b : C2} (h : squV T ∧ freeV T a = true ∧ freeV T b = true) :
    (planV T a b = [] ∧ ∀ m, ¬ Walk (freeV T) a b m) ∨ ∃ n, PathI (freeV T) a b n (planV T a b) ∧ ∀ m, Walk (freeV T) a b m → n ≤ m := by
  have e : planV T a b = bfs (freeV T) b 401 [(a, -1)] 0 := if_pos h
  rw [e]
  exact bfs_is 400 (fun s k d q => q.small h.1) 401 _ 0 _ (QI.start h.2.1) (by omega) (fun i hi => by omega)
/-- What a path that is not empty is. -/
theorem plan_path {T : List (List Bool)} {a b : C2} (h : planV T a b ≠ []) : squV T ∧ freeV T a = true ∧ freeV T b = true ∧ ∃ n, (planV T a b).length = n + 1 ∧ PathI (freeV T) a b n (planV T a b) ∧ ∀ m, Walk (freeV T) a b m → n ≤ m := by
  by_cases q : squV T ∧ freeV T a = true ∧ freeV T b = true
  · rcases plan_is q with ⟨e, _⟩ | ⟨n, hp, hm⟩
    · exact absurd e h
    · exact ⟨q.1, q.2.1, q.2.2, n, hp.len, hp, hm⟩
  · exact absurd (planV_no q) h
theorem plan_of_walk {T : List (List Bool)} {a b : C2} {m : Nat} (hs : squV T) (h : Walk (freeV T) a b m) : planV T a b ≠ [] := fun e => by
  have h' := h
  obtain ⟨f, h0, h1, h2, h3⟩ := h
  rcases plan_is (a := a) (b := b) ⟨hs, by rw [← h0]; exact h3 0 (by omega), by rw [← h1]; exact h3 m (by omega)⟩ with ⟨_, q⟩ | ⟨n, q, _⟩
  · exact q m h'
  · have := q.len
    rw [e] at this
    simp at this
/-- The path back has the same length. -/
theorem plan_back (T : List (List Bool)) (a b : C2) : (planV T b a).length = (planV T a b).length := by
  by_cases h : planV T a b = []
  · by_cases k : planV T b a = []
    · rw [h, k]
    · obtain ⟨hs, _, _, n, _, hp, _⟩ := plan_path k
      exact absurd h (plan_of_walk hs hp.walk.rev)
  · obtain ⟨hs, _, _, n, hn, hp, hm⟩ := plan_path h
    obtain ⟨_, _, _, n', hn', hp', hm'⟩ := plan_path (plan_of_walk hs hp.walk.rev)
    have := hm n' hp'.walk.rev
    have := hm' n hp.walk.rev
    omega
/-- How far two cells are apart. -/
def gap (a b : C2) : Nat := (a.1 - b.1).natAbs + (a.2 - b.2).natAbs
theorem adj_gap {c d : C2} : Adj c d ↔ gap c d = 1 := by
  rw [adj_iff]; unfold gap; omega
theorem walk_gap {fr : C2 → Bool} {a b : C2} {m : Nat} (h : Walk fr a b m) : gap a b ≤ m := by
  obtain ⟨f, h0, h1, h2, h3⟩ := h
  have key : ∀ i, i ≤ m → gap a (f i) ≤ i := by
    intro i
    induction i with
    | zero => intro _; rw [h0]; unfold gap; omega
    | succ i ih =>
      intro hi
      have := ih (by omega)
      have := adj_gap.1 (h2 i (by omega))
      unfold gap at *
      omega
  have := key m (Nat.le_refl _)
  rwa [h1] at this
theorem plan_far {T : List (List Bool)} {a b : C2} (h : planV T a b ≠ []) : gap a b + 1 ≤ (planV T a b).length := by
  obtain ⟨_, _, _, n, hn, hp, _⟩ := plan_path h
  have := walk_gap hp.walk
  omega
/-- A valid path. -/
def validV (T : List (List Bool)) (L : List C2) : Prop := squV T ∧ 1 ≤ L.length ∧ L.length ≤ 400 ∧ (∀ k, k < L.length → freeV T (L.getD k (0, 0)) = true) ∧ ∀ k, k + 1 < L.length → gap (L.getD (k + 1) (0, 0)) (L.getD k (0, 0)) = 1
instance decAll1 (n : Nat) (p : Nat → Prop) [DecidablePred p] : Decidable (∀ k, k + 1 < n → p k) :=
  decidable_of_iff (∀ k, k < n - 1 → p k) ⟨fun h k hk => h k (by omega), fun h k hk => h k (by omega)⟩
instance (T : List (List Bool)) (L : List C2) : Decidable (validV T L) := by unfold validV; exact inferInstance
theorem plan_valid {T : List (List Bool)} {a b : C2} (h : planV T a b ≠ []) : validV T (planV T a b) := by
  obtain ⟨hs, _, _, n, hn, hp, _⟩ := plan_path h
  have := hp.small hs
  refine ⟨hs, by omega, by omega, fun k hk => hp.free k (by omega), fun k hk => ?_⟩
  have := adj_gap.1 (hp.adj k (by omega))
  unfold gap at *
  omega
theorem plan_ends {T : List (List Bool)} {a b : C2} (h : planV T a b ≠ []) : (planV T a b).getD 0 (0, 0) = a ∧ (planV T a b).getD ((planV T a b).length - 1) (0, 0) = b ∧ ∀ i j, i < (planV T a b).length → j < (planV T a b).length → (planV T a b).getD i (0, 0) = (planV T a b).getD j (0, 0) → i = j := by
  obtain ⟨hs, _, _, n, hn, hp, _⟩ := plan_path h
  refine ⟨hp.head, ?_, fun i j hi hj => hp.dist i j (by omega) (by omega)⟩
  rw [hn]; exact hp.last
/-- A valid path's beginning. -/
theorem validV.head {T : List (List Bool)} {L : List C2} (h : validV T L) : validV T (L.take 1) := by
  obtain ⟨h1, h2, h3, h4, h5⟩ := h
  cases L with
  | nil => simp at h2
  | cons c L => exact ⟨h1, by simp, by simp, fun k hk => by
      have hk' : k < 1 := by simpa using hk
      obtain rfl : k = 0 := by omega
      exact h4 0 (by simp), fun k hk => by simp at hk⟩
theorem getD_rev (L : List C2) {k : Nat} (hk : k < L.length) : L.reverse.getD k (0, 0) = L.getD (L.length - 1 - k) (0, 0) := by
  rw [List.getD_eq_getElem?_getD, List.getD_eq_getElem?_getD, List.getElem?_reverse hk]
theorem validV.rev {T : List (List Bool)} {L : List C2} (h : validV T L) : validV T L.reverse := by
  obtain ⟨h1, h2, h3, h4, h5⟩ := h
  refine ⟨h1, by rw [List.length_reverse]; exact h2, by rw [List.length_reverse]; exact h3, fun k hk => ?_, fun k hk => ?_⟩
  · rw [List.length_reverse] at hk
    rw [getD_rev L hk]; exact h4 _ (by omega)
  · rw [List.length_reverse] at hk
    rw [getD_rev L hk, getD_rev L (by omega)]
    have := h5 (L.length - 1 - (k + 1)) (by omega)
    rw [show L.length - 1 - (k + 1) + 1 = L.length - 1 - k by omega] at this
    unfold gap at *
    omega
theorem not_valid_twice {T : List (List Bool)} {L : List C2} (h : 0 < L.length) : ¬ validV T (L.reverse ++ [L.getD 0 (0, 0)]) := fun k => by
  have h5 := k.2.2.2.2 (L.length - 1) (by simp; omega)
  have e1 : (L.reverse ++ [L.getD 0 (0, 0)]).getD (L.length - 1 + 1) (0, 0) = L.getD 0 (0, 0) := by
    have := getD_app_last L.reverse (L.getD 0 (0, 0)) (0, 0)
    rw [List.length_reverse] at this
    rw [show L.length - 1 + 1 = L.length by omega]; exact this
  have e2 : (L.reverse ++ [L.getD 0 (0, 0)]).getD (L.length - 1) (0, 0) = L.getD 0 (0, 0) := by
    rw [getD_app_left _ _ _ (by rw [List.length_reverse]; omega), getD_rev L (by omega)]
    congr 1; omega
  rw [e1, e2] at h5
  unfold gap at h5
  omega
/-- A table of which all cells are free. -/
def openV (T : List (List Bool)) : List (List Bool) := T.map fun r => List.replicate r.length true
theorem openV_row (T : List (List Bool)) {k : Nat} (hk : k < T.length) : rowB (openV T) k = List.replicate (rowB T k).length true := by
  unfold rowB openV
  rw [List.getD_eq_getElem?_getD, List.getD_eq_getElem?_getD, List.getElem?_map, List.getElem?_eq_getElem hk]
  rfl
theorem openV_len (T : List (List Bool)) : (openV T).length = T.length := by unfold openV; rw [List.length_map]
theorem openV_squ {T : List (List Bool)} (h : squV T) : squV (openV T) := by
  refine ⟨by rw [openV_len]; exact h.1, fun k hk => ?_⟩
  rw [openV_len] at hk
  rw [openV_row T hk, openV_row T (by omega), List.length_replicate, List.length_replicate]
  exact h.2 k hk
theorem openV_free {T : List (List Bool)} {c : C2} : freeV (openV T) c = true ↔ (0 ≤ c.1 ∧ c.1 < (T.length : Int) ∧ 0 ≤ c.2 ∧ c.2 < ((rowB T c.1.toNat).length : Int)) := by
  rw [freeV_iff, openV_len]
  constructor
  · rintro ⟨h1, h2, h3, h4, _⟩
    rw [openV_row T (by omega), List.length_replicate] at h4
    exact ⟨h1, h2, h3, h4⟩
  · rintro ⟨h1, h2, h3, h4⟩
    rw [openV_row T (by omega), List.length_replicate]
    refine ⟨h1, h2, h3, h4, ?_⟩
    rw [List.getD_eq_getElem?_getD, List.getElem?_replicate, if_pos (by omega)]; rfl
theorem Walk.cons {fr : C2 → Bool} {a c b : C2} {n : Nat} (ha : fr a = true) (hac : Adj a c) (h : Walk fr c b n) : Walk fr a b (n + 1) := by
  obtain ⟨f, h0, h1, h2, h3⟩ := h
  refine ⟨fun i => Nat.casesOn i a f, rfl, h1, fun i hi => ?_, fun i hi => ?_⟩
  · cases i with
    | zero => show Adj a (f 0); rw [h0]; exact hac
    | succ i => exact h2 i (by omega)
  · cases i with
    | zero => exact ha
    | succ i => exact h3 i (by omega)
/-- In a box of free cells a walk is as long as the cells are apart. -/
theorem walk_box {fr : C2 → Bool} {X Y : Int} (hf : ∀ c : C2, 0 ≤ c.1 → c.1 < X → 0 ≤ c.2 → c.2 < Y → fr c = true) : ∀ (n : Nat) (a b : C2), gap a b = n → (0 ≤ a.1 ∧ a.1 < X ∧ 0 ≤ a.2 ∧ a.2 < Y) → (0 ≤ b.1 ∧ b.1 < X ∧ 0 ≤ b.2 ∧ b.2 < Y) → Walk fr a b n
  | 0, a, b, hg, ha, hb => by
    have : a = b := by unfold gap at hg; exact Prod.ext (by omega) (by omega)
    subst this
    exact ⟨fun _ => a, rfl, rfl, fun i hi => by omega, fun i hi => hf a ha.1 ha.2.1 ha.2.2.1 ha.2.2.2⟩
  | n + 1, a, b, hg, ha, hb => by
    have hfa := hf a ha.1 ha.2.1 ha.2.2.1 ha.2.2.2
    have go : ∀ c : C2, gap a c = 1 → gap c b = n → (0 ≤ c.1 ∧ c.1 < X ∧ 0 ≤ c.2 ∧ c.2 < Y) → Walk fr a b (n + 1) := fun c h1 h2 h3 => (walk_box hf n c b h2 h3 hb).cons hfa (adj_gap.2 h1)
    unfold gap at hg go
    rcases Int.lt_trichotomy a.1 b.1 with h | h | h
    · exact go (a.1 + 1, a.2) (by simp only; omega) (by simp only; omega) (by simp only; omega)
    · rcases Int.lt_trichotomy a.2 b.2 with q | q | q
      · exact go (a.1, a.2 + 1) (by simp only; omega) (by simp only; omega) (by simp only; omega)
      · omega
      · exact go (a.1, a.2 - 1) (by simp only; omega) (by simp only; omega) (by simp only; omega)
    · exact go (a.1 - 1, a.2) (by simp only; omega) (by simp only; omega) (by simp only; omega)
/-- Where all cells are free, a path is as long as the cells are apart. -/
theorem plan_open {T : List (List Bool)} {a b : C2} (h : planV T a b ≠ []) : (planV (openV T) a b).length = gap a b + 1 := by
  obtain ⟨hs, ha, hb, _⟩ := plan_path h
  have a1 := freeV_iff.1 ha
  have b1 := freeV_iff.1 hb
  have ra := (hs.2 a.1.toNat (by omega)).1
  have rb := (hs.2 b.1.toNat (by omega)).1
  have hw : Walk (freeV (openV T)) a b (gap a b) := walk_box (X := T.length) (Y := (rowB T 0).length) (fun c h1 h2 h3 h4 => openV_free.2 ⟨h1, h2, h3, by rw [(hs.2 c.1.toNat (by omega)).1]; exact h4⟩) (gap a b) a b rfl (by omega) (by omega)
  have hn := plan_of_walk (openV_squ hs) hw
  obtain ⟨_, _, _, n, hn, hp, hm⟩ := plan_path hn
  have := hm _ hw
  have := walk_gap hp.walk
  omega
/-- A difference in the machine's numbers. -/
def dif (x y : Int) : Int := IntKind.i64.wrap (x - y)
/-- The cell at k is a corner. -/
def cornV (L : List C2) (k : Nat) : Bool := decide (k = 0 ∨ k + 1 = L.length ∨ dif (L.getD k (0, 0)).1 (L.getD (k - 1) (0, 0)).1 ≠ dif (L.getD (k + 1) (0, 0)).1 (L.getD k (0, 0)).1 ∨ dif (L.getD k (0, 0)).2 (L.getD (k - 1) (0, 0)).2 ≠ dif (L.getD (k + 1) (0, 0)).2 (L.getD k (0, 0)).2)
/-- The corners of the first k cells. -/
def cornTo (L : List C2) (k : Nat) : List C2 := ((List.range k).filter (cornV L)).map fun i => L.getD i (0, 0)
def cornersV (L : List C2) : List C2 := if 400 < L.length then [] else cornTo L L.length
theorem cornTo_yes {L : List C2} {k : Nat} (h : cornV L k = true) : cornTo L (k + 1) = cornTo L k ++ [L.getD k (0, 0)] := by
  unfold cornTo; rw [List.range_succ, List.filter_append, List.map_append]; simp [h]
theorem cornTo_no {L : List C2} {k : Nat} (h : cornV L k = false) : cornTo L (k + 1) = cornTo L k := by
  unfold cornTo; rw [List.range_succ, List.filter_append, List.map_append]; simp [h]
/-- Of numbers that are picked out in order: no other one lies between. -/
theorem between11 (p : Nat → Bool) : ∀ n : Nat, (∀ i : Nat, i < ((List.range n).filter p).length → ((List.range n).filter p).getD i 0 < n ∧ p (((List.range n).filter p).getD i 0) = true) ∧
    (∀ i, i + 1 < ((List.range n).filter p).length → ((List.range n).filter p).getD i 0 < ((List.range n).filter p).getD (i + 1) 0 ∧ ∀ m, ((List.range n).filter p).getD i 0 < m → m < ((List.range n).filter p).getD (i + 1) 0 → p m = false) ∧
    (∀ m, m < n → (((List.range n).filter p).length = 0 ∨ ((List.range n).filter p).getD (((List.range n).filter p).length - 1) 0 < m) → p m = false) ∧ ((List.range n).filter p).length ≤ n
  | 0 => ⟨fun i h => by simp at h, fun i h => by simp at h, fun m h => by omega, by simp⟩
  | n + 1 => by
    obtain ⟨h1, h2, h3, h4⟩ := between11 p n
    have e : (List.range (n + 1)).filter p = (List.range n).filter p ++ (if p n = true then [n] else []) := by
      rw [List.range_succ, List.filter_append]
      congr 1
      cases h : p n <;> simp [h]
    rw [e]
    generalize (List.range n).filter p = Q at *
    cases hp : p n with
    | false =>
      simp only [Bool.false_eq_true, if_false, List.append_nil]
      refine ⟨fun i hi => ⟨by have := (h1 i hi).1; omega, (h1 i hi).2⟩, h2, fun m hm q => ?_, by omega⟩
      by_cases k : m = n
      · subst k; exact hp
      · exact h3 m (by omega) q
    | true =>
      simp only [if_true]
      have hl : (Q ++ [n]).length = Q.length + 1 := by simp
      have hlast : (Q ++ [n]).getD Q.length 0 = n := getD_app_last Q n 0
      have hleft : ∀ i, i < Q.length → (Q ++ [n]).getD i 0 = Q.getD i 0 := fun i hi => getD_app_left Q [n] 0 hi
      refine ⟨fun i hi => ?_, fun i hi => ?_, fun m hm q => ?_, by rw [hl]; omega⟩
      · rw [hl] at hi
        by_cases k : i < Q.length
        · rw [hleft i k]; exact ⟨by have := (h1 i k).1; omega, (h1 i k).2⟩
        · obtain rfl : i = Q.length := by omega
          rw [hlast]; exact ⟨by omega, hp⟩
      · rw [hl] at hi
        by_cases k : i + 1 < Q.length
        · rw [hleft i (by omega), hleft (i + 1) k]; exact h2 i k
        · have k2 : i + 1 = Q.length := by omega
          rw [hleft i (by omega), k2, hlast]
          refine ⟨(h1 i (by omega)).1, fun m q1 q2 => h3 m q2 (.inr ?_)⟩
          rw [show Q.length - 1 = i by omega]; exact q1
      · rw [hl] at q
        rcases q with q | q
        · omega
        · rw [show Q.length + 1 - 1 = Q.length by omega, hlast] at q
          omega
/-- Small cells, of which consecutive ones agree in a coordinate. -/
def Straight (L : List C2) : Prop := (∀ k, k < L.length → 0 ≤ (L.getD k (0, 0)).1 ∧ (L.getD k (0, 0)).1 < 20 ∧ 0 ≤ (L.getD k (0, 0)).2 ∧ (L.getD k (0, 0)).2 < 20) ∧ ∀ k, k + 1 < L.length → (L.getD (k + 1) (0, 0)).1 = (L.getD k (0, 0)).1 ∨ (L.getD (k + 1) (0, 0)).2 = (L.getD k (0, 0)).2
theorem plan_straight (T : List (List Bool)) (a b : C2) : Straight (planV T a b) := by
  by_cases h : planV T a b = []
  · rw [h]; exact ⟨fun k hk => by simp at hk, fun k hk => by simp at hk⟩
  · have hv := plan_valid h
    refine ⟨fun k hk => freeV_small hv.1 (hv.2.2.2.1 k hk), fun k hk => ?_⟩
    have := hv.2.2.2.2 k hk
    unfold gap at this
    omega
theorem zero_straight (n : Nat) : Straight (List.replicate n (0, 0)) := by
  have e : ∀ k, (List.replicate n ((0, 0) : C2)).getD k (0, 0) = (0, 0) := fun k => by
    rw [List.getD_eq_getElem?_getD, List.getElem?_replicate]; split <;> rfl
  refine ⟨fun k _ => ?_, fun k _ => ?_⟩
  · rw [e]; decide
  · rw [e, e]; exact .inl rfl
theorem dif_small {x y : Int} (h1 : 0 ≤ x) (h2 : x < 20) (h3 : 0 ≤ y) (h4 : y < 20) : dif x y = x - y := wrap_in (by omega) (by omega)
theorem run_one {L : List C2} (hs : Straight L) {i : Nat} : ∀ j, i < j → j < L.length → (∀ m, i < m → m < j → cornV L m = false) → ((L.getD (i + 1) (0, 0)).1 = (L.getD i (0, 0)).1 → (L.getD j (0, 0)).1 = (L.getD i (0, 0)).1) ∧ ((L.getD (i + 1) (0, 0)).2 = (L.getD i (0, 0)).2 → (L.getD j (0, 0)).2 = (L.getD i (0, 0)).2) ∧ (L.getD j (0, 0)).1 - (L.getD (j - 1) (0, 0)).1 = (L.getD (i + 1) (0, 0)).1 - (L.getD i (0, 0)).1 ∧ (L.getD j (0, 0)).2 - (L.getD (j - 1) (0, 0)).2 = (L.getD (i + 1) (0, 0)).2 - (L.getD i (0, 0)).2 := by
  intro j
  induction j with
  | zero => intro h; omega
  | succ j ih =>
    intro hij hj hm
    by_cases e : i = j
    · subst e; exact ⟨fun h => h, fun h => h, rfl, rfl⟩
    · obtain ⟨h1, h2, h3, h4⟩ := ih (by omega) (by omega) (fun m q1 q2 => hm m q1 (by omega))
      have c := hm j (by omega) (by omega)
      unfold cornV at c
      have c := of_decide_eq_false c
      have s0 := hs.1 (j - 1) (by omega)
      have s1 := hs.1 j (by omega)
      have s2 := hs.1 (j + 1) hj
      rw [dif_small s1.1 s1.2.1 s0.1 s0.2.1, dif_small s1.2.2.1 s1.2.2.2 s0.2.2.1 s0.2.2.2, dif_small s2.1 s2.2.1 s1.1 s1.2.1, dif_small s2.2.2.1 s2.2.2.2 s1.2.2.1 s1.2.2.2] at c
      rw [show j + 1 - 1 = j from rfl]
      refine ⟨fun q => ?_, fun q => ?_, ?_, ?_⟩
      · have := h1 q; omega
      · have := h2 q; omega
      · omega
      · omega
theorem cornTo_len (L : List C2) (n : Nat) : (cornTo L n).length = ((List.range n).filter (cornV L)).length := by unfold cornTo; rw [List.length_map]
theorem cornTo_at (L : List C2) (n : Nat) {k : Nat} (hk : k < (cornTo L n).length) : (cornTo L n).getD k (0, 0) = L.getD (((List.range n).filter (cornV L)).getD k 0) (0, 0) := by
  rw [cornTo_len] at hk
  unfold cornTo
  rw [List.getD_eq_getElem?_getD, List.getElem?_map, List.getD_eq_getElem?_getD (l := List.filter _ _), List.getElem?_eq_getElem hk]
  rfl
/-- Consecutive corners agree in a coordinate. -/
theorem corn_axis {L : List C2} (hs : Straight L) {k : Nat} (hk : k + 1 < (cornTo L L.length).length) : ((cornTo L L.length).getD (k + 1) (0, 0)).1 = ((cornTo L L.length).getD k (0, 0)).1 ∨ ((cornTo L L.length).getD (k + 1) (0, 0)).2 = ((cornTo L L.length).getD k (0, 0)).2 := by
  obtain ⟨b1, b2, _, _⟩ := between11 (cornV L) L.length
  rw [cornTo_at L _ hk, cornTo_at L _ (by omega)]
  rw [cornTo_len] at hk
  have q := b2 k hk
  have l1 := (b1 (k + 1) hk).1
  obtain ⟨r1, r2, _, _⟩ := run_one hs _ q.1 l1 q.2
  rcases hs.2 _ (show ((List.range L.length).filter (cornV L)).getD k 0 + 1 < L.length by have := q.1; omega) with h | h
  · exact .inl (r1 h)
  · exact .inr (r2 h)
theorem corn_first {L : List C2} (h : 0 < L.length) : 0 < (cornTo L L.length).length ∧ (cornTo L L.length).getD 0 (0, 0) = L.getD 0 (0, 0) := by
  obtain ⟨b1, b2, b3, _⟩ := between11 (cornV L) L.length
  have c0 : cornV L 0 = true := by unfold cornV; exact decide_eq_true (.inl rfl)
  have h0 : 0 < (cornTo L L.length).length := by
    rw [cornTo_len]
    rcases Nat.eq_zero_or_pos ((List.range L.length).filter (cornV L)).length with q | q
    · have := b3 0 h (.inl q); rw [c0] at this; cases this
    · exact q
  refine ⟨h0, ?_⟩
  rw [cornTo_at L _ h0]
  congr 1
  rw [cornTo_len] at h0
  obtain ⟨n, hn⟩ : ∃ n, L.length = n + 1 := ⟨L.length - 1, by omega⟩
  rw [hn, List.range_succ_eq_map, List.filter_cons, if_pos c0]; rfl
theorem corn_last {L : List C2} (h : 0 < L.length) : (cornTo L L.length).getD ((cornTo L L.length).length - 1) (0, 0) = L.getD (L.length - 1) (0, 0) := by
  obtain ⟨n, hn⟩ : ∃ n, L.length = n + 1 := ⟨L.length - 1, by omega⟩
  have c : cornV L n = true := by unfold cornV; exact decide_eq_true (.inr (.inl hn.symm))
  have e : cornTo L L.length = cornTo L n ++ [L.getD n (0, 0)] := by rw [hn]; exact cornTo_yes c
  rw [e, List.length_append, hn]
  exact getD_app_last _ _ _
theorem corn_le (L : List C2) : (cornTo L L.length).length ≤ L.length := by rw [cornTo_len]; exact (between11 (cornV L) L.length).2.2.2
end Go.Proofs.YtkogoflcacameaaDoor
