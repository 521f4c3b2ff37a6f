/- Plain mathematics: the two borders, each without its last point, are the hull that begins at the least point. -/
import Derived.Test.YtkmopgdnaohcdaaMon8
namespace Go.Proofs.Ytkmopgdnaohcdaa
set_option maxRecDepth 100000
def ng (p : P2) : P2 := (-p.1, -p.2)
theorem cr_ng (a b c : P2) : cr (ng a) (ng b) (ng c) = cr a b c := by unfold cr ng; simp only; grind
theorem sq2_ng (a b : P2) : sq2 (ng a) (ng b) = sq2 a b := by unfold sq2 ng; simp only; grind
theorem ng_inj {a b : P2} (h : ng a = ng b) : a = b := by
  have h1 := congrArg Prod.fst h
  have h2 := congrArg Prod.snd h
  unfold ng at h1 h2; simp only at h1 h2
  exact Prod.ext (by omega) (by omega)
theorem le2_ng {a b : P2} (h : le2 a b) : le2 (ng b) (ng a) := by unfold le2 ng at *; simp only; omega
theorem lt2_ng {a b : P2} (h : lt2 (ng a) (ng b)) : lt2 b a := by unfold lt2 ng at *; simp only at h; omega
theorem le2_ng' {a b : P2} (h : le2 (ng a) (ng b)) : le2 b a := by unfold le2 ng at *; simp only at h; omega
theorem popTo_ng (p : P2) : ∀ s : List P2, popTo (ng p) (s.map ng) = (popTo p s).map ng
  | [] => rfl
  | [a] => rfl
  | b :: a :: s => by
    have ih := popTo_ng p (a :: s)
    unfold popTo
    simp only [List.map_cons] at ih ⊢
    rw [cr_ng]
    by_cases c : cr a b p ≤ 0
    · rw [if_pos c, if_pos c, ih]
    · rw [if_neg c, if_neg c]; rfl
theorem bord_ng : ∀ (ps s : List P2), bord (s.map ng) (ps.map ng) = (bord s ps).map ng
  | [], s => rfl
  | p :: ps, s => by
    have := bord_ng ps (p :: popTo p s)
    unfold bord at *
    simp only [List.map_cons, List.foldl_cons] at this ⊢
    rw [popTo_ng, this]
/-- On the line of an edge, between its ends: not farther. -/
theorem dn_near {a b q : P2} (hab : lt2 a b) (h0 : cr a b q = 0) (h1 : le2 a q) (h2 : le2 q b) : sq2 a q ≤ sq2 a b := by
  have sqm : ∀ x y : Int, 0 ≤ x → x ≤ y → x * x ≤ y * y := fun x y hx hy => Int.mul_le_mul hy hy hx (by omega)
  by_cases k : a.1 < b.1
  · have d0 : 0 ≤ q.1 - a.1 := by unfold le2 at h1; omega
    have d1 : q.1 - a.1 ≤ b.1 - a.1 := by unfold le2 at h2; omega
    have e : (b.1 - a.1) * (b.1 - a.1) * sq2 a q = (q.1 - a.1) * (q.1 - a.1) * sq2 a b := by
      have c : (b.1 - a.1) * (q.2 - a.2) = (b.2 - a.2) * (q.1 - a.1) := by unfold cr at h0; omega
      have x1 : (b.1 - a.1) * (b.1 - a.1) * sq2 a q = (b.1 - a.1) * (b.1 - a.1) * ((q.1 - a.1) * (q.1 - a.1)) + ((b.1 - a.1) * (q.2 - a.2)) * ((b.1 - a.1) * (q.2 - a.2)) := by unfold sq2; grind
      rw [x1, c]
      unfold sq2; grind
    have m := sqm _ _ d0 d1
    have m2 : (q.1 - a.1) * (q.1 - a.1) * sq2 a b ≤ (b.1 - a.1) * (b.1 - a.1) * sq2 a b := Int.mul_le_mul_of_nonneg_right m (sq2_nonneg _ _)
    have pos : 0 < (b.1 - a.1) * (b.1 - a.1) := Int.mul_pos (by omega) (by omega)
    rw [← e] at m2
    exact Int.le_of_mul_le_mul_left m2 pos
  · have e1 : a.1 = b.1 := by unfold lt2 at hab; omega
    have e2 : q.1 = a.1 := by unfold le2 at h1 h2; omega
    have m := sqm (q.2 - a.2) (b.2 - a.2) (by unfold le2 at h1; omega) (by unfold le2 at h2; omega)
    have s1 : (a.2 - q.2) * (a.2 - q.2) = (q.2 - a.2) * (q.2 - a.2) := by grind
    have s2 : (a.2 - b.2) * (a.2 - b.2) = (b.2 - a.2) * (b.2 - a.2) := by grind
    unfold sq2
    rw [e2, ← e1, s1, s2]
    omega
theorem dn_nxt {S : List P2} {a b : P2} (hab : lt2 a b) (hb : b ∈ S) (h : ∀ q ∈ S, Dn a b q) : Nxt S a b := by
  refine ⟨hb, fun e => lt2_ne hab e.symm, fun p hp hpa => ?_⟩
  rcases h p hp with k | ⟨k, k1, k2⟩
  · exact .inl k
  · exact .inr ⟨k, dn_near hab k k1 k2⟩
theorem nxt_ng {S : List P2} {a b : P2} (h : Nxt (S.map ng) (ng a) (ng b)) : Nxt S a b := by
  refine ⟨?_, fun e => h.ne (by rw [e]), fun p hp hpa => ?_⟩
  · obtain ⟨q, hq, e⟩ := List.mem_map.1 h.mem
    rw [← ng_inj e]; exact hq
  · have := h.all (ng p) (List.mem_map.2 ⟨p, hp, rfl⟩) (fun e => hpa (ng_inj e))
    rw [cr_ng, sq2_ng, sq2_ng] at this
    exact this
theorem cor_cons (a : P2) (s : List P2) (i : Nat) : cor (a :: s) (i + 1) = cor s i := by unfold cor; simp
theorem cor_zero (a : P2) (s : List P2) : cor (a :: s) 0 = a := by unfold cor; simp
theorem Stk.edge {P : List P2} : ∀ {s : List P2}, Stk P s → ∀ i, i + 1 < s.length → lt2 (cor s (i + 1)) (cor s i) ∧ ∀ q ∈ P, Dn (cor s (i + 1)) (cor s i) q
  | [], h, _, _ => h.elim
  | [a], _, i, hi => by simp at hi
  | b :: a :: s, h, 0, _ => ⟨h.1, h.2.1⟩
  | b :: a :: s, h, i + 1, hi => by
    have := Stk.edge h.2.2 i (by simp at hi ⊢; omega)
    rw [cor_cons, cor_cons]; exact this
theorem Stk.least {P : List P2} : ∀ {s : List P2}, Stk P s → ∀ q ∈ P, le2 (cor s (s.length - 1)) q
  | [], h, _, _ => h.elim
  | [a], h, q, hq => h q hq
  | b :: a :: s, h, q, hq => by
    have := Stk.least h.2.2 q hq
    rw [show (b :: a :: s).length - 1 = ((a :: s).length - 1) + 1 by simp, cor_cons]
    exact this
theorem Stk.mono {P s : List P2} (h : Stk P s) : ∀ d i, i + d + 1 < s.length → lt2 (cor s (i + d + 1)) (cor s i) := by
  intro d
  induction d with
  | zero => intro i hi; exact (h.edge i hi).1
  | succ d ih =>
    intro i hi
    have a := (h.edge (i + d + 1) (by omega)).1
    have b := ih i (by omega)
    exact lt2_of_lt_le a (lt2_le b)
/-- A hull of S with its first corner, or nothing. -/
def IsHull (S H : List P2) : Prop := (H = [] ∧ ∀ H', ¬ Hull S H') ∨ (Hull S H ∧ ∀ p ∈ S, le2 (cor H 0) p)
theorem IsHull.unique {S H H' : List P2} (h : IsHull S H) (h' : IsHull S H') : H = H' := by
  rcases h with ⟨rfl, n⟩ | ⟨h, l⟩
  · rcases h' with ⟨rfl, _⟩ | ⟨h', _⟩
    · rfl
    · exact absurd h' (n _)
  · rcases h' with ⟨rfl, n⟩ | ⟨h', l'⟩
    · exact absurd h (n _)
    · refine h.unique h' ?_
      have n1 := h.len
      have n2 := h'.len
      exact le2_anti (l _ (h'.sub _ (cor_mem (by omega)))) (l' _ (h.sub _ (cor_mem (by omega))))
/-- The two borders of points in their order. -/
def lowB (ps : List P2) : List P2 := (bord [] ps).reverse
def joinB (lo up : List P2) : List P2 := if lo.length + up.length < 5 then [] else lo.dropLast ++ up.dropLast
theorem cor_rev {s : List P2} {i : Nat} (h : i < s.length) : cor s.reverse i = cor s (s.length - 1 - i) := by
  unfold cor; rw [List.getD_eq_getElem?_getD, List.getD_eq_getElem?_getD, List.getElem?_reverse h]
theorem cor_join {a b : List P2} {i : Nat} (ha : 1 ≤ a.length) (hi : i < a.length - 1) : cor (a.reverse.dropLast ++ b) i = cor a (a.length - 1 - i) := by
  have : i < a.reverse.dropLast.length := by rw [List.length_dropLast, List.length_reverse]; exact hi
  rw [← cor_rev (by omega)]
  unfold cor
  rw [List.getD_eq_getElem?_getD, List.getD_eq_getElem?_getD, List.getElem?_append_left this, List.getElem?_dropLast, if_pos (by rw [List.length_reverse]; exact hi)]
theorem cor_join2 {a b : List P2} {i : Nat} (hi : i + 1 < b.length) : cor (a.reverse.dropLast ++ b.reverse.dropLast) (a.length - 1 + i) = cor b (b.length - 1 - i) := by
  rw [← cor_rev (by omega)]
  unfold cor
  rw [List.getD_eq_getElem?_getD, List.getD_eq_getElem?_getD, List.getElem?_append_right (by simp)]
  simp only [List.length_dropLast, List.length_reverse]
  rw [show a.length - 1 + i - (a.length - 1) = i by omega, List.getElem?_dropLast, if_pos (by rw [List.length_reverse]; omega)]
/-- The corners from the least point on, below, and back, above. -/
theorem join_hull {S sl su : List P2} (ml : 2 ≤ sl.length) (mu : 2 ≤ su.length)
    (el : ∀ i, i + 1 < sl.length → Nxt S (cor sl (i + 1)) (cor sl i)) (eu : ∀ i, i + 1 < su.length → Nxt S (cor su (i + 1)) (cor su i))
    (hmax : cor sl 0 = cor su (su.length - 1)) (hmin : cor sl (sl.length - 1) = cor su 0) (hS : cor sl (sl.length - 1) ∈ S) (hle : ∀ p ∈ S, le2 (cor sl (sl.length - 1)) p)
    (al : ∀ i, i + 1 < sl.length → cor sl i ≠ cor sl (sl.length - 1)) (au : ∀ i, 0 < i → i < su.length → cor su i ≠ cor su 0) : IsHull S (joinB sl.reverse su.reverse) := by
  unfold joinB
  simp only [List.length_reverse]
  by_cases h5 : sl.length + su.length < 5
  · rw [if_pos h5]
    refine .inl ⟨rfl, fun H' hH => ?_⟩
    have e1 : sl.length = 2 := by omega
    have e2 : su.length = 2 := by omega
    have k1 := el 0 (by omega)
    have k2 := eu 0 (by omega)
    rw [e2] at hmax; rw [e1] at hmin
    simp only [Nat.zero_add, Nat.add_one_sub_one] at *
    rw [← hmax, ← hmin] at k2
    exact line_no_hull k1 k2 hH
  · rw [if_neg h5]
    refine .inr ?_
    generalize eH : sl.reverse.dropLast ++ su.reverse.dropLast = H
    have hlen : H.length = sl.length + su.length - 2 := by rw [← eH]; simp; omega
    have lo : ∀ i, i < sl.length - 1 → cor H i = cor sl (sl.length - 1 - i) := fun i hi => by rw [← eH]; exact cor_join (by omega) hi
    have up : ∀ i, i + 1 < su.length → cor H (sl.length - 1 + i) = cor su (su.length - 1 - i) := fun i hi => by rw [← eH]; exact cor_join2 hi
    have h0 : cor H 0 = cor sl (sl.length - 1) := by rw [lo 0 (by omega)]; rfl
    have first : cor H 0 ∈ S ∧ Ext S (cor H 0) := by
      rw [h0]
      exact ⟨hS, least_ext fun p hp => hle p hp⟩
    refine ⟨Chain8.hull ⟨by omega, first, fun i hi => ?_, fun i h1 h2 => ?_⟩ (by omega) ?_, fun p hp => by rw [h0]; exact hle p hp⟩
    · rcases Nat.lt_or_ge (i + 1) (sl.length - 1) with q | q
      · rw [lo i (by omega), lo (i + 1) q]
        have := el (sl.length - 1 - (i + 1)) (by omega)
        rw [show sl.length - 1 - (i + 1) + 1 = sl.length - 1 - i by omega] at this
        exact this
      · rcases Nat.lt_or_ge i (sl.length - 1) with z | z
        · have e : i + 1 = sl.length - 1 + 0 := by omega
          rw [lo i z, e, up 0 (by omega), show su.length - 1 - 0 = su.length - 1 by omega, ← hmax, show sl.length - 1 - i = 0 + 1 by omega]
          exact el 0 (by omega)
        · obtain ⟨j, rfl⟩ : ∃ j, i = sl.length - 1 + j := ⟨i - (sl.length - 1), by omega⟩
          rw [up j (by omega), show sl.length - 1 + j + 1 = sl.length - 1 + (j + 1) by omega, up (j + 1) (by omega)]
          have := eu (su.length - 1 - (j + 1)) (by omega)
          rw [show su.length - 1 - (j + 1) + 1 = su.length - 1 - j by omega] at this
          exact this
    · rw [h0]
      rcases Nat.lt_or_ge i (sl.length - 1) with z | z
      · rw [lo i z]; exact al _ (by omega)
      · obtain ⟨j, rfl⟩ : ∃ j, i = sl.length - 1 + j := ⟨i - (sl.length - 1), by omega⟩
        rw [up j (by omega), hmin]
        exact au _ (by omega) (by omega)
    · rw [h0, hmin, hlen, show sl.length + su.length - 2 - 1 = sl.length - 1 + (su.length - 2) by omega, up (su.length - 2) (by omega), show su.length - 1 - (su.length - 2) = 0 + 1 by omega]
      exact eu 0 (by omega)
theorem getD_zero (s : List P2) : s.getD 0 (0, 0) = cor s 0 := rfl
/-- THE PROGRAM's HULL. -/
theorem mono_hull {S ps : List P2} (hmem : ∀ p, p ∈ S ↔ p ∈ ps) (ha : Asc ps) : IsHull S (joinB (lowB ps) (lowB ps.reverse)) := by
  have bl : Bst ps.reverse (bord [] ps) := by
    have := Bst.run ps [] [] (.inl ⟨rfl, rfl⟩) ha (fun q hq => by cases hq)
    rwa [List.append_nil] at this
  have bu : Bst ((ps.reverse.map ng).reverse) ((bord [] ps.reverse).map ng) := by
    have asc : Asc (ps.reverse.map ng) := by
      unfold Asc at *
      rw [List.pairwise_map, List.pairwise_reverse]
      exact ha.imp le2_ng
    have := Bst.run (ps.reverse.map ng) [] [] (.inl ⟨rfl, rfl⟩) asc (fun q hq => by cases hq)
    rw [List.append_nil] at this
    have e := bord_ng ps.reverse []
    rw [List.map_nil] at e
    rwa [e] at this
  have ml : ∀ p, p ∈ ps.reverse ↔ p ∈ S := fun p => by rw [List.mem_reverse, hmem]
  have mu : ∀ p, p ∈ S → ng p ∈ (ps.reverse.map ng).reverse := fun p hp => by
    rw [List.mem_reverse]; exact List.mem_map.2 ⟨p, by rw [ml]; exact hp, rfl⟩
  have mu' : ∀ q, q ∈ (ps.reverse.map ng).reverse → ∃ p ∈ S, ng p = q := fun q hq => by
    rw [List.mem_reverse] at hq
    obtain ⟨p, hp, e⟩ := List.mem_map.1 hq
    exact ⟨p, (ml p).1 hp, e⟩
  unfold lowB
  generalize bord [] ps = sl at *
  generalize bord [] ps.reverse = su at *
  rcases bl with ⟨e0, rfl⟩ | ⟨a, haP, hall, hs⟩ | ⟨l2, hst, hm, htop⟩
  · -- no points
    have none : ∀ p, p ∉ S := fun p hp => by rw [← ml, e0] at hp; cases hp
    have : su = [] := by
      rcases bu with ⟨_, e⟩ | ⟨a, haP, _⟩ | ⟨l2, hst, hm, _⟩
      · exact List.map_eq_nil_iff.1 e
      · obtain ⟨p, hp, _⟩ := mu' _ haP; exact absurd hp (none p)
      · cases su with
        | nil => rfl
        | cons t s => obtain ⟨p, hp, _⟩ := mu' _ (hm (ng t) (by simp)); exact absurd hp (none p)
    subst this
    exact .inl ⟨rfl, fun H' hH => none _ (hH.sub _ (cor_mem (i := 0) (by have := hH.len; omega)))⟩
  · -- one point
    have one : ∀ p ∈ S, p = a := fun p hp => hall p ((ml p).2 hp)
    have lu : su.length ≤ 2 := by
      rcases bu with ⟨_, e⟩ | ⟨b, _, _, e | e⟩ | ⟨l2, hst, hm, _⟩
      · rw [List.map_eq_nil_iff.1 e]; simp
      · have := congrArg List.length e; simp at this; omega
      · have := congrArg List.length e; simp at this; omega
      · exfalso
        have ed := (hst.edge 0 (by omega)).1
        have c0 := hm _ (cor_mem (i := 0) (by omega))
        have c1 := hm _ (cor_mem (i := 0 + 1) (by omega))
        obtain ⟨p0, q0, e0⟩ := mu' _ c0
        obtain ⟨p1, q1, e1⟩ := mu' _ c1
        rw [← e0, ← e1, one p0 q0, one p1 q1] at ed
        exact lt2_ne ed rfl
    have ll : sl.length ≤ 2 := by rcases hs with e | e <;> (rw [e]; simp)
    unfold joinB
    rw [if_pos (by simp only [List.length_reverse]; omega)]
    exact .inl ⟨rfl, fun H' hH => one_no_hull one hH⟩
  · have edl := hst.edge
    have c0 := hm _ (cor_mem (ps := sl) (i := 0) (by omega))
    have c1 := hm _ (cor_mem (ps := sl) (i := 0 + 1) (by omega))
    rcases bu with ⟨e, _⟩ | ⟨b, _, hb, _⟩ | ⟨k2, kst, km, ktop⟩
    · have := mu _ ((ml _).1 c0); rw [e] at this; cases this
    · exfalso
      have z0 := hb _ (mu _ ((ml _).1 c0))
      have z1 := hb _ (mu _ ((ml _).1 c1))
      exact lt2_ne (edl 0 (by omega)).1 (ng_inj (z1.trans z0.symm))
    · have cm : ∀ i, i < su.length → cor (su.map ng) i = ng (cor su i) := fun i hi => by
        unfold cor
        rw [List.getD_eq_getElem?_getD, List.getD_eq_getElem?_getD, List.getElem?_map, List.getElem?_eq_getElem hi]; rfl
      rw [List.length_map] at k2
      have edu := kst.edge
      rw [List.length_map] at edu
      have minl : ∀ p ∈ S, le2 (cor sl (sl.length - 1)) p := fun p hp => hst.least p ((ml p).2 hp)
      have maxl : ∀ p ∈ S, le2 p (cor sl 0) := fun p hp => htop p ((ml p).2 hp)
      have maxu : ∀ p ∈ S, le2 p (cor su (su.length - 1)) := fun p hp => by
        have := kst.least (ng p) (mu p hp)
        rw [List.length_map, cm _ (by omega)] at this
        exact le2_ng' this
      have minu : ∀ p ∈ S, le2 (cor su 0) p := fun p hp => by
        have := ktop (ng p) (mu p hp)
        rw [getD_zero, cm _ (by omega)] at this
        exact le2_ng' this
      have sL : ∀ i, i < sl.length → cor sl i ∈ S := fun i hi => (ml _).1 (hm _ (cor_mem hi))
      have sU : ∀ i, i < su.length → cor su i ∈ S := fun i hi => by
        obtain ⟨p, hp, e⟩ := mu' _ (km _ (cor_mem (i := i) (by simpa using hi)))
        rw [cm i hi] at e
        rw [← ng_inj e]; exact hp
      refine join_hull l2 k2 (fun i hi => dn_nxt (edl i hi).1 (sL i (by omega)) (fun q hq => (edl i hi).2 q ((ml q).2 hq))) (fun i hi => ?_) ?_ ?_ (sL _ (by omega)) minl ?_ ?_
      · have e := edu i hi
        rw [cm i (by omega), cm (i + 1) hi] at e
        refine nxt_ng (dn_nxt e.1 (List.mem_map.2 ⟨_, sU i (by omega), rfl⟩) (fun q hq => ?_))
        obtain ⟨p, hp, rfl⟩ := List.mem_map.1 hq
        exact e.2 _ (mu p hp)
      · exact le2_anti (maxu _ (sL 0 (by omega))) (maxl _ (sU _ (by omega)))
      · exact le2_anti (minl _ (sU 0 (by omega))) (minu _ (sL _ (by omega)))
      · intro i hi
        have := hst.mono (sl.length - 1 - i - 1) i (by omega)
        rw [show i + (sl.length - 1 - i - 1) + 1 = sl.length - 1 by omega] at this
        exact fun e => lt2_ne this e.symm
      · intro i h1 h2
        have := kst.mono (i - 1) 0 (by rw [List.length_map]; omega)
        rw [show 0 + (i - 1) + 1 = i by omega, cm i h2, cm 0 (by omega)] at this
        exact fun e => lt2_ne this (by rw [e])
end Go.Proofs.Ytkmopgdnaohcdaa
