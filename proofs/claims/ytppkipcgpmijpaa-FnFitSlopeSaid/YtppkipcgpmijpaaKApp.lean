/- A region that draws its order and appends: its first operation moves the row and may come up at any time; its head reads and calls what makes memory; its tail is forced (the new element, the append, the assignment). One walk in the text's order. -/
import Derived.Test.YtppkipcgpmijpaaZbKt
import Derived.Deep.RegionHeld3
namespace Go.Proofs.Ytppkipcgpmijpaa
set_option maxRecDepth 100000
open Go.RowKit
section
variable {P : Program} {ops : Array Oper} {C : World → Prop}

/-- Every operation of the head but the first is waited for by a later one, up to the tail's first. -/
def sinkFrom1 (ops : Array Oper) (n : Nat) : Bool :=
  (List.range n).all fun i => decide (i = 0) || (List.range (n + 1)).any fun j => decide (i < j) && Region.waitsFor .any ops j i

/-- As long as an operation of the head other than the first has not come up, no operation of the tail may. -/
theorem waits1 {n : Nat} {done : Array Bool} (hs : sinkFrom1 ops n = true) (hc : Region.chainB .any ops n = true) (inv : HeadInv .any ops n done) :
    ∀ (d i : Nat), n - i ≤ d → 0 < i → i < n → done.getD i true = false → ∀ t, n ≤ t → t ∉ Region.ready .any ops done
  | 0, i, hd, _, hi, _, _, _ => by omega
  | d + 1, i, hd, h0, hi, hun, t, ht => fun hr => by
    obtain ⟨_, ot, hot, hall⟩ := mem_ready.1 hr
    rcases Nat.lt_or_ge n t with htn | htn
    · have h1 := List.all_eq_true.1 hc t (List.mem_range.2 (Array.getElem?_eq_some_iff.1 hot).1)
      simp only [Bool.or_eq_true, decide_eq_true_eq] at h1
      obtain ⟨o', ho', e, he, hb, hon⟩ := Region.waitsFor_spec (h1.resolve_left (by omega))
      obtain rfl : ot = o' := Option.some.inj (hot.symm.trans ho')
      have h2 := hall e he hb
      rw [hon, getD_both (inv.tail (t - 1) (by omega) (by have := (Array.getElem?_eq_some_iff.1 hot).1; omega))] at h2
      cases h2
    · obtain rfl : t = n := by omega
      have h1 := List.all_eq_true.1 hs i (List.mem_range.2 hi)
      simp only [Bool.or_eq_true, decide_eq_true_eq] at h1
      obtain ⟨j, hj, hj2⟩ := List.any_eq_true.1 (h1.resolve_left (by omega))
      simp only [Bool.and_eq_true, decide_eq_true_eq] at hj2
      obtain ⟨oj, hoj, e, he, hb, hon⟩ := Region.waitsFor_spec hj2.2
      have hjt : j ≤ t := by have := List.mem_range.1 hj; omega
      have key : done.getD j false = true → False := fun hl => by
        have h2 := inv.closed j oj hoj hl e he hb
        rw [hon, getD_both hun] at h2
        cases h2
      rcases Nat.lt_or_ge j t with hlt | hge
      · have hjs : j < done.size := by rw [inv.size]; exact (Array.getElem?_eq_some_iff.1 hoj).1
        have hjf : done.getD j false = false := by
          cases hl : done.getD j false with
          | true => exact (key hl).elim
          | false => rfl
        exact waits1 hs hc inv d j (by omega) (by omega) hlt (getD_in hjs hjf) t (Nat.le_refl _) hr
      · obtain rfl : j = t := by omega
        obtain rfl : ot = oj := Option.some.inj (hot.symm.trans hoj)
        have h2 := hall e he hb
        rw [hon, getD_both hun] at h2
        cases h2

theorem headIn_first1 {N i : Nat} {oi : Oper} {v : Value} {L : Array Bool → Act → Prop} (hi : ops[i]? = some oi) (hsel : ∀ (j : Nat) (o : Oper) cs b, ops[j]? = some o → o.op ≠ .select cs b)
    (hw : ∀ done, HeadInv .any ops N done → done.getD i true = false → ∀ t, N ≤ t → t ∉ Region.ready .any ops done) (hend : ∀ done a, L done a → ∀ j ∈ Region.ready .any ops done, N ≤ j) (f : Nat) :
    ∀ (done : Array Bool) (a : Act), HeadInv .any ops N done →
      (∀ j oj, ops[j]? = some oj → j ≠ i → done.getD j true = false → (∀ e ∈ oj.after, Region.binds .any e = true → e.on ≠ i) → oi.apart ops oj = true) →
      i ∈ Region.ready .any ops done → YieldsIn P ops C oi v a → headIn P ops C N L f (done.setIfInBounds i true) (a.put oi.dst v) → headIn P ops C N L (f + 1) done a := by
  induction f with
  | zero =>
    intro done a inv _ hr hy H
    refine ⟨List.ne_nil_of_mem hr, fun j hj => ?_⟩
    have hjn : j < N := Nat.lt_of_not_le fun h => hw done inv (mem_ready.1 hr).1 j h hj
    by_cases hji : j = i
    · subst hji; exact ⟨hjn, hy.qOp hi H⟩
    · exact absurd hjn (Nat.not_lt_of_le (hend _ _ H j (ready_mono hj hji)))
  | succ f ih =>
    intro done a inv hfree hr hy H
    have hun := (mem_ready.1 hr).1
    refine ⟨List.ne_nil_of_mem hr, fun j hj => ?_⟩
    have hjn : j < N := Nat.lt_of_not_le fun h => hw done inv hun j h hj
    refine ⟨hjn, ?_⟩
    by_cases hji : j = i
    · subst hji; exact hy.qOp hi H
    · obtain ⟨hjun, oj, hoj, hall⟩ := mem_ready.1 hj
      have hnot : ∀ e ∈ oj.after, Region.binds .any e = true → e.on ≠ i := fun e he hb heq => by
        have := hall e he hb
        rw [heq, getD_both hun] at this
        cases this
      refine qOp_mono (fun a' h3 => ih _ a' (inv.set hj hjn) (fun k ok hk hki hun' hno => hfree k ok hk hki ?_ hno) (ready_mono hr (Ne.symm hji)) h3.1 (by rw [Array.setIfInBounds_comm _ _ hji]; exact h3.2))
        (qOp_put hoj (hfree j oj hoj hji hjun hnot) (fun cs b => hsel i oi cs b hi) (fun cs b => hsel j oj cs b hoj) hy (H.2 j (ready_mono hj hji)).2)
      by_cases hjk : j = k
      · subst hjk; exact hjun
      · rw [getD_set_ne true hjk] at hun'; exact hun'

theorem headIn_lex1 {N g : Nat} {Lq : Act → Prop} (hsel : Region.noSelect ops = true) :
    ∀ (l : List Oper) (k : Nat) (done : Array Bool) (a : Act), (∀ i, k ≤ i → i < N → ∀ dn, HeadInv .any ops N dn → dn.getD i true = false → ∀ t, N ≤ t → t ∉ Region.ready .any ops dn) → (∀ j, j < l.length → l[j]? = ops[k + j]?) → k + l.length = N → HeadInv .any ops N done → Region.lexHead .any ops g l.length k done = true → wpQuiet P ops C Lq l a →
    headIn P ops C N (fun done' a' => Region.seqB .any ops g N done' = true ∧ Lq a') l.length done a
  | [], k, done, a, _, _, hk, _, hB, h => by
    obtain rfl : k = N := by simpa using hk
    exact ⟨by simpa [Region.lexHead] using hB, h⟩
  | o :: l, k, done, a, hw, hl, hk, inv, hB, h => by
    have h0 : ops[k]? = some o := by simpa using (hl 0 (by simp)).symm
    simp only [List.length_cons, Region.lexHead, Bool.and_eq_true] at hB hk
    have hkn : k < N := by omega
    have hr : k ∈ Region.ready .any ops done := by simpa using hB.1.1
    have hst : qOp P ops C k (wpQuiet P ops C Lq l) a := by unfold qOp; simp only [h0]; exact h
    obtain ⟨v, hy, hK⟩ := yieldsIn_of_qOp h0 hst
    refine headIn_first1 h0 (Region.noSelect_spec hsel) (hw k (Nat.le_refl _) hkn) (fun _ _ hL => seqB_ready hL.1) l.length done a inv (Region.free_spec h0 hB.1.2) hr hy ?_
    exact headIn_lex1 hsel l (k + 1) _ _ (fun i hi => hw i (by omega)) (fun j hj => by have := hl (j + 1) (by simp; omega); simpa [Nat.add_assoc, Nat.add_comm 1 j] using this) (by omega) (inv.set hr hkn) hB.2 hK
end

/-- The form of such a region: N operations ahead of the forced tail, the first of them a move that none of the others touches. -/
def appB (ops : Array Oper) (N : Nat) : Bool :=
  Region.noSelect ops && decide (0 < N) && decide (N < ops.size) && sinkFrom1 ops N && Region.chainB .any ops N && (Region.ready .any ops (Array.replicate ops.size false)).contains 0 && Region.free .any ops (Array.replicate ops.size false) 0 && Region.lexHead .any ops (ops.size - N) (N - 1) 1 ((Array.replicate ops.size false).setIfInBounds 0 true)

theorem wp_region_app1 {P : Program} {id : Nat} {Q : Exit → Act → World → Prop} {a : Act} {w : World} {o : Oper} {x : Operand} {l : List Oper} (N : Nat) (hm : P.follows .mixedOrders = true) (ho : o.op = .move x) (hg : o.guard = none) (hB : appB (o :: l).toArray N = true)
    (h : wpQuiet P (o :: l).toArray (fun w' => ∃ k : Kept w, w' = k.u) (fun a' => ∀ w', (∃ k : Kept w, w' = k.u) → wpList P (o :: l).toArray (NoPanic Q) (l.drop (N - 1)) a' w') (l.take (N - 1)) (a.put o.dst (a.eval x))) : (Code.region id (o :: l).toArray true).wp P Q a w := by
  simp only [appB, Bool.and_eq_true, decide_eq_true_eq] at hB
  obtain ⟨⟨⟨⟨⟨⟨⟨hsel, h0n⟩, hn⟩, hs⟩, hc⟩, hr0⟩, hf0⟩, hlex⟩ := hB
  refine wp_region_noPanic (wp_region_any hm ?_)
  have hn' : N < l.length + 1 := by simpa using hn
  have htl : (l.take (N - 1)).length = N - 1 := by simp; omega
  have hdl : (l.drop (N - 1)).length = (o :: l).toArray.size - N := by simp; omega
  have inv0 : HeadInv .any (o :: l).toArray N (Array.replicate (o :: l).toArray.size false) :=
    ⟨by simp, fun j oj _ hl => (by rw [getD_replicate_false] at hl; cases hl), fun t _ ht => getD_in (by simpa using ht) (getD_replicate_false _ _)⟩
  have hr : 0 ∈ Region.ready .any (o :: l).toArray (Array.replicate (o :: l).toArray.size false) := by simpa using hr0
  have H := headIn_lex1 (N := N) (g := (o :: l).toArray.size - N) hsel (l.take (N - 1)) 1 _ (a.put o.dst (a.eval x)) (fun i hi1 hiN dn inv hun => waits1 hs hc inv (N - i) i (Nat.le_refl _) hi1 hiN hun) (fun j hj => by
    have hj' : j < N - 1 := by rw [htl] at hj; exact hj
    rw [Nat.add_comm 1 j]
    simp [hj']) (by omega) (inv0.set hr h0n) (by rw [htl]; exact hlex) h
  have T := headIn_wp (Q := NoPanic Q) (g := (o :: l).toArray.size - N) (fun done a' w' hw' hL => by
    have := wpAny_of_seq (md := .any) (Q' := NoPanic Q) (l.drop (N - 1)) N done a' w' (fun j => by rw [List.getElem?_drop]; rw [show N + j = (N - 1 + j) + 1 by omega]; simp) (by rw [hdl]; exact hL.1) (hL.2 w' hw')
    rwa [hdl] at this) _ _ _ { w with drawn := w.drawn + 1 } ⟨⟨_, (Below.refl _ _).drew⟩, rfl⟩ H
  rw [htl] at T
  have hsz : (o :: l).toArray.size = (N - 1 + ((o :: l).toArray.size - N)) + 1 := by omega
  have F := wpAny_first (P := P) (md := .any) (ops := (o :: l).toArray) (Q := NoPanic Q) (i := 0) (oi := o) (v := a.eval x) (by simp) (Region.noSelect_spec hsel) (fun c a' w' hh => hh) _ _ a { w with drawn := w.drawn + 1 } (Region.free_spec (by simp) hf0) hr
    (.inl ⟨by simp [Region.wanted, hg], fun w' => by unfold execOp; rw [ho]; rfl⟩) T
  rw [← hsz] at F
  exact F
/-- The same, the first operation walked with the others: 'take N', then 'drop N'. -/
theorem wp_region_app {P : Program} {id : Nat} {Q : Exit → Act → World → Prop} {a : Act} {w : World} {o : Oper} {x : Operand} {l : List Oper} (n : Nat) (hm : P.follows .mixedOrders = true) (ho : o.op = .move x) (hg : o.guard = none) (hB : appB (o :: l).toArray (n + 1) = true)
    (h : wpQuiet P (o :: l).toArray (fun w' => ∃ k : Kept w, w' = k.u) (fun a' => ∀ w', (∃ k : Kept w, w' = k.u) → wpList P (o :: l).toArray (NoPanic Q) (l.drop n) a' w') (o :: l.take n) a) : (Code.region id (o :: l).toArray true).wp P Q a w := by
  refine wp_region_app1 (n + 1) hm ho hg hB ?_
  have hw : Region.wanted o (yielded (o :: l).toArray a.tmps) = true := by simp [Region.wanted, hg]
  unfold wpQuiet at h
  rw [if_pos hw] at h
  obtain ⟨v, h1, h2⟩ := h
  have h3 := h1 w ⟨⟨w, Below.refl _ _⟩, rfl⟩
  have h4 : (execOp a.eval o).run P w = .ok (.value (a.eval x)) w := by unfold execOp; rw [ho]; rfl
  unfold Oper.quietAt at h3
  rw [h4] at h3
  obtain ⟨_, rfl⟩ := h3
  exact h2
end Go.Proofs.Ytppkipcgpmijpaa
