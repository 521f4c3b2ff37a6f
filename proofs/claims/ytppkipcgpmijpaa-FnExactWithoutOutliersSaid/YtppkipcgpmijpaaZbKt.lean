/- Several of my texts in one: Kept, KTail, KTw, KTr8. -/
import Derived.Test.YtppkipcgpmijpaaZbArm
import Derived.Deep.Quiet
import Derived.BigQuiet
import Derived.StillTail
import Derived.OrdersIn
import Derived.TacticsIn
import Derived.RangeFuncCalls
namespace Go.Proofs.Ytppkipcgpmijpaa
set_option maxRecDepth 100000
open Go.RowKit

/-- A world in which all that lay in w lies as it lay. -/
structure Kept (w : World) where
  u : World
  b : Below w.heap.size w u
instance (w : World) : Nonempty (Kept w) := ⟨⟨w, Below.refl _ _⟩⟩
theorem wp_region_kept {P : Program} {id : Nat} {Q : Exit → Act → World → Prop} {a : Act} {w : World} {l : List Oper} (hm : P.follows .mixedOrders = true) (hB : Region.lexB .any l.toArray = true)
    (h : wpQuiet P l.toArray (fun w' => ∃ n : Kept w, w' = n.u) (fun a' => ∀ w', (∃ n : Kept w, w' = n.u) → Q .normal a' w') l a) : (Code.region id l.toArray true).wp P Q a w :=
  wp_region_quiet (C := fun w' => ∃ n : Kept w, w' = n.u) hm hB ⟨⟨_, (Below.refl _ _).drew⟩, rfl⟩ (by simpa using h)
theorem keptCall {P : Program} {f : FuncId} {args : Array Value} {w : World} {n : Kept w} {v : Value} (h : Calls P f args n.u fun e w' => e = .returned v ∧ Below n.u.heap.size n.u w') :
    Calls P f args n.u fun e w'' => e = .returned v ∧ ∃ m : Kept w, w'' = m.u :=
  h.mono fun _ w' ⟨he, hb⟩ => ⟨he, ⟨w', below_call n.b hb⟩, rfl⟩
theorem keptSame {P : Program} {f : FuncId} {args : Array Value} {w : World} {n : Kept w} {v : Value} (h : Calls P f args n.u fun e w' => e = .returned v ∧ n.u = w') :
    Calls P f args n.u fun e w'' => e = .returned v ∧ ∃ m : Kept w, w'' = m.u :=
  h.mono fun _ _ ⟨he, hb⟩ => ⟨he, n, hb.symm⟩
theorem keptCell {w : World} {b o : Nat} {x : Value} (hb : b < w.heap.size) (h : w.cell? ⟨b, o, none⟩ = some x) : ∀ n : Kept w, n.u.cell? ⟨b, o, none⟩ = some x :=
  fun n => (n.b.cell (p := ⟨b, o, none⟩) hb).trans h
theorem AtA.kepts {w : World} {b : Nat} {x y z : Value} (h : AtA w b x y z) : (∀ n : Kept w, n.u.cell? ⟨b, 0, none⟩ = some x) ∧ (∀ n : Kept w, n.u.cell? ⟨b, 1, none⟩ = some y) ∧ (∀ n : Kept w, n.u.cell? ⟨b, 2, none⟩ = some z) :=
  ⟨keptCell h.lt h.c0, keptCell h.lt h.c1, keptCell h.lt h.c2⟩
theorem AtP.kepts {w : World} {b : Nat} {x y : Int} (h : AtP w b x y) : (∀ n : Kept w, n.u.cell? ⟨b, 0, none⟩ = some (.int .i64 x)) ∧ (∀ n : Kept w, n.u.cell? ⟨b, 1, none⟩ = some (.int .i64 y)) :=
  ⟨keptCell h.lt h.c0, keptCell h.lt h.c1⟩
end Go.Proofs.Ytppkipcgpmijpaa
namespace Go.Proofs.Ytppkipcgpmijpaa
set_option maxRecDepth 100000
open Go.RowKit
section
variable {P : Program} {ops : Array Oper} {C : World → Prop} {n : Nat}

/-- f operations of the head are still to come, in whatever order; then L. -/
def headIn (P : Program) (ops : Array Oper) (C : World → Prop) (N : Nat) (L : Array Bool → Act → Prop) : Nat → Array Bool → Act → Prop
  | 0, done, a => L done a
  | f + 1, done, a => Region.ready .any ops done ≠ [] ∧ ∀ i, i ∈ Region.ready .any ops done → i < N ∧ qOp P ops C i (headIn P ops C N L f (done.setIfInBounds i true)) a

theorem quiet_wide {o : Oper} {a : Act} {K : Act → Prop} {K' : Act → World → Prop} {Q : Exit → Act → World → Prop} {w : World} (hw : C w) (h : ∀ a w', C w' → K a → K' a w') (hh : o.quiet P a C K) : o.wpIn Fence.wide n P a w K' Q := by
  obtain ⟨v, h1, h2⟩ := hh
  have h3 := h1 w hw
  refine ⟨fun _ _ => trivial, ?_⟩
  show o.uponIn Fence.wide n P a K' Q ((o.semAt none a.eval).run P w)
  rw [Oper.semAt_none]
  unfold Oper.quietAt at h3
  revert h3
  cases (execOp a.eval o).run P w with
  | halt x w' => intro h3; simp only [Oper.quietUpon] at h3
  | ok x w' =>
    cases x with
    | value u => rintro ⟨rfl, rfl⟩; exact h _ _ hw h2
    | skip => rintro ⟨rfl, rfl⟩; exact h _ _ hw h2
    | enter f args =>
      rintro ⟨rfl, hc⟩
      refine ⟨(by intro k; cases k), callsIn_wide.2 (hc.mono ?_)⟩
      rintro e w'' ⟨rfl, hw''⟩
      exact h _ _ hw'' h2
    | _ => intro h3; simp only [Oper.quietUpon] at h3

theorem qOp_wide {i : Nat} {a : Act} {K : Act → Prop} {K' : Act → World → Prop} {Q : Exit → Act → World → Prop} {w : World} (hw : C w) (h : ∀ a w', C w' → K a → K' a w') (hh : qOp P ops C i K a) : wpOpIn Fence.wide n P ops Q i K' a w := by
  unfold qOp at hh
  unfold wpOpIn
  cases ho : ops[i]? with
  | none => rw [ho] at hh; exact h _ _ hw hh
  | some o =>
    rw [ho] at hh
    by_cases hg : Region.wanted o (yielded ops a.tmps) = true
    · simp only [hg, if_true] at hh ⊢; exact quiet_wide hw h hh
    · simp only [hg, Bool.false_eq_true, if_false] at hh ⊢; exact ⟨fun _ _ => trivial, h _ _ hw hh⟩

theorem headIn_any {N g : Nat} {L : Array Bool → Act → Prop} {Q : Exit → Act → World → Prop} (hL : ∀ done a w, C w → L done a → wpAnyIn Fence.wide n P .any ops Q g done a w) :
    ∀ (f : Nat) (done : Array Bool) (a : Act) (w : World), C w → headIn P ops C N L f done a → wpAnyIn Fence.wide n P .any ops Q (f + g) done a w
  | 0, done, a, w, hw, h => by rw [Nat.zero_add]; exact hL _ _ _ hw h
  | f + 1, done, a, w, hw, h => by
    rw [show f + 1 + g = (f + g) + 1 by omega]
    exact ⟨fun h0 => absurd h0 h.1, fun i hi => qOp_wide hw (fun a' w' hw' hk => headIn_any hL f _ a' w' hw' hk) (h.2 i hi).2⟩

/-- An operation of the head that may come up now may be taken first. -/
theorem headIn_first {N i : Nat} {oi : Oper} {v : Value} {L : Array Bool → Act → Prop} (hi : ops[i]? = some oi) (hsel : ∀ (j : Nat) (o : Oper) cs b, ops[j]? = some o → o.op ≠ .select cs b)
    (hs : Region.sinkB .any ops N = true) (hc : Region.chainB .any ops N = true) (hn : N < ops.size) (hin : i < N) (hend : ∀ done a, L done a → ∀ j ∈ Region.ready .any ops done, N ≤ j) (f : Nat) :
    ∀ (done : Array Bool) (a : Act), HeadInv .any ops N done →
      (∀ j oj, ops[j]? = some oj → j ≠ i → done.getD j true = false → (∀ e ∈ oj.after, Region.binds .any e = true → e.on ≠ i) → oi.apart ops oj = true) →
      i ∈ Region.ready .any ops done → YieldsIn P ops C oi v a → headIn P ops C N L f (done.setIfInBounds i true) (a.put oi.dst v) → headIn P ops C N L (f + 1) done a := by
  induction f with
  | zero =>
    intro done a inv _ hr hy H
    have hun := (mem_ready.1 hr).1
    refine ⟨List.ne_nil_of_mem hr, fun j hj => ?_⟩
    have hjn : j < N := Nat.lt_of_not_le fun h => tail_waits hs hc hn inv _ i rfl hin hun j h hj
    by_cases hji : j = i
    · subst hji; exact ⟨hjn, hy.qOp hi H⟩
    · exact absurd hjn (Nat.not_lt_of_le (hend _ _ H j (ready_mono hj hji)))
  | succ f ih =>
    intro done a inv hfree hr hy H
    have hun := (mem_ready.1 hr).1
    refine ⟨List.ne_nil_of_mem hr, fun j hj => ?_⟩
    have hjn : j < N := Nat.lt_of_not_le fun h => tail_waits hs hc hn inv _ i rfl hin hun j h hj
    refine ⟨hjn, ?_⟩
    by_cases hji : j = i
    · subst hji; exact hy.qOp hi H
    · obtain ⟨hjun, oj, hoj, hall⟩ := mem_ready.1 hj
      have hnot : ∀ e ∈ oj.after, Region.binds .any e = true → e.on ≠ i := fun e he hb heq => by
        have := hall e he hb
        rw [heq, getD_both hun] at this
        cases this
      refine qOp_mono (fun a' h3 => ih _ a' (inv.set hj hjn) (fun k ok hk hki hun' hno => hfree k ok hk hki ?_ hno) (ready_mono hr (Ne.symm hji)) h3.1 (by rw [Array.setIfInBounds_comm _ _ hji]; exact h3.2))
        (qOp_put hoj (hfree j oj hoj hji hjun hnot) (fun cs b => hsel i oi cs b hi) (fun cs b => hsel j oj cs b hoj) hy (H.2 j (ready_mono hj hji)).2)
      by_cases hjk : j = k
      · subst hjk; exact hjun
      · rw [getD_set_ne true hjk] at hun'; exact hun'

theorem headIn_lex {N g : Nat} {Lq : Act → Prop} (hsel : Region.noSelect ops = true) (hs : Region.sinkB .any ops N = true) (hc : Region.chainB .any ops N = true) (hn : N < ops.size) :
    ∀ (l : List Oper) (k : Nat) (done : Array Bool) (a : Act), (∀ j, j < l.length → l[j]? = ops[k + j]?) → k + l.length = N → HeadInv .any ops N done → Region.lexHead .any ops g l.length k done = true → wpQuiet P ops C Lq l a →
    headIn P ops C N (fun done' a' => Region.seqB .any ops g N done' = true ∧ Lq a') l.length done a
  | [], k, done, a, _, hk, _, hB, h => by
    obtain rfl : k = N := by simpa using hk
    exact ⟨by simpa [Region.lexHead] using hB, h⟩
  | o :: l, k, done, a, hl, hk, inv, hB, h => by
    have h0 : ops[k]? = some o := by simpa using (hl 0 (by simp)).symm
    simp only [List.length_cons, Region.lexHead, Bool.and_eq_true] at hB hk
    have hkn : k < N := by omega
    have hr : k ∈ Region.ready .any ops done := by simpa using hB.1.1
    have hst : qOp P ops C k (wpQuiet P ops C Lq l) a := by unfold qOp; simp only [h0]; exact h
    obtain ⟨v, hy, hK⟩ := yieldsIn_of_qOp h0 hst
    refine headIn_first h0 (Region.noSelect_spec hsel) hs hc hn hkn (fun _ _ hL => seqB_ready hL.1) l.length done a inv (Region.free_spec h0 hB.1.2) hr hy ?_
    exact headIn_lex hsel hs hc hn l (k + 1) _ _ (fun j hj => by have := hl (j + 1) (by simp; omega); simpa [Nat.add_assoc, Nat.add_comm 1 j] using this) (by omega) (inv.set hr hkn) hB.2 hK

theorem tailIn_any {Q : Exit → Act → World → Prop} : ∀ (l : List Oper) (k : Nat) (done : Array Bool) (a : Act) (w : World), (∀ j, l[j]? = ops[k + j]?) → Region.seqB .any ops l.length k done = true →
    wpListIn Fence.wide n P ops Q l a w → wpAnyIn Fence.wide n P .any ops Q l.length done a w
  | [], _, _, _, _, _, hB, h => ⟨by simpa [Region.seqB] using hB, h⟩
  | o :: l, k, done, a, w, hl, hB, h => by
    have h0 : ops[k]? = some o := by simpa using (hl 0).symm
    simp only [List.length_cons, Region.seqB, Bool.and_eq_true, decide_eq_true_eq] at hB
    refine ⟨fun h1 => (by rw [hB.1] at h1; cases h1), fun i hi => ?_⟩
    rw [hB.1] at hi
    obtain rfl : i = k := by simpa using hi
    have hw : wpOpIn Fence.wide n P ops Q i (wpListIn Fence.wide n P ops Q l) a w := by unfold wpOpIn; simp only [h0]; exact h
    exact wpOpIn_mono (fun a' w' h' => tailIn_any l (i + 1) _ a' w' (fun j => by have := hl (j + 1); simpa [Nat.add_assoc, Nat.add_comm 1 j] using this) hB.2 h') hw
end

theorem wpIn_region_tail {P : Program} {n id : Nat} {Q : Exit → Act → World → Prop} {a : Act} {w : World} {l : List Oper} (N : Nat) (hm : P.follows .mixedOrders = true) (hB : Region.lexTailB .any l.toArray N = true)
    (h : wpQuiet P l.toArray (fun w' => ∃ k : Kept w, w' = k.u) (fun a' => ∀ w', (∃ k : Kept w, w' = k.u) → wpListIn Fence.wide n P l.toArray Q (l.drop N) a' w') (l.take N) a) : (Code.region id l.toArray true).wpIn Fence.wide n P Q a w := by
  simp only [Region.lexTailB, Bool.and_eq_true, decide_eq_true_eq] at hB
  obtain ⟨⟨⟨⟨hsel, hn⟩, hs⟩, hc⟩, hlex⟩ := hB
  have hn' : N < l.length := by simpa using hn
  have htl : (l.take N).length = N := by simp; omega
  have hdl : (l.drop N).length = l.toArray.size - N := by simp
  have inv0 : HeadInv .any l.toArray N (Array.replicate l.toArray.size false) :=
    ⟨by simp, fun j oj _ hl => (by rw [getD_replicate_false] at hl; cases hl), fun t _ ht => getD_in (by simpa using ht) (getD_replicate_false _ _)⟩
  have H := headIn_lex (g := l.toArray.size - N) hsel hs hc hn (l.take N) 0 _ a (fun j hj => by
    have hj' : j < N := by rw [htl] at hj; exact hj
    simp [hj']) (by simpa using htl) inv0 (by rw [htl]; exact hlex) h
  have T := headIn_any (n := n) (Q := Q) (g := l.toArray.size - N) (fun done a' w' hw' hL => by
    have := tailIn_any (n := n) (Q := Q) (l.drop N) N done a' w' (fun j => by simp [List.getElem?_drop]) (by rw [hdl]; exact hL.1) (hL.2 w' hw')
    rwa [hdl] at this) _ _ _ { w with drawn := w.drawn + 1 } ⟨⟨_, (Below.refl _ _).drew⟩, rfl⟩ H
  rw [htl, show N + (l.toArray.size - N) = l.toArray.size by omega] at T
  exact wpIn_region_any hm T
end Go.Proofs.Ytppkipcgpmijpaa
namespace Go.Proofs.Ytppkipcgpmijpaa
set_option maxRecDepth 100000
open Go.RowKit
section
variable {P : Program} {ops : Array Oper} {C : World → Prop}
theorem headIn_wp {N g : Nat} {L : Array Bool → Act → Prop} {Q : Exit → Act → World → Prop} (hL : ∀ done a w, C w → L done a → wpAny P .any ops Q g done a w) :
    ∀ (f : Nat) (done : Array Bool) (a : Act) (w : World), C w → headIn P ops C N L f done a → wpAny P .any ops Q (f + g) done a w
  | 0, done, a, w, hw, h => by rw [Nat.zero_add]; exact hL _ _ _ hw h
  | f + 1, done, a, w, hw, h => by
    rw [show f + 1 + g = (f + g) + 1 by omega]
    exact ⟨fun h0 => absurd h0 h.1, fun i hi => wpOp_of_qOp hw (fun a' w' hw' hk => headIn_wp hL f _ a' w' hw' hk) (h.2 i hi).2⟩
end
/-- The head is walked once, over every world that keeps what lay; then the tail, in whatever such world. -/
theorem wp_region_ktail {P : Program} {id : Nat} {Q : Exit → Act → World → Prop} {a : Act} {w : World} {l : List Oper} (N : Nat) (hm : P.follows .mixedOrders = true) (hB : Region.lexTailB .any l.toArray N = true)
    (h : wpQuiet P l.toArray (fun w' => ∃ k : Kept w, w' = k.u) (fun a' => ∀ w', (∃ k : Kept w, w' = k.u) → wpList P l.toArray Q (l.drop N) a' w') (l.take N) a) : (Code.region id l.toArray true).wp P Q a w := by
  simp only [Region.lexTailB, Bool.and_eq_true, decide_eq_true_eq] at hB
  obtain ⟨⟨⟨⟨hsel, hn⟩, hs⟩, hc⟩, hlex⟩ := hB
  have hn' : N < l.length := by simpa using hn
  have htl : (l.take N).length = N := by simp; omega
  have hdl : (l.drop N).length = l.toArray.size - N := by simp
  have inv0 : HeadInv .any l.toArray N (Array.replicate l.toArray.size false) :=
    ⟨by simp, fun j oj _ hl => (by rw [getD_replicate_false] at hl; cases hl), fun t _ ht => getD_in (by simpa using ht) (getD_replicate_false _ _)⟩
  have H := headIn_lex (g := l.toArray.size - N) hsel hs hc hn (l.take N) 0 _ a (fun j hj => by
    have hj' : j < N := by rw [htl] at hj; exact hj
    simp [hj']) (by simpa using htl) inv0 (by rw [htl]; exact hlex) h
  have T := headIn_wp (Q := Q) (g := l.toArray.size - N) (fun done a' w' hw' hL => by
    have := wpAny_of_seq (md := .any) (Q' := Q) (l.drop N) N done a' w' (fun j => by simp [List.getElem?_drop]) (by rw [hdl]; exact hL.1) (hL.2 w' hw')
    rwa [hdl] at this) _ _ _ { w with drawn := w.drawn + 1 } ⟨⟨_, (Below.refl _ _).drew⟩, rfl⟩ H
  rw [htl, show N + (l.toArray.size - N) = l.toArray.size by omega] at T
  exact wp_region_any hm T
end Go.Proofs.Ytppkipcgpmijpaa
namespace Go.Proofs.Ytppkipcgpmijpaa
set_option maxRecDepth 100000
open Go.RowKit
section
variable {P : Program} {ops : Array Oper} {C : World → Prop} {n r : Nat}
theorem quiet_wideR {o : Oper} {a : Act} {K : Act → Prop} {K' : Act → World → Prop} {Q : Exit → Act → World → Prop} {w : World} (hd : ∀ c, o.op ≠ .defer c) (hw : C w) (h : ∀ a w', C w' → K a → K' a w') (hh : o.quiet P a C K) : o.wpIn (Fence.wide.inRound r) n P a w K' Q := by
  obtain ⟨v, h1, h2⟩ := hh
  have h3 := h1 w hw
  refine ⟨fun _ _ => trivial, ?_⟩
  show o.uponIn (Fence.wide.inRound r) n P a K' Q ((o.semAt (some r) a.eval).run P w)
  rw [Oper.semAt_eq _ _ _ hd]
  unfold Oper.quietAt at h3
  revert h3
  cases (execOp a.eval o).run P w with
  | halt x w' => intro h3; simp only [Oper.quietUpon] at h3
  | ok x w' =>
    cases x with
    | value u => rintro ⟨rfl, rfl⟩; exact h _ _ hw h2
    | skip => rintro ⟨rfl, rfl⟩; exact h _ _ hw h2
    | enter f args =>
      rintro ⟨rfl, hc⟩
      refine ⟨(by intro k; cases k), CallsIn.inRound r (callsIn_wide.2 (hc.mono ?_))⟩
      rintro e w'' ⟨rfl, hw''⟩
      exact h _ _ hw'' h2
    | _ => intro h3; simp only [Oper.quietUpon] at h3

theorem qOp_wideR {i : Nat} {a : Act} {K : Act → Prop} {K' : Act → World → Prop} {Q : Exit → Act → World → Prop} {w : World} (hd : ∀ o, ops[i]? = some o → ∀ c, o.op ≠ .defer c) (hw : C w) (h : ∀ a w', C w' → K a → K' a w') (hh : qOp P ops C i K a) : wpOpIn (Fence.wide.inRound r) n P ops Q i K' a w := by
  unfold qOp at hh
  unfold wpOpIn
  cases ho : ops[i]? with
  | none => rw [ho] at hh; exact h _ _ hw hh
  | some o =>
    rw [ho] at hh
    by_cases hg : Region.wanted o (yielded ops a.tmps) = true
    · simp only [hg, if_true] at hh ⊢; exact quiet_wideR (hd o ho) hw h hh
    · simp only [hg, Bool.false_eq_true, if_false] at hh ⊢; exact ⟨fun _ _ => trivial, h _ _ hw hh⟩

theorem headIn_anyR {N g : Nat} {L : Array Bool → Act → Prop} {Q : Exit → Act → World → Prop} (hd : ∀ (i : Nat) (o : Oper), ops[i]? = some o → ∀ c, o.op ≠ .defer c) (hL : ∀ done a w, C w → L done a → wpAnyIn (Fence.wide.inRound r) n P .any ops Q g done a w) :
    ∀ (f : Nat) (done : Array Bool) (a : Act) (w : World), C w → headIn P ops C N L f done a → wpAnyIn (Fence.wide.inRound r) n P .any ops Q (f + g) done a w
  | 0, done, a, w, hw, h => by rw [Nat.zero_add]; exact hL _ _ _ hw h
  | f + 1, done, a, w, hw, h => by
    rw [show f + 1 + g = (f + g) + 1 by omega]
    exact ⟨fun h0 => absurd h0 h.1, fun i hi => qOp_wideR (hd i) hw (fun a' w' hw' hk => headIn_anyR hd hL f _ a' w' hw' hk) (h.2 i hi).2⟩

theorem tailIn_anyR {Q : Exit → Act → World → Prop} : ∀ (l : List Oper) (k : Nat) (done : Array Bool) (a : Act) (w : World), (∀ j, l[j]? = ops[k + j]?) → Region.seqB .any ops l.length k done = true →
    wpListIn (Fence.wide.inRound r) n P ops Q l a w → wpAnyIn (Fence.wide.inRound r) n P .any ops Q l.length done a w
  | [], _, _, _, _, _, hB, h => ⟨by simpa [Region.seqB] using hB, h⟩
  | o :: l, k, done, a, w, hl, hB, h => by
    have h0 : ops[k]? = some o := by simpa using (hl 0).symm
    simp only [List.length_cons, Region.seqB, Bool.and_eq_true, decide_eq_true_eq] at hB
    refine ⟨fun h1 => (by rw [hB.1] at h1; cases h1), fun i hi => ?_⟩
    rw [hB.1] at hi
    obtain rfl : i = k := by simpa using hi
    have hw : wpOpIn (Fence.wide.inRound r) n P ops Q i (wpListIn (Fence.wide.inRound r) n P ops Q l) a w := by unfold wpOpIn; simp only [h0]; exact h
    exact wpOpIn_mono (fun a' w' h' => tailIn_anyR l (i + 1) _ a' w' (fun j => by have := hl (j + 1); simpa [Nat.add_assoc, Nat.add_comm 1 j] using this) hB.2 h') hw
end

theorem wpIn_region_tailR {P : Program} {n id r : Nat} {Q : Exit → Act → World → Prop} {a : Act} {w : World} {l : List Oper} (N : Nat) (hm : P.follows .mixedOrders = true) (hB : Region.lexTailB .any l.toArray N = true) (hd : (l.all fun o => match o.op with | .defer _ => false | _ => true) = true)
    (h : wpQuiet P l.toArray (fun w' => ∃ k : Kept w, w' = k.u) (fun a' => ∀ w', (∃ k : Kept w, w' = k.u) → wpListIn (Fence.wide.inRound r) n P l.toArray Q (l.drop N) a' w') (l.take N) a) : (Code.region id l.toArray true).wpIn (Fence.wide.inRound r) n P Q a w := by
  simp only [Region.lexTailB, Bool.and_eq_true, decide_eq_true_eq] at hB
  obtain ⟨⟨⟨⟨hsel, hn⟩, hs⟩, hc⟩, hlex⟩ := hB
  have hn' : N < l.length := by simpa using hn
  have htl : (l.take N).length = N := by simp; omega
  have hdl : (l.drop N).length = l.toArray.size - N := by simp
  have inv0 : HeadInv .any l.toArray N (Array.replicate l.toArray.size false) :=
    ⟨by simp, fun j oj _ hl => (by rw [getD_replicate_false] at hl; cases hl), fun t _ ht => getD_in (by simpa using ht) (getD_replicate_false _ _)⟩
  have H := headIn_lex (g := l.toArray.size - N) hsel hs hc hn (l.take N) 0 _ a (fun j hj => by
    have hj' : j < N := by rw [htl] at hj; exact hj
    simp [hj']) (by simpa using htl) inv0 (by rw [htl]; exact hlex) h
  have T := headIn_anyR (n := n) (Q := Q) (g := l.toArray.size - N) (fun i o ho c hc => by
    have hm := List.all_eq_true.1 hd o (List.mem_of_getElem? (by simpa using ho))
    rw [hc] at hm
    cases hm) (fun done a' w' hw' hL => by
    have := tailIn_anyR (n := n) (Q := Q) (l.drop N) N done a' w' (fun j => by simp [List.getElem?_drop]) (by rw [hdl]; exact hL.1) (hL.2 w' hw')
    rwa [hdl] at this) _ _ _ { w with drawn := w.drawn + 1 } ⟨⟨_, (Below.refl _ _).drew⟩, rfl⟩ H
  rw [htl, show N + (l.toArray.size - N) = l.toArray.size by omega] at T
  exact wpIn_region_any hm T
end Go.Proofs.Ytppkipcgpmijpaa
