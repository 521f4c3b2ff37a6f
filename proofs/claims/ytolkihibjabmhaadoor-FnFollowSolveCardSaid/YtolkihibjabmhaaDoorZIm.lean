/- Several of my texts in one: KTail, Im7, Im8, Im6b, Im9, Im10. -/
import Derived.Test.YtolkihibjabmhaaDoorKept
import Derived.StillTail
import Derived.OrdersIn
import Derived.TacticsIn
import Derived.Test.YtolkihibjabmhaaDoorIm6
import Derived.Deep.RegionHeld3
import Derived.ChangeKeysEq
import Derived.Test.YtolkihibjabmhaaDoorSp8
namespace Go.Proofs.YtolkihibjabmhaaDoor
set_option maxRecDepth 100000
open Go.RowKit
section
variable {P : Program} {ops : Array Oper} {C : World → Prop} {n : Nat}

/-- f operations of the head are still to come, in whatever order; then L. -/
def headIn (P : Program) (ops : Array Oper) (C : World → Prop) (N : Nat) (L : Array Bool → Act → Prop) : Nat → Array Bool → Act → Prop
  | 0, done, a => L done a
  | f + 1, done, a => Region.ready .any ops done ≠ [] ∧ ∀ i, i ∈ Region.ready .any ops done → i < N ∧ qOp P ops C i (headIn P ops C N L f (done.setIfInBounds i true)) a

theorem quiet_wide {o : Oper} {a : Act} {K : Act → Prop} {K' : Act → World → Prop} {Q : Exit → Act → World → Prop} {w : World} (hw : C w) (h : ∀ a w', C w' → K a → K' a w') (hh : o.quiet P a C K) : o.wpIn Fence.wide n P a w K' Q := by
  obtain ⟨v, h1, h2⟩ := hh
  have h3 := h1 w hw
  refine ⟨fun _ _ => trivial, ?_⟩
  show o.uponIn Fence.wide n P a K' Q ((o.semAt none a.eval).run P w)
  rw [Oper.semAt_none]
  unfold Oper.quietAt at h3
  revert h3
  cases (execOp a.eval o).run P w with
  | halt x w' => intro h3; simp only [Oper.quietUpon] at h3
  | ok x w' =>
    cases x with
    | value u => rintro ⟨rfl, rfl⟩; exact h _ _ hw h2
    | skip => rintro ⟨rfl, rfl⟩; exact h _ _ hw h2
    | enter f args =>
      rintro ⟨rfl, hc⟩
      refine ⟨(by intro k; cases k), callsIn_wide.2 (hc.mono ?_)⟩
      rintro e w'' ⟨rfl, hw''⟩
      exact h _ _ hw'' h2
    | _ => intro h3; simp only [Oper.quietUpon] at h3

theorem qOp_wide {i : Nat} {a : Act} {K : Act → Prop} {K' : Act → World → Prop} {Q : Exit → Act → World → Prop} {w : World} (hw : C w) (h : ∀ a w', C w' → K a → K' a w') (hh : qOp P ops C i K a) : wpOpIn Fence.wide n P ops Q i K' a w := by
  unfold qOp at hh
  unfold wpOpIn
  cases ho : ops[i]? with
  | none => rw [ho] at hh; exact h _ _ hw hh
  | some o =>
    rw [ho] at hh
    by_cases hg : Region.wanted o (yielded ops a.tmps) = true
    · simp only [hg, if_true] at hh ⊢; exact quiet_wide hw h hh
    · simp only [hg, Bool.false_eq_true, if_false] at hh ⊢; exact ⟨fun _ _ => trivial, h _ _ hw hh⟩

theorem headIn_any {N g : Nat} {L : Array Bool → Act → Prop} {Q : Exit → Act → World → Prop} (hL : ∀ done a w, C w → L done a → wpAnyIn Fence.wide n P .any ops Q g done a w) :
    ∀ (f : Nat) (done : Array Bool) (a : Act) (w : World), C w → headIn P ops C N L f done a → wpAnyIn Fence.wide n P .any ops Q (f + g) done a w
  | 0, done, a, w, hw, h => by rw [Nat.zero_add]; exact hL _ _ _ hw h
  | f + 1, done, a, w, hw, h => by
    rw [show f + 1 + g = (f + g) + 1 by omega]
    exact ⟨fun h0 => absurd h0 h.1, fun i hi => qOp_wide hw (fun a' w' hw' hk => headIn_any hL f _ a' w' hw' hk) (h.2 i hi).2⟩

/-- An operation of the head that may come up now may be taken first. -/
theorem headIn_first {N i : Nat} {oi : Oper} {v : Value} {L : Array Bool → Act → Prop} (hi : ops[i]? = some oi) (hsel : ∀ (j : Nat) (o : Oper) cs b, ops[j]? = some o → o.op ≠ .select cs b)
    (hs : Region.sinkB .any ops N = true) (hc : Region.chainB .any ops N = true) (hn : N < ops.size) (hin : i < N) (hend : ∀ done a, L done a → ∀ j ∈ Region.ready .any ops done, N ≤ j) (f : Nat) :
    ∀ (done : Array Bool) (a : Act), HeadInv .any ops N done →
      (∀ j oj, ops[j]? = some oj → j ≠ i → done.getD j true = false → (∀ e ∈ oj.after, Region.binds .any e = true → e.on ≠ i) → oi.apart ops oj = true) →
      i ∈ Region.ready .any ops done → YieldsIn P ops C oi v a → headIn P ops C N L f (done.setIfInBounds i true) (a.put oi.dst v) → headIn P ops C N L (f + 1) done a := by
  induction f with
  | zero =>
    intro done a inv _ hr hy H
    have hun := (mem_ready.1 hr).1
    refine ⟨List.ne_nil_of_mem hr, fun j hj => ?_⟩
    have hjn : j < N := Nat.lt_of_not_le fun h => tail_waits hs hc hn inv _ i rfl hin hun j h hj
    by_cases hji : j = i
    · subst hji; exact ⟨hjn, hy.qOp hi H⟩
    · exact absurd hjn (Nat.not_lt_of_le (hend _ _ H j (ready_mono hj hji)))
  | succ f ih =>
    intro done a inv hfree hr hy H
    have hun := (mem_ready.1 hr).1
    refine ⟨List.ne_nil_of_mem hr, fun j hj => ?_⟩
    have hjn : j < N := Nat.lt_of_not_le fun h => tail_waits hs hc hn inv _ i rfl hin hun j h hj
    refine ⟨hjn, ?_⟩
    by_cases hji : j = i
    · subst hji; exact hy.qOp hi H
    · obtain ⟨hjun, oj, hoj, hall⟩ := mem_ready.1 hj
      have hnot : ∀ e ∈ oj.after, Region.binds .any e = true → e.on ≠ i := fun e he hb heq => by
        have := hall e he hb
        rw [heq, getD_both hun] at this
        cases this
      refine qOp_mono (fun a' h3 => ih _ a' (inv.set hj hjn) (fun k ok hk hki hun' hno => hfree k ok hk hki ?_ hno) (ready_mono hr (Ne.symm hji)) h3.1 (by rw [Array.setIfInBounds_comm _ _ hji]; exact h3.2))
        (qOp_put hoj (hfree j oj hoj hji hjun hnot) (fun cs b => hsel i oi cs b hi) (fun cs b => hsel j oj cs b hoj) hy (H.2 j (ready_mono hj hji)).2)
      by_cases hjk : j = k
      · subst hjk; exact hjun
      · rw [getD_set_ne true hjk] at hun'; exact hun'

theorem headIn_lex {N g : Nat} {Lq : Act → Prop} (hsel : Region.noSelect ops = true) (hs : Region.sinkB .any ops N = true) (hc : Region.chainB .any ops N = true) (hn : N < ops.size) :
    ∀ (l : List Oper) (k : Nat) (done : Array Bool) (a : Act), (∀ j, j < l.length → l[j]? = ops[k + j]?) → k + l.length = N → HeadInv .any ops N done → Region.lexHead .any ops g l.length k done = true → wpQuiet P ops C Lq l a →
    headIn P ops C N (fun done' a' => Region.seqB .any ops g N done' = true ∧ Lq a') l.length done a
  | [], k, done, a, _, hk, _, hB, h => by
    obtain rfl : k = N := by simpa using hk
    exact ⟨by simpa [Region.lexHead] using hB, h⟩
  | o :: l, k, done, a, hl, hk, inv, hB, h => by
    have h0 : ops[k]? = some o := by simpa using (hl 0 (by simp)).symm
    simp only [List.length_cons, Region.lexHead, Bool.and_eq_true] at hB hk
    have hkn : k < N := by omega
    have hr : k ∈ Region.ready .any ops done := by simpa using hB.1.1
    have hst : qOp P ops C k (wpQuiet P ops C Lq l) a := by unfold qOp; simp only [h0]; exact h
    obtain ⟨v, hy, hK⟩ := yieldsIn_of_qOp h0 hst
    refine headIn_first h0 (Region.noSelect_spec hsel) hs hc hn hkn (fun _ _ hL => seqB_ready hL.1) l.length done a inv (Region.free_spec h0 hB.1.2) hr hy ?_
    exact headIn_lex hsel hs hc hn l (k + 1) _ _ (fun j hj => by have := hl (j + 1) (by simp; omega); simpa [Nat.add_assoc, Nat.add_comm 1 j] using this) (by omega) (inv.set hr hkn) hB.2 hK

theorem tailIn_any {Q : Exit → Act → World → Prop} : ∀ (l : List Oper) (k : Nat) (done : Array Bool) (a : Act) (w : World), (∀ j, l[j]? = ops[k + j]?) → Region.seqB .any ops l.length k done = true →
    wpListIn Fence.wide n P ops Q l a w → wpAnyIn Fence.wide n P .any ops Q l.length done a w
  | [], _, _, _, _, _, hB, h => ⟨by simpa [Region.seqB] using hB, h⟩
  | o :: l, k, done, a, w, hl, hB, h => by
    have h0 : ops[k]? = some o := by simpa using (hl 0).symm
    simp only [List.length_cons, Region.seqB, Bool.and_eq_true, decide_eq_true_eq] at hB
    refine ⟨fun h1 => (by rw [hB.1] at h1; cases h1), fun i hi => ?_⟩
    rw [hB.1] at hi
    obtain rfl : i = k := by simpa using hi
    have hw : wpOpIn Fence.wide n P ops Q i (wpListIn Fence.wide n P ops Q l) a w := by unfold wpOpIn; simp only [h0]; exact h
    exact wpOpIn_mono (fun a' w' h' => tailIn_any l (i + 1) _ a' w' (fun j => by have := hl (j + 1); simpa [Nat.add_assoc, Nat.add_comm 1 j] using this) hB.2 h') hw
end

theorem wpIn_region_tail {P : Program} {n id : Nat} {Q : Exit → Act → World → Prop} {a : Act} {w : World} {l : List Oper} (N : Nat) (hm : P.follows .mixedOrders = true) (hB : Region.lexTailB .any l.toArray N = true)
    (h : wpQuiet P l.toArray (fun w' => ∃ k : Kept w, w' = k.u) (fun a' => ∀ w', (∃ k : Kept w, w' = k.u) → wpListIn Fence.wide n P l.toArray Q (l.drop N) a' w') (l.take N) a) : (Code.region id l.toArray true).wpIn Fence.wide n P Q a w := by
  simp only [Region.lexTailB, Bool.and_eq_true, decide_eq_true_eq] at hB
  obtain ⟨⟨⟨⟨hsel, hn⟩, hs⟩, hc⟩, hlex⟩ := hB
  have hn' : N < l.length := by simpa using hn
  have htl : (l.take N).length = N := by simp; omega
  have hdl : (l.drop N).length = l.toArray.size - N := by simp
  have inv0 : HeadInv .any l.toArray N (Array.replicate l.toArray.size false) :=
    ⟨by simp, fun j oj _ hl => (by rw [getD_replicate_false] at hl; cases hl), fun t _ ht => getD_in (by simpa using ht) (getD_replicate_false _ _)⟩
  have H := headIn_lex (g := l.toArray.size - N) hsel hs hc hn (l.take N) 0 _ a (fun j hj => by
    have hj' : j < N := by rw [htl] at hj; exact hj
    simp [hj']) (by simpa using htl) inv0 (by rw [htl]; exact hlex) h
  have T := headIn_any (n := n) (Q := Q) (g := l.toArray.size - N) (fun done a' w' hw' hL => by
    have := tailIn_any (n := n) (Q := Q) (l.drop N) N done a' w' (fun j => by simp [List.getElem?_drop]) (by rw [hdl]; exact hL.1) (hL.2 w' hw')
    rwa [hdl] at this) _ _ _ { w with drawn := w.drawn + 1 } ⟨⟨_, (Below.refl _ _).drew⟩, rfl⟩ H
  rw [htl, show N + (l.toArray.size - N) = l.toArray.size by omega] at T
  exact wpIn_region_any hm T
end Go.Proofs.YtolkihibjabmhaaDoor
namespace Go.Proofs.YtolkihibjabmhaaDoor
open Go.RowKit Go.Shelf
attribute [local go_sem] Oper.semAt_some
/-- The candidate of a pair of angles. -/
def mkC (ls : List Int) (tx ty : Int) (p : Int × Int) : Cand := ⟨p.1, p.2, 0, 0, distV ls tx ty [p.1, p.2], effN p.1 p.2 0 0 4⟩
theorem abides {β : Type} {B : Nat} {J : β → World → Prop} (h : AbidesFrom B J) {s : β} {W W' : World} (hs : J s W) (hb : Below W.heap.size W W') : J s W' :=
  h s W W' none hs ⟨hb.os, hb.tape, hb.output, hb.size, fun k hk _ => hb.block k hk⟩ (fun r e => by cases e)
theorem pair_len {k q n0 n1 : Nat} (hk : k < n0) (hq : q < n1) : k * n1 + q < n0 * n1 := by
  have h1 : (k + 1) * n1 ≤ n0 * n1 := Nat.mul_le_mul_right n1 hk
  rw [Nat.succ_mul] at h1
  omega
/-- A round's answer under one name. -/
def Said (J Jx : List Cand → World → Prop) (xs : List Cand) (B : Nat) (W : World) (b : Bool) (W' : World) : Prop := (b = true ∧ J xs W' ∧ Below B W W') ∨ (b = false ∧ Jx xs W')
theorem saidOf {F : Fence} {n : Nat} {P : Program} {l : Nat} {f : FuncId} {tmps : Array Value} {assign body : Code} {W : World} {J Jx : List Cand → World → Prop} {xs : List Cand} {B : Nat}
    (h : RoundIn F n P l f tmps assign body W fun e W' => (e = .returned (.bool true) ∧ J xs W' ∧ Below B W W') ∨ (e = .returned (.bool false) ∧ Jx xs W')) :
    RoundIn F n P l f tmps assign body W fun e W' => ∃ b : Bool, e = .returned (.bool b) ∧ Hid (Said J Jx xs B W b W') :=
  h.mono fun e W' hh => by
    rcases hh with ⟨rfl, h1, h2⟩ | ⟨rfl, h1⟩
    · exact ⟨true, rfl, Lib.hid (.inl ⟨rfl, h1, h2⟩)⟩
    · exact ⟨false, rfl, Lib.hid (.inr ⟨rfl, h1⟩)⟩
/-- What the iterator over the pairs reads: the search and the links. -/
structure PairsAt (w : World) (Bn b cap : Nat) (tx ty o0 h0 o1 h1 : Int) : Prop where
  ltn : Bn < w.heap.size
  ltb : b < w.heap.size
  s0 : w.cell? ⟨Bn, 0, none⟩ = some (.slice (some ⟨b, 0, none⟩) 2 cap)
  s1 : w.cell? ⟨Bn, 1, none⟩ = some (.int .i64 tx)
  s2 : w.cell? ⟨Bn, 2, none⟩ = some (.int .i64 ty)
  y0 : w.cell? ⟨b, 1, none⟩ = some (.int .i64 o0)
  z0 : w.cell? ⟨b, 2, none⟩ = some (.int .i64 h0)
  y1 : w.cell? ⟨b, 4, none⟩ = some (.int .i64 o1)
  z1 : w.cell? ⟨b, 5, none⟩ = some (.int .i64 h1)
theorem PairsAt.next {w w' : World} {Bn b cap : Nat} {tx ty o0 h0 o1 h1 : Int} (h : PairsAt w Bn b cap tx ty o0 h0 o1 h1) (hb : Below w.heap.size w w') : PairsAt w' Bn b cap tx ty o0 h0 o1 h1 :=
  ⟨Nat.lt_of_lt_of_le h.ltn hb.size, Nat.lt_of_lt_of_le h.ltb hb.size, (hb.cell (p := ⟨Bn, 0, none⟩) h.ltn).trans h.s0, (hb.cell (p := ⟨Bn, 1, none⟩) h.ltn).trans h.s1, (hb.cell (p := ⟨Bn, 2, none⟩) h.ltn).trans h.s2,
   (hb.cell (p := ⟨b, 1, none⟩) h.ltb).trans h.y0, (hb.cell (p := ⟨b, 2, none⟩) h.ltb).trans h.z0, (hb.cell (p := ⟨b, 4, none⟩) h.ltb).trans h.y1, (hb.cell (p := ⟨b, 5, none⟩) h.ltb).trans h.z1⟩
set_option maxHeartbeats 4000000 in
theorem pairsStops (Bn b cap : Nat) (ls lo hi : List Int) (tx ty : Int) (w : World) (ht : TabAt w) (hA : AtA w Bn (.slice (some ⟨b, 0, none⟩) ls.length cap) (.int .i64 tx) (.int .i64 ty)) (hc : ChainAt w b ls.length ls lo hi) (hok : okArm ls lo hi) (h2 : ls.length = 2) (n : Nat) :
    SeqStopsK Fence.wide n Tryd.prog 94 #[.pointer (some ⟨Bn, 0, none⟩)] (fun c : Cand => #[cv c]) (Below w.heap.size) (fun ys => ys = (allPairs lo hi).map (mkC ls tx ty)) (fun _ => True) ((allPairs lo hi).map (mkC ls tx ty)).length w := by
  intro l J Jx W hW hJ _ hY h0
  have k0 := hok.2.2.2.2 0 (by omega)
  have k1 := hok.2.2.2.2 1 (by omega)
  unfold okLink at k0 k1
  obtain ⟨_, q2, q3⟩ := hc.c 0 (by omega)
  obtain ⟨_, q5, q6⟩ := hc.c 1 (by omega)
  have hs0 := hA.c0
  rw [h2] at hs0
  have HP := Lib.hid (show PairsAt w Bn b cap tx ty (lo.getD 0 0) (hi.getD 0 0) (lo.getD 1 0) (hi.getD 1 0) from ⟨hA.lt, hc.lt, hs0, hA.c1, hA.c2, q2, q3, q5, q6⟩)
  have HDI := Lib.hid (fun (i j : Int) (hi1 : lo.getD 0 0 ≤ i) (hi2 : i ≤ hi.getD 0 0) (hj1 : lo.getD 1 0 ≤ j) (hj2 : j ≤ hi.getD 1 0) (u : World) (hu : Below w.heap.size w u) => show Calls Tryd.prog 95 #[sv b 2 cap tx ty, pv4 i j 0 0] u fun e w' => e = .returned (.int .i64 (distV ls tx ty [i, j])) ∧ Below u.heap.size u w' by
    have := distanceC b cap ls lo hi [i, j] tx ty i j 0 0 u ⟨rfl, rfl, rfl, rfl⟩ (ht.below hu ht.lt) (hc.next hu) ⟨hok, by rw [h2]; rfl, fun k hk => by
      have hk2 : k = 0 ∨ k = 1 := by simp at hk; omega
      rcases hk2 with rfl | rfl
      · exact ⟨hi1, hi2⟩
      · exact ⟨hj1, hj2⟩⟩
    rw [h2] at this
    exact this)
  have HMK := Lib.hid (fun i j => show mkC ls tx ty (i, j) = ⟨i, j, 0, 0, distV ls tx ty [i, j], effN i j 0 0 4⟩ from rfl)
  have HFIN := Lib.hid (show (rowsL (lo.getD 0 0) (lo.getD 1 0) (wide lo hi 1) (wide lo hi 0)).map (mkC ls tx ty) = (allPairs lo hi).map (mkC ls tx ty) from rfl)
  have HLEN := Lib.hid (show ((allPairs lo hi).map (mkC ls tx ty)).length = wide lo hi 0 * wide lo hi 1 by rw [List.length_map]; exact rowsL_len _ _ _ _)
  have w0d := show ((wide lo hi 0 : Nat) : Int) = hi.getD 0 0 - lo.getD 0 0 + 1 by unfold wide; omega
  have w1d := show ((wide lo hi 1 : Nat) : Int) = hi.getD 1 0 - lo.getD 1 0 + 1 by unfold wide; omega
  have HY := Lib.hid hY
  have HJ := Lib.hid (fun s A B (hs : J s A) (hb : Below A.heap.size A B) => abides hJ hs hb)
  have HW0 := Lib.hid hW
  have H00 := Lib.hid h0
  clear hY hJ q2 q3 q5 q6 hs0 hA hc ht hok h2 hW h0
  generalize lo.getD 0 0 = o0 at *
  generalize lo.getD 1 0 = o1 at *
  generalize hi.getD 0 0 = h0 at *
  generalize hi.getD 1 0 = h1 at *
  generalize wide lo hi 0 = n0 at *
  generalize wide lo hi 1 = n1 at *
  have w0a : (n0 : Int) ≤ h0 - o0 + 1 := by omega
  have w0b : h0 - o0 + 1 ≤ (n0 : Int) := by omega
  have w1a : (n1 : Int) ≤ h1 - o1 + 1 := by omega
  have w1b : h1 - o1 + 1 ≤ (n1 : Int) := by omega
  clear w0d w1d
  refine callsIn_of_wp Tryd.func94 rfl trivial ?_ rfl
  simp only [Tryd.ntmps94, List.size_toArray, List.length_cons, List.length_nil, Nat.reduceAdd, Nat.reduceSub, Array.replicate_succ, Array.replicate_zero, List.push_toArray, List.append_toArray, List.nil_append, List.cons_append]
  obtain ⟨_, _, s0, s1, s2, y0, z0, y1, z1⟩ := HP.out.next HW0.out
  gi_wp2
  clear s0 s1 s2 y0 z0 y1 z1
  gi_loopw [3] (fun i wr => ∃ k : Nat, k ≤ n0 ∧ i = .int .i64 (o0 + (k : Int)) ∧ Hid (J ((rowsL o0 o1 n1 k).map (mkC ls tx ty)) wr) ∧ Hid (Below w.heap.size w wr)) (fun i _ => (h0 + 1 - intOf i).toNat)
  case atStart => exact ⟨0, Nat.zero_le _, by congr 1; omega, H00, HW0⟩
  case round =>
    obtain ⟨k, hk, rfl, HJ1, HW1⟩ := hrel
    clear H00 HW0
    obtain ⟨_, _, s0, s1, s2, y0, z0, y1, z1⟩ := HP.out.next HW1.out
    by_cases hlt : k < n0
    · have j1 : o0 + (k : Int) ≤ h0 := by omega
      gi_wp2
      clear s0 s1 s2 y0 z0 y1 z1
      gi_loopw [4] (fun j wr2 => ∃ q : Nat, q ≤ n1 ∧ j = .int .i64 (o1 + (q : Int)) ∧ Hid (J ((rowsL o0 o1 n1 k ++ rowL (o0 + (k : Int)) o1 q).map (mkC ls tx ty)) wr2) ∧ Hid (Below w.heap.size w wr2)) (fun j _ => (h1 + 1 - intOf j).toNat)
      case atStart => exact ⟨0, Nat.zero_le _, by congr 1; omega, Lib.hid (by rw [rowL_zero, List.append_nil]; exact HJ1.out), HW1⟩
      case round =>
        obtain ⟨q, hq, rfl, HJ2, HW2⟩ := hrel
        clear HJ1 HW1
        obtain ⟨_, _, s0, s1, s2, y0, z0, y1, z1⟩ := HP.out.next HW2.out
        by_cases hq2 : q < n1
        · have j2 : o1 + (q : Int) ≤ h1 := by omega
          have HNX := Lib.hid (show ((rowsL o0 o1 n1 k ++ rowL (o0 + (k : Int)) o1 (q + 1)).map (mkC ls tx ty)) = ((rowsL o0 o1 n1 k ++ rowL (o0 + (k : Int)) o1 q).map (mkC ls tx ty)) ++ [mkC ls tx ty (o0 + (k : Int), o1 + (q : Int))] by rw [rowL_succ, ← List.append_assoc, List.map_append]; rfl)
          have HLT := Lib.hid (show ((rowsL o0 o1 n1 k ++ rowL (o0 + (k : Int)) o1 q).map (mkC ls tx ty)).length < ((allPairs lo hi).map (mkC ls tx ty)).length by
            rw [HLEN.out, List.length_map, List.length_append, rowsL_len]
            simp only [rowL, List.length_map, List.length_range]
            exact pair_len hlt hq2)
          have HD2 := Lib.hid (fun u hu => HDI.out (o0 + (k : Int)) (o1 + (q : Int)) (by omega) j1 (by omega) j2 u hu)
          have HE2 := Lib.hid (fun u => effort (o0 + (k : Int)) (o1 + (q : Int)) 0 0 u (by omega) (by omega) (by omega) (by omega) (by omega) (by omega) (by omega) (by omega))
          have HM2 := Lib.hid (HMK.out (o0 + (k : Int)) (o1 + (q : Int)))
          have Bb := below_box wr (pcells (o0 + (k : Int)) (o1 + (q : Int)) 0 0)
          have HBb := Lib.hid Bb
          have HW3 := Lib.hid (below_call HW2.out Bb)
          have HJ3 := Lib.hid (HJ.out _ _ _ HJ2.out Bb)
          have Q4 := At4.box wr (o0 + (k : Int)) (o1 + (q : Int)) 0 0 91
          gi_wp2
          generalize wr.alloc (pcells (o0 + (k : Int)) (o1 + (q : Int)) 0 0) = w3 at *
          obtain ⟨_, _, a0, a1, a2, _, _, _, _⟩ := HP.out.next HW3.out
          obtain ⟨_, c0, c1, c2, c3⟩ := id Q4
          have HPW := Lib.hid (HP.out.next HW3.out)
          clear s0 s1 s2 y0 z0 y1 z1
          have HDK := Lib.hid (fun (n : Kept w3) => keptCall (HD2.out n.u (below_call HW3.out n.b)))
          have HEK := Lib.hid (fun (n : Kept w3) => keptCall (HE2.out n.u))
          have u0 := keptCell HPW.out.ltn a0
          have u1 := keptCell HPW.out.ltn a1
          have u2 := keptCell HPW.out.ltn a2
          obtain ⟨v0, v1, v2, v3⟩ := Q4.kepts
          clear a0 a1 a2 c0 c1 c2 c3
          refine wpIn_region_tail 8 (by kernel_rfl) (by kernel_rfl) ?_
          simp only [List.take_succ_cons, List.take_zero, List.drop_succ_cons, List.drop_zero]
          repeat (go_big_quiet_step ((first | (go_at_call 95; exact HDK.out _) | (go_at_call 96; exact HEK.out _))))
          refine wpQuiet_nil ?_
          rintro w5 ⟨⟨_, K5⟩, rfl⟩
          obtain ⟨fn, tmps, assign, body, hy, hR⟩ := HY.out _ (mkC ls tx ty (o0 + (k : Int), o1 + (q : Int))) w5 (HJ.out _ _ _ HJ3.out K5) HLT.out
          rw [HM2.out] at hy
          clear u0 u1 u2 v0 v1 v2 v3
          gi_wp2
          refine ⟨(by intro h; cases h), ?_⟩
          refine (saidOf hR).mono ?_
          rintro e w6 ⟨bb, rfl, S6⟩
          all_goals
            cases bb with
            | true =>
              have HS6 : Hid (J ((rowsL o0 o1 n1 k ++ rowL (o0 + (k : Int)) o1 (q + 1)).map (mkC ls tx ty)) w6 ∧ Below w.heap.size w5 w6) := Lib.hid (by
                rw [HNX.out]
                rcases S6.out with ⟨_, h1, h2⟩ | ⟨h1, _⟩
                · exact ⟨h1, h2⟩
                · cases h1)
              have HW6 := Lib.hid (show Below w.heap.size w w6 from (below_call HW3.out K5).trans HS6.out.2)
              clear S6 hy hR
              gi_wp2
              go_roundw
              case rel => exact ⟨q + 1, by omega, by congr 1; omega, Lib.hid HS6.out.1, HW6⟩
              case measure => simp [intOf]; omega
            | false =>
              have HS6 : Hid (Jx (((rowsL o0 o1 n1 k ++ rowL (o0 + (k : Int)) o1 q).map (mkC ls tx ty)) ++ [mkC ls tx ty (o0 + (k : Int), o1 + (q : Int))]) w6) := Lib.hid (by
                rcases S6.out with ⟨h1, _⟩ | ⟨_, h1⟩
                · cases h1
                · exact h1)
              clear S6 hy hR
              gi_wp2
              refine bodyPost_ret (results_none rfl _ _ _) rfl ?_
              exact ⟨⟨_, rfl⟩, .inr ⟨_, trivial, HS6.out⟩⟩
        · obtain rfl : q = n1 := by omega
          have j2 : ¬ o1 + (q : Int) ≤ h1 := by omega
          gi_wp2
          go_roundw
          case rel => exact ⟨k + 1, by omega, by congr 1; omega, Lib.hid HJ2.out, HW2⟩
          case measure => simp [intOf]; omega
    · obtain rfl : k = n0 := by omega
      have j1 : ¬ o0 + (k : Int) ≤ h0 := by omega
      gi_wp2
      go_end0
      exact ⟨⟨_, rfl⟩, .inl (by rw [← HFIN.out]; exact HJ1.out)⟩
end Go.Proofs.YtolkihibjabmhaaDoor
namespace Go.Proofs.YtolkihibjabmhaaDoor
open Go.RowKit Go.Shelf
attribute [local go_sem ↓] Go.wp_at_zero Go.wp_at_succ
theorem solve_is {ls lo hi : List Int} (tx ty : Int) (hok : okArm ls lo hi) (h2 : ls.length = 2) : ∃ a b, solveP ls lo hi tx ty = some (a, b) ∧ (lo.getD 0 0 ≤ a ∧ a ≤ hi.getD 0 0) ∧ (lo.getD 1 0 ≤ b ∧ b ≤ hi.getD 1 0) ∧
    ∀ i j, lo.getD 0 0 ≤ i → i ≤ hi.getD 0 0 → lo.getD 1 0 ≤ j → j ≤ hi.getD 1 0 → pairD ls tx ty (a, b) ≤ pairD ls tx ty (i, j) := by
  have k0 := hok.2.2.2.2 0 (by omega)
  have k1 := hok.2.2.2.2 1 (by omega)
  unfold okLink at k0 k1
  have w0 : ((wide lo hi 0 : Nat) : Int) = hi.getD 0 0 - lo.getD 0 0 + 1 := by unfold wide; omega
  have w1 : ((wide lo hi 1 : Nat) : Int) = hi.getD 1 0 - lo.getD 1 0 + 1 := by unfold wide; omega
  have mem : ∀ i j, (i, j) ∈ allPairs lo hi ↔ (lo.getD 0 0 ≤ i ∧ i ≤ hi.getD 0 0) ∧ lo.getD 1 0 ≤ j ∧ j ≤ hi.getD 1 0 := fun i j => by
    unfold allPairs; rw [mem_rowsL]; simp only; omega
  have hne : allPairs lo hi ≠ [] := List.ne_nil_of_mem ((mem (lo.getD 0 0) (lo.getD 1 0)).2 ⟨by omega, by omega⟩)
  obtain ⟨⟨a, b⟩, h1, h3, h4⟩ := bestL_is (pairD ls tx ty) sumAbs (allPairs lo hi) hne
  obtain ⟨m1, m2⟩ := (mem a b).1 h3
  exact ⟨a, b, h1, m1, m2, fun i j i1 i2 j1 j2 => h4 (i, j) ((mem i j).2 ⟨⟨i1, i2⟩, j1, j2⟩)⟩
theorem solve_best {ls lo hi : List Int} {tx ty a b : Int} (h : solveP ls lo hi tx ty = some (a, b)) : bestC ((allPairs lo hi).map (mkC ls tx ty)) = mkC ls tx ty (a, b) := by
  unfold bestC
  rw [bestL_map]
  have e : bestL (fun x => (mkC ls tx ty x).d) (fun x => (mkC ls tx ty x).e) (allPairs lo hi) = some (a, b) := by
    rw [← h]
    unfold solveP
    congr 1
    funext p
    show max p.1 (-p.1) + max p.2 (-p.2) + max (0 : Int) (-0) + max (0 : Int) (-0) = max p.1 (-p.1) + max p.2 (-p.2)
    omega
  rw [e]; rfl
theorem pairsC (b n cap : Nat) (tx ty : Int) (w0 w : World) (hw : Below w0.heap.size w0 w) : Calls Tryd.prog 75 #[sv b n cap tx ty] w fun e w' => ∃ Bn, e = .returned (.func (.func 94) #[] #[.pointer (some ⟨Bn, 0, none⟩)]) ∧ AtA w' Bn (.slice (some ⟨b, 0, none⟩) n cap) (.int .i64 tx) (.int .i64 ty) ∧ Below w0.heap.size w0 w' := by
  have hmf : ∀ (fn : Fn) (first cap : Array Value) (w : World), (Instr.makeFunc fn first cap).run Tryd.prog w = .ok (.func fn first cap) w := fun _ _ _ _ => rfl
  have HR := Lib.hid (And.intro (AtA.box w (.slice (some ⟨b, 0, none⟩) n cap) (.int .i64 tx) (.int .i64 ty) 88) (below_call hw (below_box w (scells b n cap tx ty))))
  clear hw
  go_enter Tryd.func75, Tryd.ntmps75
  go_wp2
  go_ret
  exact ⟨w.heap.size, rfl, HR.out.1, HR.out.2⟩
theorem fieldC (c : Cand) (u : World) : (Instr.field 93 (cv c) 0).run Tryd.prog u = .ok (pv4 c.p0 c.p1 c.p2 c.p3) u := by kernel_rfl
theorem keepSv {w u : World} {b : Nat} {x y z : Value} (h : Below w.heap.size w u) (A : AtA w b x y z) : u.cell? ⟨b, 0, none⟩ = some x ∧ u.cell? ⟨b, 1, none⟩ = some y ∧ u.cell? ⟨b, 2, none⟩ = some z := ⟨(A.next h).c0, (A.next h).c1, (A.next h).c2⟩
theorem rowed_none {w w1 : World} (h : Below w.heap.size w w1) : Rowed [] w (.returned (.slice none 0 0)) w1 := ⟨⟨none, 0, 0⟩, rfl, World.ownsRow_nil _ _ _ _, rfl, h⟩
set_option maxHeartbeats 4000000 in
theorem implSolveArm (x y z : Sl) (ls lo hi : List Int) (tx ty : Int) (w : World) (ht : TabAt w) (hx : IntsAt w x.a x.len ls) (hy : IntsAt w y.a y.len lo) (hz : IntsAt w z.a z.len hi) (bx : x.len ≤ 9223372036854775807) (b_y : y.len ≤ 9223372036854775807) (bz : z.len ≤ 9223372036854775807) :
    Calls Tryd.prog 39 #[av x y z, pt tx ty] w (Rowed (solveV ls lo hi tx ty) w) := by
  obtain ⟨xa, xl, xc⟩ := x
  obtain ⟨ya, yl, yc⟩ := y
  obtain ⟨za, zl, zc⟩ := z
  simp only at *
  have Q := AtP.box (w.alloc (.cells #[.slice xa xl xc, .slice ya yl yc, .slice za zl zc] 25)) tx ty 35
  rw [show (w.alloc (.cells #[.slice xa xl xc, .slice ya yl yc, .slice za zl zc] 25)).heap.size = w.heap.size + 1 by simp] at Q
  have HB := Lib.hid (below_box2 w (.cells #[.slice xa xl xc, .slice ya yl yc, .slice za zl zc] 25) (.cells #[.int .i64 tx, .int .i64 ty] 35))
  have HT := Lib.hid ht
  replace hx := hx.next HB.out
  replace hy := hy.next HB.out
  replace hz := hz.next HB.out
  clear ht
  go_enter Tryd.func39, Tryd.ntmps39
  go_wp2_with fail
  refine (chainOf ⟨xa, xl, xc⟩ ⟨ya, yl, yc⟩ ⟨za, zl, zc⟩ ls lo hi _ hx hy hz bx b_y bz).mono ?_
  generalize (w.alloc (.cells #[.slice xa xl xc, .slice ya yl yc, .slice za zl zc] 25)).alloc (.cells #[.int .i64 tx, .int .i64 ty] 35) = w0 at *
  rintro e w1 ⟨B1, ⟨hok, b, rfl, _, hc⟩ | ⟨hok, rfl⟩⟩
  · have HB1 := Lib.hid (below_call HB.out B1)
    have Q1 := Q.next B1
    obtain ⟨q0, q1⟩ := Q1.kepts
    clear B1 hx hy hz
    by_cases h2 : ls.length = 2
    · have k0 := hok.2.2.2.2 0 (by omega)
      have k1 := hok.2.2.2.2 1 (by omega)
      unfold okLink at k0 k1
      obtain ⟨c0, c1, c2⟩ := hc.c 0 (by omega)
      obtain ⟨c3, c4, c5⟩ := hc.c 1 (by omega)
      have d0 := keptCell (o := 0) hc.lt c0
      have d1 := keptCell (o := 1) hc.lt c1
      have d2 := keptCell (o := 2) hc.lt c2
      have d3 := keptCell (o := 3) hc.lt c3
      have d4 := keptCell (o := 4) hc.lt c4
      have d5 := keptCell (o := 5) hc.lt c5
      have HA0 := Lib.hid (fun (n : Kept w1) => keptCall (linkAngles (ls.getD 0 0) (lo.getD 0 0) (hi.getD 0 0) n.u k0.2.2.1 k0.2.2.2.2.1 k0.2.2.2.2.2))
      have HA1 := Lib.hid (fun (n : Kept w1) => keptCall (linkAngles (ls.getD 1 0) (lo.getD 1 0) (hi.getD 1 0) n.u k1.2.2.1 k1.2.2.2.2.1 k1.2.2.2.2.2))
      have HSW := Lib.hid (show (hi.getD 0 0 - lo.getD 0 0 + 1) * (hi.getD 1 0 - lo.getD 1 0 + 1) ≤ 40000 ↔ okSweep ls lo hi from ⟨fun h => ⟨hok, h2, h⟩, fun h => h.2.2⟩)
      have HC := Lib.hid hc
      have HK := Lib.hid (And.intro hok h2)
      have mb := mul_bd (A := 400) (B := 400) (show (-400 : Int) ≤ hi.getD 0 0 - lo.getD 0 0 + 1 by omega) (show hi.getD 0 0 - lo.getD 0 0 + 1 ≤ 400 by omega) (show (-400 : Int) ≤ hi.getD 1 0 - lo.getD 1 0 + 1 by omega) (show hi.getD 1 0 - lo.getD 1 0 + 1 ≤ 400 by omega)
      clear c0 c1 c2 c3 c4 c5 hc hok
      rw [h2]
      clear h2
      generalize ls.getD 0 0 = l0 at *
      generalize ls.getD 1 0 = l1 at *
      generalize lo.getD 0 0 = o0 at *
      generalize lo.getD 1 0 = o1 at *
      generalize hi.getD 0 0 = g0 at *
      generalize hi.getD 1 0 = g1 at *
      by_cases hs : (g0 - o0 + 1) * (g1 - o1 + 1) ≤ 40000
      · have t1 : decide (40000 < (g0 - o0 + 1) * (g1 - o1 + 1)) = false := decide_eq_false (by omega)
        by_cases hp : okP tx ty
        · have HV := Lib.hid (solveV_in ⟨HSW.out.1 hs, hp⟩)
          have HVA := Lib.hid (fun (n : Kept w1) => keptCall (validY tx ty n.u hp))
          clear hs
          go_wp2
          refine wp_region_kept (by kernel_rfl) (by kernel_rfl) ?_
          repeat (go_big_quiet_step ((first | (go_at_call 72; with_reducible exact HA0.out _) | (go_at_call 72; with_reducible exact HA1.out _) | (go_at_call 63; exact HVA.out _))))
          refine wpQuiet_nil ?_
          rintro w2 ⟨⟨_, B2⟩, rfl⟩
          have HB2 := Lib.hid (below_call HB1.out B2)
          have HC2 := Lib.hid (HC.out.next B2)
          obtain ⟨_, q2, q3⟩ := Q1.next B2
          clear q0 q1 d0 d1 d2 d3 d4 d5 HA0 HA1 HVA B2 Q Q1 HC mb t1
          have SB := AtA.box w2 (.slice (some ⟨b, 0, none⟩) 2 2) (.int .i64 tx) (.int .i64 ty) 88
          have HB3 := Lib.hid (below_call HB2.out (below_box w2 (scells b 2 2 tx ty)))
          have HC3 := Lib.hid (HC2.out.next (below_box w2 (scells b 2 2 tx ty)))
          obtain ⟨pa, pb, hsp, _, _, _⟩ := solve_is tx ty HK.out.1 HK.out.2
          have HRES := Lib.hid (show solveV ls lo hi tx ty = [pa, pb] by rw [HV.out, hsp]; rfl)
          have HBE := Lib.hid (solve_best hsp)
          obtain ⟨dd, hdd⟩ : ∃ dd, (mkC ls tx ty (pa, pb)).d = dd := ⟨_, rfl⟩
          obtain ⟨ee, hee⟩ : ∃ ee, (mkC ls tx ty (pa, pb)).e = ee := ⟨_, rfl⟩
          have HMK := Lib.hid (show bestC ((allPairs lo hi).map (mkC ls tx ty)) = ⟨pa, pb, 0, 0, dd, ee⟩ by rw [HBE.out, ← hdd, ← hee]; rfl)
          clear hdd hee hsp
          go_wp2
          generalize w2.alloc (scells b 2 2 tx ty) = w3 at *
          have gg : Below w3.heap.size w3 w3 := Below.refl _ _
          have HLE := Lib.hid (fun (Bn : Nat) (u : World) (hu : Below w3.heap.size w3 u) (hA : AtA u Bn (.slice (some ⟨b, 0, none⟩) 2 2) (.int .i64 tx) (.int .i64 ty)) => show Calls Tryd.prog 74 #[.func (.func 94) #[] #[.pointer (some ⟨Bn, 0, none⟩)], .func (.func 76) #[] #[]] u fun e w' => e = .returned (cv ⟨pa, pb, 0, 0, dd, ee⟩) ∧ Below w3.heap.size w3 w' by
            have := leastC 94 #[.pointer (some ⟨Bn, 0, none⟩)] _ u (enters_of Tryd.func94 (by kernel_rfl) rfl) (fun n => pairsStops Bn b 2 ls lo hi tx ty u (HT.out.below (below_call HB3.out hu) HT.out.lt) (by rw [HK.out.2]; exact hA) (HC3.out.next hu) HK.out.1 HK.out.2 n)
            rw [HMK.out] at this
            exact this.mono fun _ _ ⟨he, hb⟩ => ⟨he, below_call hu hb⟩)
          have HRC := Lib.hid (fun (u : World) (hu : Below w3.heap.size w3 u) => show Calls Tryd.prog 73 #[sv b 2 2 tx ty, pv4 pa pb 0 0] u fun e w' => ∃ s : Sl, e = .returned (.slice s.a s.len s.cap) ∧ Hid (OwnI w' u.heap.size (.slice s.a s.len s.cap) [pa, pb] ∧ s.len = 2 ∧ Below u.heap.size u w') ∧ Below w3.heap.size w3 w' from
            (resultC b 2 [pa, pb] tx ty pa pb 0 0 u ⟨rfl, rfl, rfl, rfl⟩ (by simp) (by simp)).mono fun _ _ ⟨s, he, h1, h2, h3⟩ => ⟨s, he, Lib.hid ⟨h1, h2, h3⟩, below_call hu h3⟩)
          have hfl := fun u => fieldC ⟨pa, pb, 0, 0, dd, ee⟩ u
          go_region_held3 (fun u => u.cell? ⟨w2.heap.size, 0, none⟩ = some (.slice (some ⟨b, 0, none⟩) 2 2) ∧ u.cell? ⟨w2.heap.size, 1, none⟩ = some (.int .i64 tx) ∧ u.cell? ⟨w2.heap.size, 2, none⟩ = some (.int .i64 ty)) (exact keepSv (by repeat (first | (with_reducible assumption) | (with_reducible apply Below.drew))) SB) (first
            | (go_at_call 75
               (with_reducible refine (pairsC b 2 2 tx ty w3 _ (by repeat (first | (with_reducible assumption) | (with_reducible apply Below.drew)))).mono ?_)
               rintro e w4 ⟨Bn, rfl, A4, K4⟩)
            | (go_at_call 74
               (with_reducible refine (HLE.out Bn _ (by repeat (first | (with_reducible assumption) | (with_reducible apply Below.drew))) A4).mono ?_)
               rintro e w5 ⟨rfl, K5⟩)
            | (go_at_call 73
               (with_reducible refine (HRC.out _ (by repeat (first | (with_reducible assumption) | (with_reducible apply Below.drew)))).mono ?_)
               rintro e w6 ⟨s6, rfl, H6, K6⟩)
            | fail)
          have HW5 := Lib.hid (below_call HB3.out K5)
          clear K4 K5 K6 A4 gg
          go_wp2
          go_ret
          exact ⟨s6, rfl, by rw [HRES.out]; exact H6.out.1.mono HW5.out.size, by rw [HRES.out]; exact H6.out.2.1, below_call HW5.out H6.out.2.2⟩
        · have HV := Lib.hid (solveV_out fun h => hp h.2 : solveV ls lo hi tx ty = [])
          have HVA := Lib.hid (fun (n : Kept w1) => keptCall (validN tx ty n.u hp))
          clear hs
          go_wp2
          refine wp_region_kept (by kernel_rfl) (by kernel_rfl) ?_
          repeat (go_big_quiet_step ((first | (go_at_call 72; with_reducible exact HA0.out _) | (go_at_call 72; with_reducible exact HA1.out _) | (go_at_call 63; exact HVA.out _))))
          refine wpQuiet_nil ?_
          rintro w2 ⟨⟨_, B2⟩, rfl⟩
          have HB2 := Lib.hid (below_call HB1.out B2)
          clear B2
          go_wp2
          go_ret
          rw [HV.out]
          exact rowed_none HB2.out
      · have t1 : decide (40000 < (g0 - o0 + 1) * (g1 - o1 + 1)) = true := decide_eq_true (by omega)
        have HV := Lib.hid (solveV_out fun h => hs (HSW.out.2 h.1) : solveV ls lo hi tx ty = [])
        clear hs
        go_wp2
        refine wp_region_kept (by kernel_rfl) (by kernel_rfl) ?_
        repeat (go_big_quiet_step ((first | (go_at_call 72; with_reducible exact HA0.out _) | (go_at_call 72; with_reducible exact HA1.out _))))
        refine wpQuiet_nil ?_
        rintro w2 ⟨⟨_, B2⟩, rfl⟩
        have HB2 := Lib.hid (below_call HB1.out B2)
        clear B2
        go_wp2
        go_ret
        rw [HV.out]
        exact rowed_none HB2.out
    · have HV := Lib.hid (solveV_out fun h => h2 h.1.2.1 : solveV ls lo hi tx ty = [])
      have t1 : ((ls.length : Int) != 2) = true := by simp; omega
      clear h2 hc hok
      go_wp2
      refine wp_region_kept (by kernel_rfl) (by kernel_rfl) ?_
      repeat (go_big_quiet_step (fail))
      refine wpQuiet_nil ?_
      rintro w2 ⟨⟨_, B2⟩, rfl⟩
      have HB2 := Lib.hid (below_call HB1.out B2)
      clear B2
      go_wp2
      go_ret
      rw [HV.out]
      exact rowed_none HB2.out
  · have HV := Lib.hid (solveV_out fun h => hok h.1.1 : solveV ls lo hi tx ty = [])
    have HB1 := Lib.hid (below_call HB.out B1)
    clear B1 hx hy hz hok
    go_wp2
    refine wp_region_kept (by kernel_rfl) (by kernel_rfl) ?_
    repeat (go_big_quiet_step (fail))
    refine wpQuiet_nil ?_
    rintro w2 ⟨⟨_, B2⟩, rfl⟩
    have HB2 := Lib.hid (below_call HB1.out B2)
    clear B2
    go_wp2
    go_ret
    rw [HV.out]
    exact rowed_none HB2.out
end Go.Proofs.YtolkihibjabmhaaDoor
namespace Go.Proofs.YtolkihibjabmhaaDoor
open Go.RowKit Go.Shelf
attribute [local go_sem] Oper.semAt_some
/-- What lay below n lies as it lay, and so do the cells that lay at or above T. -/
structure KeepC (n T : Nat) (W W' : World) : Prop where
  low : Below n W W'
  cells : ∀ k o, T ≤ k → W.heap[k]? = some o → o.isCells = true → W'.heap[k]? = some o
theorem KeepC.trans {n T : Nat} {A B C : World} (h : KeepC n T A B) (k : KeepC n T B C) : KeepC n T A C :=
  ⟨h.low.trans k.low, fun i o hi ho hc => k.cells i o hi (h.cells i o hi ho hc) hc⟩
theorem KeepC.of {n T : Nat} {W W' : World} (h : Below W.heap.size W W') (hn : n ≤ W.heap.size) : KeepC n T W W' :=
  ⟨h.mono hn, fun k _ _ ho _ => (h.block k (Array.getElem?_eq_some_iff.1 ho).1).trans ho⟩
theorem KeepC.set {n T b : Nat} (W : World) (hn : n ≤ b) (hT : b < T) (j : Nat) (v : Value) : KeepC n T W (W.setCell ⟨b, j, none⟩ v) :=
  ⟨(Below.refl n W).setCell (p := ⟨b, j, none⟩) hn v, fun k _ hk ho _ => (Below.heap_setCell W ⟨b, j, none⟩ v k (by show k ≠ b; omega)).trans ho⟩
theorem keepC6 {n T b : Nat} (W : World) (hn : n ≤ b) (hT : b < T) (c : Cand) : KeepC n T W (set6 W b c) :=
  (((((KeepC.set W hn hT 0 _).trans (KeepC.set _ hn hT 1 _)).trans (KeepC.set _ hn hT 2 _)).trans (KeepC.set _ hn hT 3 _)).trans (KeepC.set _ hn hT 4 _)).trans (KeepC.set _ hn hT 5 _)
theorem keepC_b {n T : Nat} {w : World} (hn : n ≤ w.heap.size) (W : World) (l : Nat) (o o' : Obj) (hl : w.heap.size ≤ l) (h : W.heap[l]? = some o) (hc : o.isCells = false) (hw : o.isWalk = false) : KeepC n T W (W.putObj l o') :=
  ⟨belowK_b hn W l o o' hl h hc hw, fun k u _ hu huc => (World.putObj_heap_other (by rintro rfl; rw [h] at hu; cases hu; rw [hc] at huc; cases huc)).trans hu⟩
set_option maxHeartbeats 4000000 in
theorem leastK (gf : Nat) (lb : Array Value) (xs : List Cand) (w : World) (eg : ∀ args w, (callFunc gf args).run Tryd.prog w = .ok (.enter gf args) w)
    (hseq : ∀ n (W0 : World), Below w.heap.size w W0 → W0.heap.size = w.heap.size + 4 → SeqStopsK Fence.wide n Tryd.prog gf lb (fun c : Cand => #[cv c]) (KeepC w.heap.size (w.heap.size + 4)) (fun ys => ys = xs) (fun _ => True) xs.length W0) :
    Calls Tryd.prog 74 #[.func (.func gf) #[] lb, .func (.func 76) #[] #[]] w fun e w' => e = .returned (cv (bestC xs)) ∧ Below w.heap.size w w' := by
  refine (callsIn_wide (n := 9)).1 ?_
  refine callsIn_of_wp_marks Tryd.func74 rfl trivial ?_ rfl
  simp only [Tryd.ntmps74, List.size_toArray, List.length_cons, List.length_nil, Nat.reduceAdd, Nat.reduceSub, Array.replicate_succ, Array.replicate_zero, List.push_toArray, List.append_toArray, List.nil_append, List.cons_append]
  gi_wp2
  have C0 := ((((Cells.new w #[.func (.func 76) #[] #[]] 98).alloc (ccells ⟨0, 0, 0, 0, 0, 0⟩)).alloc (ccells ⟨0, 0, 0, 0, 0, 0⟩)).alloc (.cells #[.bool false] 4))
  have C1 := (((Cells.new (w.alloc (.cells #[.func (.func 76) #[] #[]] 98)) (carr ⟨0, 0, 0, 0, 0, 0⟩) 93).alloc (ccells ⟨0, 0, 0, 0, 0, 0⟩)).alloc (.cells #[.bool false] 4))
  have C2 := ((Cells.new ((w.alloc (.cells #[.func (.func 76) #[] #[]] 98)).alloc (ccells ⟨0, 0, 0, 0, 0, 0⟩)) (carr ⟨0, 0, 0, 0, 0, 0⟩) 93).alloc (.cells #[.bool false] 4))
  have C3 := (Cells.new (((w.alloc (.cells #[.func (.func 76) #[] #[]] 98)).alloc (ccells ⟨0, 0, 0, 0, 0, 0⟩)).alloc (ccells ⟨0, 0, 0, 0, 0, 0⟩)) #[.bool false] 4)
  simp only [World.size_alloc] at C1 C2 C3
  have hB0 : Below w.heap.size w ((((w.alloc (.cells #[.func (.func 76) #[] #[]] 98)).alloc (ccells ⟨0, 0, 0, 0, 0, 0⟩)).alloc (ccells ⟨0, 0, 0, 0, 0, 0⟩)).alloc (.cells #[.bool false] 4)) := below_box4 w _ _ _ _
  have hsz : ((((w.alloc (.cells #[.func (.func 76) #[] #[]] 98)).alloc (ccells ⟨0, 0, 0, 0, 0, 0⟩)).alloc (ccells ⟨0, 0, 0, 0, 0, 0⟩)).alloc (.cells #[.bool false] 4)).heap.size = w.heap.size + 1 + 1 + 1 + 1 := by simp
  have L0 : LeastI w.heap.size [] _ := ⟨C2, C3, C0, C1⟩
  obtain ⟨W0, hW0⟩ : ∃ W0, (((w.alloc (.cells #[.func (.func 76) #[] #[]] 98)).alloc (ccells ⟨0, 0, 0, 0, 0, 0⟩)).alloc (ccells ⟨0, 0, 0, 0, 0, 0⟩)).alloc (.cells #[.bool false] 4) = W0 := ⟨_, rfl⟩
  rw [hW0] at L0 hB0 hsz ⊢
  clear hW0 C0 C1 C2 C3
  refine wpIn_rangeFunc_ownH rfl (by omega) (gf := gf) (lb := lb) rfl trivial eg (hseq 8 W0 hB0 (by omega)) KeepC.trans (keepC_b (by omega)) (Below.refl _ _) (fun _ => rfl)
    (fun pre W => LeastI w.heap.size pre W ∧ Below w.heap.size w W)
    (fun _ _ _ => False)
    (OwnFrom.and (Own.from (leastI_own _) _) (ownFrom_below (Nat.le_refl _) (by omega)))
    (fun _ _ _ _ _ hs _ _ => hs)
    ⟨L0, hB0⟩
    (fun x a' W => ∃ Bx, w.heap.size + 1 + 1 + 1 < Bx ∧ Cells W Bx (carr x) 93 ∧ a' = { tmps := #[.func (.func gf) #[] lb, .func (.func 76) #[] #[], undef, .pointer (some ⟨w.heap.size, 0, none⟩), .pointer (some ⟨w.heap.size + 1, 0, none⟩), .pointer (some ⟨w.heap.size + 1 + 1, 0, none⟩), .pointer (some ⟨w.heap.size + 1 + 1 + 1, 0, none⟩), .pointer (some ⟨Bx, 0, none⟩), .func (.func gf) #[] lb, cv x, undef, undef, undef, undef, undef, undef, undef, undef, undef, undef, undef], defers := [] })
    (fun x a' _ X Y row hs hg hr => by obtain ⟨Bx, h1, h2, h3⟩ := hs; exact ⟨Bx, h1, cells_own Bx _ (fun (_ : Unit) => carr x) () X Y row h2 hg (fun r e => (hr r e).2), h3⟩)
    ?assign ?body ?done ?stop
  case assign =>
    rintro l pre x W K ⟨hL, hB1⟩ hK
    gi_wp2
    exact hK _ _ ((KeepsOthers.alloc _ _).from _) (KeepC.of (below_box W _) hB1.size) ⟨hL.next (below_box _ _), hB1.alloc hB1.size _⟩ ⟨W.heap.size, hL.found.lt, Cells.new W _ _, rfl⟩
  case body =>
    rintro l pre x a' W hl ⟨r, hr⟩ ⟨hL, hB1⟩ ⟨Bx, hBx, hX, rfl⟩ hlen
    have HL := Lib.hid hL
    have HX := Lib.hid hX
    have x0 := hX.cell (i := 0) rfl
    have x1 := hX.cell (i := 1) rfl
    have x2 := hX.cell (i := 2) rfl
    have x3 := hX.cell (i := 3) rfl
    have x4 := hX.cell (i := 4) rfl
    have x5 := hX.cell (i := 5) rfl
    have b0 := hL.best.cell (i := 0) rfl
    have b1 := hL.best.cell (i := 1) rfl
    have b2 := hL.best.cell (i := 2) rfl
    have b3 := hL.best.cell (i := 3) rfl
    have b4 := hL.best.cell (i := 4) rfl
    have b5 := hL.best.cell (i := 5) rfl
    have f0 := hL.found.cell (i := 0) rfl
    have c0 := hL.cmp.cell (i := 0) rfl
    have z0 := hL.best.frozen (i := 0)
    have z1 := hL.best.frozen (i := 1)
    have z2 := hL.best.frozen (i := 2)
    have z3 := hL.best.frozen (i := 3)
    have z4 := hL.best.frozen (i := 4)
    have z5 := hL.best.frozen (i := 5)
    have z6 := hL.found.frozen (i := 0)
    have ne1 : w.heap.size + 1 + 1 ≠ w.heap.size + 1 + 1 + 1 := by omega
    have HB1 := Lib.hid hB1
    have HHL := Lib.hid hlen
    clear hL hX hlen hr hB1
    cases pre with
    | nil =>
      simp only [List.isEmpty_nil, Bool.not_true] at f0
      gi_wp2
      refine ⟨fun _ h => (by cases h), ?_⟩
      gi_wp2
      exact ⟨((keeps6 W _ x).trans (KeepsOthers.setCell _ _ _)).from _, (keepC6 W (by omega) (by omega) x).trans (KeepC.set _ (by omega) (by omega) 0 _), HL.out.taken (bestC_one x), (below6 HB1.out (by omega) x).setCell (p := ⟨w.heap.size + 1 + 1 + 1, 0, none⟩) (by simp <;> omega) _⟩
    | cons y ys =>
      simp only [List.isEmpty_cons, Bool.not_false] at f0
      have HCC := Lib.hid (fun u => compareCands x (bestC (y :: ys)) u)
      by_cases hc : cmpC x (bestC (y :: ys)) < 0
      · have HT := Lib.hid (bestC_take (by simp) hc : bestC (y :: ys ++ [x]) = x)
        have hd : decide (cmpC x (bestC (y :: ys)) < 0) = true := decide_eq_true hc
        clear hc
        gi_wp2_with (refine ⟨trivial, ?_⟩; gi_at_call 76; refine (CallsIn.inRound l (callsIn_wide.2 (HCC.out _))).mono ?_; rintro e w2 ⟨rfl, B2⟩; have HL2 := Lib.hid (HL.out.next B2); have HX2 := Lib.hid (HX.out.next B2); have HB2 := Lib.hid B2; have y0 := HX2.out.cell (i := 0) rfl; have y1 := HX2.out.cell (i := 1) rfl; have y2 := HX2.out.cell (i := 2) rfl; have y3 := HX2.out.cell (i := 3) rfl; have y4 := HX2.out.cell (i := 4) rfl; have y5 := HX2.out.cell (i := 5) rfl; have t0 := HL2.out.best.cell (i := 0) rfl; have t1 := HL2.out.best.cell (i := 1) rfl; have t2 := HL2.out.best.cell (i := 2) rfl; have t3 := HL2.out.best.cell (i := 3) rfl; have t4 := HL2.out.best.cell (i := 4) rfl; have t5 := HL2.out.best.cell (i := 5) rfl; have g0 := HL2.out.found.cell (i := 0) rfl; have v0 := HL2.out.best.frozen (i := 0); have v1 := HL2.out.best.frozen (i := 1); have v2 := HL2.out.best.frozen (i := 2); have v3 := HL2.out.best.frozen (i := 3); have v4 := HL2.out.best.frozen (i := 4); have v5 := HL2.out.best.frozen (i := 5); have v6 := HL2.out.found.frozen (i := 0); clear B2)
        exact ⟨(((keepsBelow HB2.out).trans (keeps6 _ _ x)).trans (KeepsOthers.setCell _ _ _)).from _, ((KeepC.of HB2.out HB1.out.size).trans (keepC6 _ (by omega) (by omega) x)).trans (KeepC.set _ (by omega) (by omega) 0 _), HL2.out.taken HT.out, (below6 (below_call HB1.out HB2.out) (by omega) x).setCell (p := ⟨w.heap.size + 1 + 1 + 1, 0, none⟩) (by simp <;> omega) _⟩
      · have HT := Lib.hid (bestC_keep (by simp) hc : bestC (y :: ys ++ [x]) = bestC (y :: ys))
        have hd : decide (cmpC x (bestC (y :: ys)) < 0) = false := decide_eq_false hc
        clear hc
        gi_wp2_with (refine ⟨trivial, ?_⟩; gi_at_call 76; refine (CallsIn.inRound l (callsIn_wide.2 (HCC.out _))).mono ?_; rintro e w2 ⟨rfl, B2⟩; have HL2 := Lib.hid (HL.out.next B2); have HB2 := Lib.hid B2; clear B2)
        exact ⟨(keepsBelow HB2.out).from _, KeepC.of HB2.out HB1.out.size, HL2.out.kept (by simp) HT.out, below_call HB1.out HB2.out⟩
  case done =>
    rintro D ys W hD rfl ⟨hL, hB⟩ hK
    have HL := Lib.hid hL
    have HBW := Lib.hid hB
    have HKK := Lib.hid hK
    have t0 := hL.best.cell (i := 0) rfl
    have t1 := hL.best.cell (i := 1) rfl
    have t2 := hL.best.cell (i := 2) rfl
    have t3 := hL.best.cell (i := 3) rfl
    have t4 := hL.best.cell (i := 4) rfl
    have t5 := hL.best.cell (i := 5) rfl
    have r0 := hL.res.cell (i := 0) rfl
    have r1 := hL.res.cell (i := 1) rfl
    have r2 := hL.res.cell (i := 2) rfl
    have r3 := hL.res.cell (i := 3) rfl
    have r4 := hL.res.cell (i := 4) rfl
    have r5 := hL.res.cell (i := 5) rfl
    have v0 := hL.res.frozen (i := 0)
    have v1 := hL.res.frozen (i := 1)
    have v2 := hL.res.frozen (i := 2)
    have v3 := hL.res.frozen (i := 3)
    have v4 := hL.res.frozen (i := 4)
    have v5 := hL.res.frozen (i := 5)
    have HD := Lib.hid hD
    clear hL hB hK hD
    gi_wp2
    have hK6 := (keeps6 W (w.heap.size + 1) (bestC ys)).same D _ HKK.out rfl
    refine ⟨by simp, .inl ⟨_, _, rfl, run_takeDeferred hK6, ?_⟩⟩
    have q := (HL.out.res.set6 (bestC ys)).put (.deferred none) hK6 rfl
    have q0 := q.cell (i := 0) rfl
    have q1 := q.cell (i := 1) rfl
    have q2 := q.cell (i := 2) rfl
    have q3 := q.cell (i := 3) rfl
    have q4 := q.cell (i := 4) rfl
    have q5 := q.cell (i := 5) rfl
    refine ⟨cv (bestC ys), by simp [results, Tryd.results74, go_sem, q0, q1, q2, q3, q4, q5], rfl, (below6 HBW.out (by omega) (bestC ys)).trans (belowK_b (w := w) (Nat.le_refl _) _ D _ _ (by have := HD.out; omega) hK6 rfl rfl)⟩
  case stop =>
    rintro D c pre W _ _ h _
    exact h.elim
end Go.Proofs.YtolkihibjabmhaaDoor
namespace Go.Proofs.YtolkihibjabmhaaDoor
open Go.RowKit Go.Shelf
attribute [local go_sem] Oper.semAt_some
theorem turnIx0 (u : World) : (Instr.index 118 (.agg #[.int .i64 (-1), .int .i64 1]) (.int .i64 0)).run Tryd.prog u = .ok (.int .i64 (-1)) u := by kernel_rfl
theorem turnIx1 (u : World) : (Instr.index 118 (.agg #[.int .i64 (-1), .int .i64 1]) (.int .i64 1)).run Tryd.prog u = .ok (.int .i64 1) u := by kernel_rfl
theorem turnIx (q : Nat) (h : q < 2) (u : World) : (Instr.index 118 (.agg #[.int .i64 (-1), .int .i64 1]) (.int .i64 (q : Int))).run Tryd.prog u = .ok (.int .i64 (2 * (q : Int) - 1)) u := by
  have h2 : q = 0 ∨ q = 1 := by omega
  rcases h2 with rfl | rfl
  · exact turnIx0 u
  · exact turnIx1 u
theorem try_cells {w : World} {b : Nat} {js : List Int} {p q r s : Int} {k : Nat} {t : TypeId} (d : Int) (C : Cells w b ([.int .i64 p, .int .i64 q, .int .i64 r, .int .i64 s].set k (.int .i64 (js.getD k 0 + d))).toArray t) (e : Is4 js p q r s) (hk : k < 4) (hkl : k < js.length) :
    ∃ p' q' r' s', Is4 (tryL js k d) p' q' r' s' ∧ At4 w b p' q' r' s' ∧ w.cell? ⟨b, k, none⟩ = some (.int .i64 (js.getD k 0 + d)) := by
  obtain ⟨e0, e1, e2, e3⟩ := e
  have h4 : k = 0 ∨ k = 1 ∨ k = 2 ∨ k = 3 := by omega
  rcases h4 with rfl | rfl | rfl | rfl
  · exact ⟨_, q, r, s, ⟨by rw [tryL_at _ _ _ _ hkl, if_pos rfl], by rw [tryL_at _ _ _ _ hkl, if_neg (by omega), e1], by rw [tryL_at _ _ _ _ hkl, if_neg (by omega), e2], by rw [tryL_at _ _ _ _ hkl, if_neg (by omega), e3]⟩, ⟨C.lt, C.cell rfl, C.cell rfl, C.cell rfl, C.cell rfl⟩, C.cell rfl⟩
  · exact ⟨p, _, r, s, ⟨by rw [tryL_at _ _ _ _ hkl, if_neg (by omega), e0], by rw [tryL_at _ _ _ _ hkl, if_pos rfl], by rw [tryL_at _ _ _ _ hkl, if_neg (by omega), e2], by rw [tryL_at _ _ _ _ hkl, if_neg (by omega), e3]⟩, ⟨C.lt, C.cell rfl, C.cell rfl, C.cell rfl, C.cell rfl⟩, C.cell rfl⟩
  · exact ⟨p, q, _, s, ⟨by rw [tryL_at _ _ _ _ hkl, if_neg (by omega), e0], by rw [tryL_at _ _ _ _ hkl, if_neg (by omega), e1], by rw [tryL_at _ _ _ _ hkl, if_pos rfl], by rw [tryL_at _ _ _ _ hkl, if_neg (by omega), e3]⟩, ⟨C.lt, C.cell rfl, C.cell rfl, C.cell rfl, C.cell rfl⟩, C.cell rfl⟩
  · exact ⟨p, q, r, _, ⟨by rw [tryL_at _ _ _ _ hkl, if_neg (by omega), e0], by rw [tryL_at _ _ _ _ hkl, if_neg (by omega), e1], by rw [tryL_at _ _ _ _ hkl, if_neg (by omega), e2], by rw [tryL_at _ _ _ _ hkl, if_pos rfl]⟩, ⟨C.lt, C.cell rfl, C.cell rfl, C.cell rfl, C.cell rfl⟩, C.cell rfl⟩
theorem at_list4 {js : List Int} {p q r s : Int} (e : Is4 js p q r s) (k : Nat) (hk : k < 4) : ([.int .i64 p, .int .i64 q, .int .i64 r, .int .i64 s] : List Value)[k]? = some (.int .i64 (js.getD k 0)) := by
  obtain ⟨e0, e1, e2, e3⟩ := e
  have h4 : k = 0 ∨ k = 1 ∨ k = 2 ∨ k = 3 := by omega
  rcases h4 with rfl | rfl | rfl | rfl
  · rw [e0]; rfl
  · rw [e1]; rfl
  · rw [e2]; rfl
  · rw [e3]; rfl
theorem try_ok {ls lo hi js : List Int} {k : Nat} {d : Int} (h : okJoints ls lo hi js) (hk : k < ls.length) : okJoints ls lo hi (tryL js k d) ↔ (lo.getD k 0 ≤ js.getD k 0 + d ∧ js.getD k 0 + d ≤ hi.getD k 0) := by
  have hl := h.2.1
  have hkl : k < js.length := by omega
  constructor
  · intro g
    have := g.2.2 k (by first | exact hk | (rw [tryL_len]; exact hkl))
    rw [tryL_at _ _ _ _ hkl, if_pos rfl] at this
    exact this
  · intro g
    refine ⟨h.1, by rw [tryL_len]; exact hl, fun i hi' => ?_⟩
    rw [tryL_at _ _ _ _ hkl]
    by_cases he : i = k
    · subst he; rw [if_pos rfl]; exact g
    · rw [if_neg he]; exact h.2.2 i (by first | exact hi' | (rw [tryL_len] at hi'; exact hi'))
theorem candsM_mono (ok : List Int → Prop) [DecidablePred ok] (D : List Int → Int) (js : List Int) (m n : Nat) : (candsM ok D js m).length ≤ (candsM ok D js (m + n)).length := by
  induction n with
  | zero => exact Nat.le_refl _
  | succ n ih => rw [Nat.add_succ]; simp only [candsM, List.length_append]; omega
theorem candsM_lt (ok : List Int → Prop) [DecidablePred ok] (D : List Int → Int) (js : List Int) {m n : Nat} (h : m < n) (hc : ok (candM js m)) : (candsM ok D js m).length < (candsM ok D js n).length := by
  obtain ⟨i, rfl⟩ : ∃ i, n = (m + 1) + i := ⟨n - (m + 1), by omega⟩
  have h1 := candsM_mono ok D js (m + 1) i
  have h2 : (candsM ok D js (m + 1)).length = (candsM ok D js m).length + 1 := by simp [candsM, hc]
  omega
/-- A round's answer under one name, with what it keeps. -/
def SaidK (J Jx : List Cand → World → Prop) (xs : List Cand) (Kp : World → World → Prop) (W : World) (b : Bool) (W' : World) : Prop := (b = true ∧ J xs W' ∧ Kp W W') ∨ (b = false ∧ Jx xs W')
theorem saidK {F : Fence} {n : Nat} {P : Program} {l : Nat} {f : FuncId} {tmps : Array Value} {assign body : Code} {W : World} {J Jx : List Cand → World → Prop} {xs : List Cand} {Kp : World → World → Prop}
    (h : RoundIn F n P l f tmps assign body W fun e W' => (e = .returned (.bool true) ∧ J xs W' ∧ Kp W W') ∨ (e = .returned (.bool false) ∧ Jx xs W')) :
    RoundIn F n P l f tmps assign body W fun e W' => ∃ b : Bool, e = .returned (.bool b) ∧ Hid (SaidK J Jx xs Kp W b W') :=
  h.mono fun e W' hh => by
    rcases hh with ⟨rfl, h1, h2⟩ | ⟨rfl, h1⟩
    · exact ⟨true, rfl, Lib.hid (.inl ⟨rfl, h1, h2⟩)⟩
    · exact ⟨false, rfl, Lib.hid (.inr ⟨rfl, h1⟩)⟩
/-- What the iterator over the steps reads. -/
structure StepsAt (w : World) (Pn Sn b n cap : Nat) (tx ty p q r s : Int) : Prop where
  at4 : At4 w Pn p q r s
  ata : AtA w Sn (.slice (some ⟨b, 0, none⟩) n cap) (.int .i64 tx) (.int .i64 ty)
theorem StepsAt.next {w w' : World} {Pn Sn b n cap : Nat} {tx ty p q r s : Int} (h : StepsAt w Pn Sn b n cap tx ty p q r s) (hb : Below w.heap.size w w') : StepsAt w' Pn Sn b n cap tx ty p q r s := ⟨h.at4.next hb, h.ata.next hb⟩
set_option maxHeartbeats 8000000 in
theorem stepsStops (Pn Sn b cap : Nat) (ls lo hi js : List Int) (tx ty p q r s : Int) (w W0 : World) (hW0 : Below w.heap.size w W0) (hT : W0.heap.size = w.heap.size + 4) (h4j : Is4 js p q r s) (ht : TabAt w) (hA : StepsAt w Pn Sn b ls.length cap tx ty p q r s) (hc : ChainAt w b ls.length ls lo hi) (hok : okJoints ls lo hi js) (n : Nat) :
    SeqStopsK Fence.wide n Tryd.prog 113 #[.pointer (some ⟨Pn, 0, none⟩), .pointer (some ⟨Sn, 0, none⟩)] (fun c : Cand => #[cv c]) (KeepC w.heap.size (w.heap.size + 4)) (fun ys => ys = candsM (okJoints ls lo hi) (distV ls tx ty) js (2 * js.length)) (fun _ => True) (candsM (okJoints ls lo hi) (distV ls tx ty) js (2 * js.length)).length W0 := by
  intro l J Jx W hW hJ _ hY h0
  have HT := Lib.hid (show w.heap.size + 4 ≤ W.heap.size by have := hW.size; omega)
  have HW0 := Lib.hid (show Below w.heap.size w W from hW0.trans (hW.mono hW0.size))
  have HP := Lib.hid hA
  have HC := Lib.hid hc
  have HOK := Lib.hid hok
  have H4J := Lib.hid h4j
  have HLJ := Lib.hid (show js.length = ls.length from hok.2.1)
  have hn4 : ls.length ≤ 4 := hok.1.2.1
  have HDI := Lib.hid (fun (zs : List Int) (p' q' r' s' : Int) (h4 : Is4 zs p' q' r' s') (hz : okJoints ls lo hi zs) (u : World) (hu : Below w.heap.size w u) => distanceC b cap ls lo hi zs tx ty p' q' r' s' u h4 (ht.below hu ht.lt) (hc.next hu) hz)
  have HMK := Lib.hid (fun (zs : List Int) (p' q' r' s' : Int) (h4 : Is4 zs p' q' r' s') => show candOf (distV ls tx ty) zs = ⟨p', q', r', s', distV ls tx ty zs, 0⟩ by
    obtain ⟨e0, e1, e2, e3⟩ := h4; unfold candOf; rw [e0, e1, e2, e3])
  have HY := Lib.hid hY
  have HJ := Lib.hid (fun s A B (hs : J s A) (hb : Below A.heap.size A B) => abides hJ hs hb)
  have H00 := Lib.hid h0
  have HL0 := Lib.hid (show ([] : List Cand).length < (candsM (okJoints ls lo hi) (distV ls tx ty) js (2 * js.length)).length by
    have := candsM_mono (okJoints ls lo hi) (distV ls tx ty) js 0 (2 * js.length)
    rw [Nat.zero_add] at this
    exact Nat.lt_of_lt_of_le (by simp [candsM]) this)
  have HM0 := Lib.hid (HMK.out js p q r s h4j)
  have HOA := Lib.hid (fun k (hk : k < ls.length) => And.intro (hok.1.2.2.2.2 k hk) (hok.2.2 k (by first | exact hk | (rw [hok.2.1]; exact hk))))
  clear hY hJ hA hc ht hok hW hW0 hT h0 h4j
  refine callsIn_of_wp Tryd.func113 rfl trivial ?_ rfl
  simp only [Tryd.ntmps113, List.size_toArray, List.length_cons, List.length_nil, Nat.reduceAdd, Nat.reduceSub, Array.replicate_succ, Array.replicate_zero, List.push_toArray, List.append_toArray, List.nil_append, List.cons_append]
  have HPW := Lib.hid (HP.out.next HW0.out)
  obtain ⟨v0, v1, v2, v3⟩ := HPW.out.at4.kepts
  obtain ⟨u0, u1, u2⟩ := HPW.out.ata.kepts
  have HDK := Lib.hid (fun (n : Kept W) => keptCall (HDI.out js p q r s H4J.out HOK.out n.u (below_call HW0.out n.b)))
  generalize hdj : distV ls tx ty js = dj at HDK HM0
  clear hdj
  refine wpIn_seq ?_
  refine wpIn_seq ?_
  refine wpIn_region_tail 6 (by kernel_rfl) (by kernel_rfl) ?_
  simp only [List.take_succ_cons, List.take_zero, List.drop_succ_cons, List.drop_zero]
  repeat (go_big_quiet_step ((go_at_call 95; exact HDK.out _)))
  refine wpQuiet_nil ?_
  rintro w5 ⟨⟨_, K5⟩, rfl⟩
  obtain ⟨fn, tmps, assign, body, hy, hR⟩ := HY.out _ (candOf (distV ls tx ty) js) w5 (HJ.out _ _ _ H00.out K5) HL0.out
  rw [HM0.out] at hy
  clear u0 u1 u2 v0 v1 v2 v3 HDK
  gi_wp2
  refine ⟨(by intro h; cases h), ?_⟩
  refine (saidK hR).mono ?_
  rintro e w6 ⟨bb, rfl, S6⟩
  cases bb with
  | false =>
    have HS6 : Hid (Jx ([] ++ [candOf (distV ls tx ty) js]) w6) := Lib.hid (by
      rcases S6.out with ⟨h1, _⟩ | ⟨_, h1⟩
      · cases h1
      · exact h1)
    clear S6 hy hR
    gi_wp2
    refine bodyPost_ret (results_none rfl _ _ _) rfl ?_
    exact ⟨⟨_, rfl⟩, .inr ⟨_, trivial, HS6.out⟩⟩
  | true =>
    have HS6 : Hid (J (candsM (okJoints ls lo hi) (distV ls tx ty) js 0) w6 ∧ KeepC w.heap.size (w.heap.size + 4) w5 w6) := Lib.hid (by
      rcases S6.out with ⟨_, h1, h2⟩ | ⟨h1, _⟩
      · exact ⟨h1, h2⟩
      · cases h1)
    have HW6 := Lib.hid (show Below w.heap.size w w6 from (below_call HW0.out K5).trans HS6.out.2.low)
    have HT6 := Lib.hid (show w.heap.size + 4 ≤ w6.heap.size by have h1 := HS6.out.2.low.size; have h2 := K5.size; have h3 := HT.out; omega)
    have HJ6 := Lib.hid HS6.out.1
    clear S6 hy hR HW0 HT K5 H00 HPW HS6
    have HPW := Lib.hid (HP.out.next HW6.out)
    obtain ⟨_, s0, s1, s2, _, _, _⟩ := HPW.out.ata
    gi_wp2
    clear s0 s1 s2 HPW
    gi_loopw [20] (fun i wr => ∃ k : Nat, k ≤ ls.length ∧ i = .int .i64 (k : Int) ∧ Hid (J (candsM (okJoints ls lo hi) (distV ls tx ty) js (2 * k)) wr) ∧ Hid (Below w.heap.size w wr) ∧ Hid (w.heap.size + 4 ≤ wr.heap.size)) (fun i _ => ls.length - (intOf i).toNat)
    case atStart => exact ⟨0, Nat.zero_le _, rfl, HJ6, HW6, HT6⟩
    case round =>
      obtain ⟨k, hk, rfl, HJ1, HW1, HT1⟩ := hrel
      clear HJ6 HW6 HT6
      by_cases hlt : k < ls.length
      · have j1 : (k : Int) < (ls.length : Int) := by omega
        have HK4 := Lib.hid (And.intro hlt (show k < 4 by omega))
        obtain ⟨c0, c1, c2⟩ := (HC.out.next HW1.out).c k hlt
        have HOK1 := Lib.hid (HOA.out k hlt)
        generalize hlk : ls.getD k 0 = lk' at *
        generalize hlo : lo.getD k 0 = ok' at *
        generalize hhi : hi.getD k 0 = hk' at *
        have HLO := Lib.hid hlo
        have HHI := Lib.hid hhi
        clear hlk hlo hhi hlt
        have HCL := Lib.hid (Cells.new wr #[.int .i64 lk', .int .i64 ok', .int .i64 hk'] 82)
        have BL := below_box wr (.cells #[.int .i64 lk', .int .i64 ok', .int .i64 hk'] 82)
        have HWL := Lib.hid (below_call HW1.out BL)
        have HJL := Lib.hid (HJ.out _ _ _ HJ1.out BL)
        have HTL := Lib.hid (Nat.le_trans HT1.out BL.size)
        clear BL
        gi_wp2
        generalize wr.alloc (.cells #[.int .i64 lk', .int .i64 ok', .int .i64 hk'] 82) = wl at *
        clear c0 c1 c2
        obtain ⟨Lb, hLb⟩ : ∃ Lb, wr.heap.size = Lb := ⟨_, rfl⟩
        rw [hLb] at HCL ⊢
        have HTb := Lib.hid (show w.heap.size + 4 ≤ Lb by have := HT1.out; omega)
        clear hLb HJ1 HW1 HT1
        gi_loopw [26] (fun i wr => ∃ q : Nat, q ≤ 2 ∧ i = .int .i64 (q : Int) ∧ Hid (J (candsM (okJoints ls lo hi) (distV ls tx ty) js (2 * k + q)) wr) ∧ Hid (Below w.heap.size w wr) ∧ Hid (w.heap.size + 4 ≤ wr.heap.size) ∧ Hid (Cells wr Lb #[.int .i64 lk', .int .i64 ok', .int .i64 hk'] 82)) (fun i _ => 2 - (intOf i).toNat)
        case atStart => exact ⟨0, by omega, rfl, HJL, HWL, HTL, HCL⟩
        case round =>
          obtain ⟨qn, hq, rfl, HJ2, HW2, HT2, HC2⟩ := hrel
          clear HJL HWL HTL HCL
          by_cases hq2 : qn < 2
          · have j2 : (qn : Int) < 2 := by omega
            have hix := fun u => turnIx qn hq2 u
            obtain ⟨a0, a1, a2, a3, a4⟩ := (HP.out.next HW2.out).at4
            have HKA := Lib.hid (at_list4 H4J.out k HK4.out.2)
            obtain ⟨x, hx⟩ : ∃ x, js.getD k 0 = x := ⟨_, rfl⟩
            have x1 : -180 ≤ x := by have h1 := HOK1.out.1; have h2 := HOK1.out.2.1; unfold okLink at h1; rw [hx] at h2; omega
            have x2 : x ≤ 180 := by have h1 := HOK1.out.1; have h2 := HOK1.out.2.2; unfold okLink at h1; rw [hx] at h2; omega
            have hkx := HKA.out
            rw [hx] at hkx
            have HC3 := Lib.hid (Cells.new wr ([.int .i64 p, .int .i64 q, .int .i64 r, .int .i64 s].set k (.int .i64 (x + (2 * (qn : Int) - 1)))).toArray 91)
            have B4 := below_box wr (.cells ([.int .i64 p, .int .i64 q, .int .i64 r, .int .i64 s].set k (.int .i64 (x + (2 * (qn : Int) - 1)))).toArray 91)
            obtain ⟨p', q', r', s', I4, A4, ck⟩ := try_cells (js := js) (2 * (qn : Int) - 1) (by rw [hx]; exact HC3.out) H4J.out HK4.out.2 (by rw [HLJ.out]; exact HK4.out.1)
            rw [hx] at ck
            have HI4 := Lib.hid I4
            have HW4 := Lib.hid (below_call HW2.out B4)
            have HJ4 := Lib.hid (HJ.out _ _ _ HJ2.out B4)
            have HT4 := Lib.hid (Nat.le_trans HT2.out B4.size)
            have HC4 := Lib.hid (HC2.out.next B4)
            have HKR := Lib.hid (try_ok (d := 2 * (qn : Int) - 1) HOK.out HK4.out.1)
            rw [HLO.out, HHI.out, hx] at HKR
            have HX := Lib.hid hx
            have HCM := Lib.hid (candM_q (js := js) (k := k) hq2)
            have HSU := Lib.hid (show candsM (okJoints ls lo hi) (distV ls tx ty) js (2 * k + (qn + 1)) = candsM (okJoints ls lo hi) (distV ls tx ty) js (2 * k + qn) ++ (if okJoints ls lo hi (tryL js k (2 * (qn : Int) - 1)) then [candOf (distV ls tx ty) (tryL js k (2 * (qn : Int) - 1))] else []) by rw [← HCM.out]; rfl)
            have k4 : (k : Int) < 4 := by have := HK4.out.2; omega
            have l4 : wr.heap.size < (wr.alloc (.cells ([.int .i64 p, .int .i64 q, .int .i64 r, .int .i64 s].set k (.int .i64 (x + (2 * (qn : Int) - 1)))).toArray 91)).heap.size := A4.lt
            clear hx I4 B4 HC3 HKA
            gi_wp2
            generalize wr.alloc (.cells ([.int .i64 p, .int .i64 q, .int .i64 r, .int .i64 s].set k (.int .i64 (x + (2 * (qn : Int) - 1)))).toArray 91) = w4 at *
            generalize hzs : tryL js k (2 * (qn : Int) - 1) = zs at *
            clear hzs
            obtain ⟨v0, v1, v2, v3⟩ := A4.kepts
            obtain ⟨u0, u1, u2⟩ := (HP.out.next HW4.out).ata.kepts
            have ckk := keptCell l4 ck
            have f0 := keptCell (o := 0) HC4.out.lt (HC4.out.cell (i := 0) rfl)
            have f1 := keptCell (o := 1) HC4.out.lt (HC4.out.cell (i := 1) rfl)
            have f2 := keptCell (o := 2) HC4.out.lt (HC4.out.cell (i := 2) rfl)
            have HOL := Lib.hid (show ok' ≤ hk' by have h1 := HOK1.out.1; unfold okLink at h1; omega)
            clear a0 a1 a2 a3 a4 ck A4
            generalize hxd : x + (2 * (qn : Int) - 1) = xd at *
            clear hxd hkx
            by_cases ha : ok' ≤ xd ∧ xd ≤ hk'
            · have HZ := Lib.hid (HKR.out.2 ha)
              have HAL := Lib.hid (fun (n : Kept w4) => keptCall (linkAllowsY lk' ok' hk' xd n.u ha.1 ha.2))
              have HDK := Lib.hid (fun (n : Kept w4) => keptCall (HDI.out zs p' q' r' s' HI4.out HZ.out n.u (below_call HW4.out n.b)))
              have HNX := Lib.hid (show candsM (okJoints ls lo hi) (distV ls tx ty) js (2 * k + (qn + 1)) = candsM (okJoints ls lo hi) (distV ls tx ty) js (2 * k + qn) ++ [candOf (distV ls tx ty) zs] by rw [HSU.out, if_pos HZ.out])
              have HLT := Lib.hid (candsM_lt (okJoints ls lo hi) (distV ls tx ty) js (m := 2 * k + qn) (n := 2 * js.length) (by have h1 := HK4.out.1; have h2 := HLJ.out; omega) (by rw [HCM.out]; exact HZ.out))
              have HM2 := Lib.hid (HMK.out zs p' q' r' s' HI4.out)
              generalize distV ls tx ty zs = dz at HDK HM2
              clear ha
              refine wpIn_region_tail 12 (by kernel_rfl) (by kernel_rfl) ?_
              simp only [List.take_succ_cons, List.take_zero, List.drop_succ_cons, List.drop_zero]
              repeat (go_big_quiet_step ((first | (go_at_call 95; exact HDK.out _) | (go_at_call 87; exact HAL.out _))))
              refine wpQuiet_nil ?_
              rintro w5 ⟨⟨_, K5⟩, rfl⟩
              obtain ⟨fn, tmps, assign, body, hy, hR⟩ := HY.out _ (candOf (distV ls tx ty) zs) w5 (HJ.out _ _ _ HJ4.out K5) HLT.out
              rw [HM2.out] at hy
              clear u0 u1 u2 v0 v1 v2 v3 ckk f0 f1 f2
              gi_wp2
              refine ⟨(by intro h; cases h), ?_⟩
              refine (saidK hR).mono ?_
              rintro e w6 ⟨bb, rfl, S6⟩
              cases bb with
              | true =>
                have HS6 : Hid (J (candsM (okJoints ls lo hi) (distV ls tx ty) js (2 * k + (qn + 1))) w6 ∧ KeepC w.heap.size (w.heap.size + 4) w5 w6) := Lib.hid (by
                  rw [HNX.out]
                  rcases S6.out with ⟨_, h1, h2⟩ | ⟨h1, _⟩
                  · exact ⟨h1, h2⟩
                  · cases h1)
                have HW6 := Lib.hid (show Below w.heap.size w w6 from (below_call HW4.out K5).trans HS6.out.2.low)
                have HT6 := Lib.hid (show w.heap.size + 4 ≤ w6.heap.size by have h1 := HS6.out.2.low.size; have h2 := K5.size; have h3 := HT4.out; omega)
                have HC6 := Lib.hid (show Cells w6 Lb #[.int .i64 lk', .int .i64 ok', .int .i64 hk'] 82 from HS6.out.2.cells Lb _ HTb.out (HC4.out.next K5) rfl)
                clear S6 hy hR
                gi_wp2
                go_roundw
                case rel => exact ⟨qn + 1, by omega, by congr 1, Lib.hid HS6.out.1, HW6, HT6, HC6⟩
                case measure => simp [intOf]; omega
              | false =>
                have HS6 : Hid (Jx (candsM (okJoints ls lo hi) (distV ls tx ty) js (2 * k + qn) ++ [candOf (distV ls tx ty) zs]) w6) := Lib.hid (by
                  rcases S6.out with ⟨h1, _⟩ | ⟨_, h1⟩
                  · cases h1
                  · exact h1)
                clear S6 hy hR
                gi_wp2
                refine bodyPost_ret (results_none rfl _ _ _) rfl ?_
                exact ⟨⟨_, rfl⟩, .inr ⟨_, trivial, HS6.out⟩⟩
            · have HZ := Lib.hid (fun h => ha (HKR.out.1 h))
              have HAL := Lib.hid (fun (n : Kept w4) => keptCall (linkAllowsN lk' ok' hk' xd n.u HOL.out ha))
              have HNX := Lib.hid (show candsM (okJoints ls lo hi) (distV ls tx ty) js (2 * k + (qn + 1)) = candsM (okJoints ls lo hi) (distV ls tx ty) js (2 * k + qn) by rw [HSU.out, if_neg HZ.out, List.append_nil])
              clear ha
              refine wpIn_region_tail 12 (by kernel_rfl) (by kernel_rfl) ?_
              simp only [List.take_succ_cons, List.take_zero, List.drop_succ_cons, List.drop_zero]
              repeat (go_big_quiet_step ((first | (go_at_call 87; exact HAL.out _))))
              refine wpQuiet_nil ?_
              rintro w5 ⟨⟨_, K5⟩, rfl⟩
              clear u0 u1 u2 v0 v1 v2 v3 ckk f0 f1 f2
              have HJ5 := Lib.hid (show J (candsM (okJoints ls lo hi) (distV ls tx ty) js (2 * k + (qn + 1))) w5 by rw [HNX.out]; exact HJ.out _ _ _ HJ4.out K5)
              have HW5 := Lib.hid (below_call HW4.out K5)
              have HT5 := Lib.hid (Nat.le_trans HT4.out K5.size)
              have HC5 := Lib.hid (HC4.out.next K5)
              gi_wp2
              refine ⟨fun _ h => (by cases h), ?_⟩
              gi_wp2
              go_roundw
              case rel => exact ⟨qn + 1, by omega, by congr 1, HJ5, HW5, HT5, HC5⟩
              case measure => simp [intOf]; omega
          · obtain rfl : qn = 2 := by omega
            have j2 : ¬ ((2 : Nat) : Int) < 2 := by omega
            gi_wp2
            go_roundw
            case rel => exact ⟨k + 1, by have := HK4.out.1; omega, by congr 1, Lib.hid HJ2.out, HW2, HT2⟩
            case measure => have := HK4.out.1; simp [intOf]; omega
      · obtain rfl : k = ls.length := by omega
        have j1 : ¬ (ls.length : Int) < (ls.length : Int) := by omega
        gi_wp2
        go_end0
        exact ⟨⟨_, rfl⟩, .inl (by rw [HLJ.out]; exact HJ1.out)⟩
end Go.Proofs.YtolkihibjabmhaaDoor
namespace Go.Proofs.YtolkihibjabmhaaDoor
open Go.RowKit Go.Shelf
attribute [local go_sem ↓] Go.wp_at_zero Go.wp_at_succ
theorem is4_self (zs : List Int) : Is4 zs (zs.getD 0 0) (zs.getD 1 0) (zs.getD 2 0) (zs.getD 3 0) := ⟨rfl, rfl, rfl, rfl⟩
theorem stepsC (b n cap : Nat) (tx ty p q r s : Int) (w : World) : Calls Tryd.prog 109 #[sv b n cap tx ty, pv4 p q r s] w fun e w' => ∃ Pn Sn, e = .returned (.func (.func 113) #[] #[.pointer (some ⟨Pn, 0, none⟩), .pointer (some ⟨Sn, 0, none⟩)]) ∧ StepsAt w' Pn Sn b n cap tx ty p q r s ∧ Below w.heap.size w w' := by
  have hmf : ∀ (fn : Fn) (first cap : Array Value) (w : World), (Instr.makeFunc fn first cap).run Tryd.prog w = .ok (.func fn first cap) w := fun _ _ _ _ => rfl
  have P := (AtA.box w (.slice (some ⟨b, 0, none⟩) n cap) (.int .i64 tx) (.int .i64 ty) 88).alloc (pcells p q r s)
  have Q := At4.box (w.alloc (scells b n cap tx ty)) p q r s 91
  rw [show (w.alloc (scells b n cap tx ty)).heap.size = w.heap.size + 1 by simp] at Q
  have HR := Lib.hid (And.intro (StepsAt.mk Q P) (below_box2 w (scells b n cap tx ty) (pcells p q r s)))
  clear P Q
  go_enter Tryd.func109, Tryd.ntmps109
  go_wp2
  go_ret
  exact ⟨_, _, rfl, HR.out.1, HR.out.2⟩
theorem stepC (b cap : Nat) (ls lo hi js : List Int) (tx ty p q r s : Int) (w : World) (h4j : Is4 js p q r s) (ht : TabAt w) (hc : ChainAt w b ls.length ls lo hi) (hok : okJoints ls lo hi js) :
    Calls Tryd.prog 102 #[sv b ls.length cap tx ty, pv4 p q r s] w fun e w' => ∃ p' q' r' s', Hid (Is4 (stepV (okJoints ls lo hi) (distV ls tx ty) js) p' q' r' s') ∧ e = .returned (pv4 p' q' r' s') ∧ Below w.heap.size w w' := by
  have HB := Lib.hid (below_call (below_box2 w (scells b ls.length cap tx ty) (pcells p q r s)) (below_box ((w.alloc (scells b ls.length cap tx ty)).alloc (pcells p q r s)) (pcells 0 0 0 0)))
  have R := Own4.box ((w.alloc (scells b ls.length cap tx ty)).alloc (pcells p q r s)) 0 0 0 0 91
  rw [show ((w.alloc (scells b ls.length cap tx ty)).alloc (pcells p q r s)).heap.size = w.heap.size + 1 + 1 by simp] at R
  have HR := Lib.hid R
  have HT := Lib.hid ht
  have HC := Lib.hid hc
  have HO := Lib.hid hok
  have HI := Lib.hid h4j
  clear R ht hc hok h4j
  go_enter Tryd.func102, Tryd.ntmps102
  go_wp2_with fail
  refine (stepsC b ls.length cap tx ty p q r s _).mono ?_
  generalize ((w.alloc (scells b ls.length cap tx ty)).alloc (pcells p q r s)).alloc (pcells 0 0 0 0) = w0 at *
  rintro e w1 ⟨Pn, Sn, rfl, S1, B1⟩
  have HB1 := Lib.hid (below_call HB.out B1)
  have HR1 := Lib.hid (HR.out.next B1)
  have HS1 := Lib.hid S1
  clear S1 B1 HR HB
  have HBE := Lib.hid (show bestC (candsM (okJoints ls lo hi) (distV ls tx ty) js (2 * js.length)) = candOf (distV ls tx ty) (stepV (okJoints ls lo hi) (distV ls tx ty) js) by unfold bestC; rw [candsM_best]; rfl)
  go_wp2_with fail
  refine (leastK 113 _ (candsM (okJoints ls lo hi) (distV ls tx ty) js (2 * js.length)) w1 (enters_of Tryd.func113 (by kernel_rfl) rfl) (fun n W0 h1 h2 => stepsStops Pn Sn b cap ls lo hi js tx ty p q r s w1 W0 h1 h2 HI.out (HT.out.below HB1.out HT.out.lt) HS1.out (HC.out.next HB1.out) HO.out n)).mono ?_
  rw [HBE.out]
  obtain ⟨p', q', r', s', dd, h4, hcd⟩ : ∃ p' q' r' s' dd, Is4 (stepV (okJoints ls lo hi) (distV ls tx ty) js) p' q' r' s' ∧ candOf (distV ls tx ty) (stepV (okJoints ls lo hi) (distV ls tx ty) js) = ⟨p', q', r', s', dd, 0⟩ := ⟨_, _, _, _, _, is4_self _, rfl⟩
  rw [hcd]
  have HI4 := Lib.hid h4
  clear hcd h4 HBE
  rintro e w2 ⟨rfl, B2⟩
  have HB2 := Lib.hid (below_call HB1.out B2)
  obtain ⟨⟨_, r0, r1, r2, r3⟩, z0, z1, z2, z3⟩ := HR1.out.next B2
  have HE := Lib.hid (below_set4 HB2.out (show w.heap.size ≤ w.heap.size + 1 + 1 by omega) (.int .i64 p') (.int .i64 q') (.int .i64 r') (.int .i64 s'))
  have hfl := fun u => fieldC ⟨p', q', r', s', dd, 0⟩ u
  clear B2 HR1 HB1
  go_wp2
  exact bodyPost_ret (v := pv4 p' q' r' s') (by simp [results, Tryd.results102, go_sem, r0, r1, r2, r3]) rfl ⟨p', q', r', s', HI4, rfl, HE.out⟩
theorem Own4.set4 {w : World} {b : Nat} {p q r s : Int} (h : Own4 w b p q r s) (p' q' r' s' : Int) : Own4 ((((w.setCell ⟨b, 0, none⟩ (.int .i64 p')).setCell ⟨b, 1, none⟩ (.int .i64 q')).setCell ⟨b, 2, none⟩ (.int .i64 r')).setCell ⟨b, 3, none⟩ (.int .i64 s')) b p' q' r' s' := by
  obtain ⟨⟨lt, r0, r1, r2, r3⟩, z0, z1, z2, z3⟩ := h
  exact ⟨⟨by simpa using lt, by simp [go_sem, r0], by simp [go_sem, r1], by simp [go_sem, r2], by simp [go_sem, r3]⟩, by simp [go_sem, z0], by simp [go_sem, z1], by simp [go_sem, z2], by simp [go_sem, z3]⟩
theorem Own4.far {w : World} {b c o : Nat} {p q r s : Int} (h : Own4 w b p q r s) (hc : c ≠ b) (v : Value) : Own4 (w.setCell ⟨c, o, none⟩ v) b p q r s :=
  ⟨⟨by simpa [World.setCell] using h.lt, (World.cell?_setCell_far _ _ _ _ hc).trans h.c0, (World.cell?_setCell_far _ _ _ _ hc).trans h.c1, (World.cell?_setCell_far _ _ _ _ hc).trans h.c2, (World.cell?_setCell_far _ _ _ _ hc).trans h.c3⟩,
    (World.frozen?_setCell _ _ _ _).trans h.z0, (World.frozen?_setCell _ _ _ _).trans h.z1, (World.frozen?_setCell _ _ _ _).trans h.z2, (World.frozen?_setCell _ _ _ _).trans h.z3⟩
/-- What follow keeps between two steps: the search, the posture, the result's place. -/
structure FollowI (sz : Nat) (w : World) (x y z : Value) (p q r s : Int) : Prop where
  sb : AtA w sz x y z
  pb : Own4 w (sz + 1) p q r s
  rb : Own4 w (sz + 1 + 1) 0 0 0 0
theorem FollowI.next {sz : Nat} {w w' : World} {x y z : Value} {p q r s : Int} (h : FollowI sz w x y z p q r s) (hb : Below w.heap.size w w') : FollowI sz w' x y z p q r s := ⟨h.sb.next hb, h.pb.next hb, h.rb.next hb⟩
theorem FollowI.set {sz : Nat} {w : World} {x y z : Value} {p q r s : Int} (h : FollowI sz w x y z p q r s) (p' q' r' s' : Int) : FollowI sz ((((w.setCell ⟨sz + 1, 0, none⟩ (.int .i64 p')).setCell ⟨sz + 1, 1, none⟩ (.int .i64 q')).setCell ⟨sz + 1, 2, none⟩ (.int .i64 r')).setCell ⟨sz + 1, 3, none⟩ (.int .i64 s')) x y z p' q' r' s' :=
  ⟨(((h.sb.far (by omega) _).far (by omega) _).far (by omega) _).far (by omega) _, h.pb.set4 p' q' r' s', (((h.rb.far (by omega) _).far (by omega) _).far (by omega) _).far (by omega) _⟩
theorem part4_0 (a c d f : Int) (u : World) : (Go.part 3 #[.int .i64 a, .int .i64 c, .int .i64 d, .int .i64 f] 0).run Tryd.prog u = .ok (.int .i64 a) u := by kernel_rfl
theorem part4_1 (a c d f : Int) (u : World) : (Go.part 3 #[.int .i64 a, .int .i64 c, .int .i64 d, .int .i64 f] 1).run Tryd.prog u = .ok (.int .i64 c) u := by kernel_rfl
theorem part4_2 (a c d f : Int) (u : World) : (Go.part 3 #[.int .i64 a, .int .i64 c, .int .i64 d, .int .i64 f] 2).run Tryd.prog u = .ok (.int .i64 d) u := by kernel_rfl
theorem part4_3 (a c d f : Int) (u : World) : (Go.part 3 #[.int .i64 a, .int .i64 c, .int .i64 d, .int .i64 f] 3).run Tryd.prog u = .ok (.int .i64 f) u := by kernel_rfl
theorem eq4 (a c d f a' c' d' f' : Int) (u : World) : (Op.equalIn 10000 91 (.agg #[.int .i64 a', .int .i64 c', .int .i64 d', .int .i64 f']) (.agg #[.int .i64 a, .int .i64 c, .int .i64 d, .int .i64 f])).run Tryd.prog u = .ok (decide (a' = a ∧ c' = c ∧ d' = d ∧ f' = f)) u := by
  obtain ⟨i0, hi0, _, _, _⟩ := info_parts infoInt
  have E : ∀ (x y : Int) (w : World), (Op.equalIn 9999 3 (.int .i64 x) (.int .i64 y)).run Tryd.prog w = .ok (x == y) w := fun x y w => run_equalIn_int (P := Tryd.prog) w 9998 3 .i64 .i64 x y (by kernel_rfl)
  have hc : Tryd.prog.cellsOf 3 = 1 := by kernel_rfl
  refine (run_equalIn_array u 9999 _ _ (show Tryd.prog.underlying 91 = some (.array 4 3) by kernel_rfl) hi0).trans ?_
  rw [hc, show List.range 4 = [0, 1, 2, 3] from rfl]
  by_cases h0 : a' = a
  · by_cases h1 : c' = c
    · by_cases h2 : d' = d
      · by_cases h3 : f' = f
        · simp [Op.eqItems, part4_0, part4_1, part4_2, part4_3, E, h0, h1, h2, h3]
        · simp [Op.eqItems, part4_0, part4_1, part4_2, part4_3, E, h0, h1, h2, h3]
      · simp [Op.eqItems, part4_0, part4_1, part4_2, E, h0, h1, h2]
    · simp [Op.eqItems, part4_0, part4_1, E, h0, h1]
  · simp [Op.eqItems, part4_0, E, h0]
theorem is4_eq {us vs : List Int} {a c d f : Int} (h1 : Is4 us a c d f) (h2 : Is4 vs a c d f) (hl : us.length = vs.length) (h4 : us.length ≤ 4) : us = vs := by
  obtain ⟨e0, e1, e2, e3⟩ := h1
  obtain ⟨g0, g1, g2, g3⟩ := h2
  apply List.ext_getElem hl
  intro i i1 i2
  have hi : us.getD i 0 = vs.getD i 0 := by
    have h : i = 0 ∨ i = 1 ∨ i = 2 ∨ i = 3 := by omega
    rcases h with rfl | rfl | rfl | rfl
    · rw [e0, g0]
    · rw [e1, g1]
    · rw [e2, g2]
    · rw [e3, g3]
  simpa [List.getD_eq_getElem?_getD, List.getElem?_eq_getElem i1, List.getElem?_eq_getElem i2] using hi
set_option maxHeartbeats 1000000 in
theorem followC (b cap : Nat) (ls lo hi js : List Int) (tx ty p q r s : Int) (st : Nat) (w : World) (h4j : Is4 js p q r s) (ht : TabAt w) (hc : ChainAt w b ls.length ls lo hi) (hok : okJoints ls lo hi js) (hst : st ≤ 500) :
    Calls Tryd.prog 83 #[sv b ls.length cap tx ty, pv4 p q r s, .int .i64 (st : Int)] w fun e w' => ∃ p' q' r' s', Hid (Is4 (flJ ls lo hi js tx ty st) p' q' r' s') ∧ e = .returned (pv4 p' q' r' s') ∧ Below w.heap.size w w' := by
  have HB := Lib.hid (below_call (below_box2 w (scells b ls.length cap tx ty) (pcells p q r s)) (below_box ((w.alloc (scells b ls.length cap tx ty)).alloc (pcells p q r s)) (pcells 0 0 0 0)))
  have R := Own4.box ((w.alloc (scells b ls.length cap tx ty)).alloc (pcells p q r s)) 0 0 0 0 91
  rw [show ((w.alloc (scells b ls.length cap tx ty)).alloc (pcells p q r s)).heap.size = w.heap.size + 1 + 1 by simp] at R
  have Q := (Own4.box (w.alloc (scells b ls.length cap tx ty)) p q r s 91).next (below_box _ (pcells 0 0 0 0))
  rw [show (w.alloc (scells b ls.length cap tx ty)).heap.size = w.heap.size + 1 by simp] at Q
  have P := ((AtA.box w (.slice (some ⟨b, 0, none⟩) ls.length cap) (.int .i64 tx) (.int .i64 ty) 88).alloc (pcells p q r s)).alloc (pcells 0 0 0 0)
  have HFI := Lib.hid (FollowI.mk P Q R)
  have HT := Lib.hid ht
  have HC := Lib.hid hc
  have HI := Lib.hid (show Is4 (flJ ls lo hi js tx ty 0) p q r s from h4j)
  have HF := Lib.hid (fun m => flJ_ok tx ty hok m)
  clear R P Q ht hc hok h4j
  go_enter Tryd.func83, Tryd.ntmps83
  go_wp2
  generalize ((w.alloc (scells b ls.length cap tx ty)).alloc (pcells p q r s)).alloc (pcells 0 0 0 0) = w0 at *
  go_loopw [9] (fun i wr => ∃ m : Nat, m ≤ st ∧ i = .int .i64 (m : Int) ∧ ∃ p' q' r' s' : Int, Hid (Is4 (flJ ls lo hi js tx ty m) p' q' r' s') ∧ Hid (FollowI w.heap.size wr (.slice (some ⟨b, 0, none⟩) ls.length cap) (.int .i64 tx) (.int .i64 ty) p' q' r' s') ∧ Hid (Below w.heap.size w wr)) (fun i _ => st - (intOf i).toNat)
  case atStart => exact ⟨0, Nat.zero_le _, rfl, p, q, r, s, HI, HFI, HB⟩
  case round =>
    obtain ⟨m, hm, rfl, a, c, d, f, HI1, HF1, HB1⟩ := hrel
    clear HI HFI HB
    obtain ⟨⟨_, s0, s1, s2, _, _, _⟩, ⟨⟨_, p0, p1, p2, p3⟩, y0, y1, y2, y3⟩, ⟨⟨_, r0, r1, r2, r3⟩, z0, z1, z2, z3⟩⟩ := HF1.out
    by_cases hlt : m < st
    · have j1 : (m : Int) < (st : Int) := by omega
      go_wp2_with fail
      refine (stepC b cap ls lo hi (flJ ls lo hi js tx ty m) tx ty a c d f _ HI1.out (HT.out.below HB1.out HT.out.lt) (HC.out.next HB1.out) (HF.out m)).mono ?_
      rintro e w2 ⟨a', c', d', f', HI2, rfl, B2⟩
      replace HI2 : Hid (Is4 (flJ ls lo hi js tx ty (m + 1)) a' c' d' f') := HI2
      have B3 := below_call B2 (below_box w2 (pcells a' c' d' f'))
      have HF3 := Lib.hid (HF1.out.next B3)
      have HB3 := Lib.hid (below_call HB1.out B3)
      have HQ3 := Lib.hid (At4.box w2 a' c' d' f' 91)
      clear s0 s1 s2 p0 p1 p2 p3 y0 y1 y2 y3 r0 r1 r2 r3 z0 z1 z2 z3 B2 B3 HF1 HB1
      obtain ⟨⟨_, s0, s1, s2, _, _, _⟩, ⟨⟨_, p0, p1, p2, p3⟩, y0, y1, y2, y3⟩, ⟨⟨_, r0, r1, r2, r3⟩, z0, z1, z2, z3⟩⟩ := HF3.out
      obtain ⟨_, q0, q1, q2, q3⟩ := HQ3.out
      by_cases he : a' = a ∧ c' = c ∧ d' = d ∧ f' = f
      · have heq : ∀ u, (Op.equalIn 10000 91 (.agg #[.int .i64 a', .int .i64 c', .int .i64 d', .int .i64 f']) (.agg #[.int .i64 a, .int .i64 c, .int .i64 d, .int .i64 f])).run Tryd.prog u = .ok true u := fun u => by rw [eq4, decide_eq_true he]
        have HEQ := Lib.hid (show Is4 (flJ ls lo hi js tx ty st) a c d f by
          have h1 := HI1.out
          have h2 := HI2.out
          rw [he.1, he.2.1, he.2.2.1, he.2.2.2] at h2
          have h3 : flJ ls lo hi js tx ty (m + 1) = flJ ls lo hi js tx ty m := is4_eq h2 h1 (by rw [flJ_len, flJ_len]) (by rw [flJ_len]; have := (HF.out 0).1.2.1; have h5 := (HF.out 0).2.1; rw [flJ_len] at h5; omega)
          have h4 := followM_stays (okJoints ls lo hi) (distV ls tx ty) (js := js) m (st - m) h3
          rw [show m + (st - m) = st by omega] at h4
          show Is4 (followM (okJoints ls lo hi) (distV ls tx ty) js st) a c d f
          rw [h4]
          exact h1)
        have HE := Lib.hid (below_set4 HB3.out (show w.heap.size ≤ w.heap.size + 1 + 1 by omega) (.int .i64 a) (.int .i64 c) (.int .i64 d) (.int .i64 f))
        clear he
        go_wp2
        exact bodyPost_ret (v := pv4 a c d f) (by simp [results, Tryd.results83, go_sem, r0, r1, r2, r3]) rfl ⟨a, c, d, f, HEQ, rfl, HE.out⟩
      · have heq : ∀ u, (Op.equalIn 10000 91 (.agg #[.int .i64 a', .int .i64 c', .int .i64 d', .int .i64 f']) (.agg #[.int .i64 a, .int .i64 c, .int .i64 d, .int .i64 f])).run Tryd.prog u = .ok false u := fun u => by rw [eq4, decide_eq_false he]
        have HF4 := Lib.hid (HF3.out.set a' c' d' f')
        have HB4 := Lib.hid (below_set4 HB3.out (show w.heap.size ≤ w.heap.size + 1 by omega) (.int .i64 a') (.int .i64 c') (.int .i64 d') (.int .i64 f'))
        clear he
        go_wp2
        go_roundw
        case rel => exact ⟨m + 1, by omega, by congr 1, a', c', d', f', HI2, HF4, HB4⟩
        case measure => simp [intOf]; omega
    · obtain rfl : m = st := by omega
      have j1 : ¬ (m : Int) < (m : Int) := by omega
      have HE := Lib.hid (below_set4 HB1.out (show w.heap.size ≤ w.heap.size + 1 + 1 by omega) (.int .i64 a) (.int .i64 c) (.int .i64 d) (.int .i64 f))
      go_wp2
      exact bodyPost_ret (v := pv4 a c d f) (by simp [results, Tryd.results83, go_sem, r0, r1, r2, r3]) rfl ⟨a, c, d, f, HI1, rfl, HE.out⟩
set_option maxHeartbeats 4000000 in
theorem implFollowPoint (x y z j : Sl) (ls lo hi js : List Int) (tx ty st : Int) (w : World) (ht : TabAt w) (hx : IntsAt w x.a x.len ls) (hy : IntsAt w y.a y.len lo) (hz : IntsAt w z.a z.len hi) (hj : IntsAt w j.a j.len js) (bx : x.len ≤ 9223372036854775807) (b_y : y.len ≤ 9223372036854775807) (bz : z.len ≤ 9223372036854775807) (bj : j.len ≤ 9223372036854775807) :
    Calls Tryd.prog 49 #[av x y z, .slice j.a j.len j.cap, pt tx ty, .int .i64 st] w (Rowed (followV ls lo hi js tx ty st) w) := by
  obtain ⟨xa, xl, xc⟩ := x
  obtain ⟨ya, yl, yc⟩ := y
  obtain ⟨za, zl, zc⟩ := z
  obtain ⟨ja, jl, jc⟩ := j
  simp only at *
  have Q := AtP.box (w.alloc (.cells #[.slice xa xl xc, .slice ya yl yc, .slice za zl zc] 25)) tx ty 35
  rw [show (w.alloc (.cells #[.slice xa xl xc, .slice ya yl yc, .slice za zl zc] 25)).heap.size = w.heap.size + 1 by simp] at Q
  have HB := Lib.hid (below_box2 w (.cells #[.slice xa xl xc, .slice ya yl yc, .slice za zl zc] 25) (.cells #[.int .i64 tx, .int .i64 ty] 35))
  have HT := Lib.hid ht
  replace hx := hx.next HB.out
  replace hy := hy.next HB.out
  replace hz := hz.next HB.out
  replace hj := hj.next HB.out
  clear ht
  go_enter Tryd.func49, Tryd.ntmps49
  go_wp2_with fail
  refine (chainOf ⟨xa, xl, xc⟩ ⟨ya, yl, yc⟩ ⟨za, zl, zc⟩ ls lo hi _ hx hy hz bx b_y bz).mono ?_
  generalize (w.alloc (.cells #[.slice xa xl xc, .slice ya yl yc, .slice za zl zc] 25)).alloc (.cells #[.int .i64 tx, .int .i64 ty] 35) = w0 at *
  rintro e w1 ⟨B1, ⟨hok, b, rfl, _, hc⟩ | ⟨hok, rfl⟩⟩
  · have HB1 := Lib.hid (below_call HB.out B1)
    have Q1 := Q.next B1
    have hj1 := hj.next B1
    clear B1 hx hy hz hj Q
    go_wp2_with fail
    refine (allows b _ ⟨ja, jl, jc⟩ ls lo hi js _ hc hok hj1 bj).mono ?_
    by_cases hv : okJoints ls lo hi js
    · rw [decide_eq_true hv]
      rintro e w2 ⟨rfl, B2⟩
      have HB2 := Lib.hid (below_call HB1.out B2)
      have Q2 := Q1.next B2
      have HC2 := Lib.hid (hc.next B2)
      have HJ2 := Lib.hid (hj1.next B2)
      obtain ⟨_, q0, q1⟩ := id Q2
      clear B2 Q1 hc hj1 HB1
      go_wp2_with fail
      by_cases hp : okP tx ty
      · refine (validY tx ty _ hp).mono ?_
        rintro e w3 ⟨rfl, B3⟩
        have HB3 := Lib.hid (below_call HB2.out B3)
        have HC3 := Lib.hid (HC2.out.next B3)
        have HJ3 := Lib.hid (HJ2.out.next B3)
        obtain ⟨_, q2, q3⟩ := Q2.next B3
        clear B3 q0 q1 HB2 HC2 HJ2 Q2
        by_cases hs : 0 ≤ st ∧ st ≤ 500
        · obtain ⟨sn, rfl⟩ : ∃ sn : Nat, st = (sn : Int) := ⟨st.toNat, by omega⟩
          have HV := Lib.hid (followV_in ⟨hv, hp, hs⟩)
          have t1 : decide ((sn : Int) < 0) = false := decide_eq_false (by omega)
          have t2 : decide (500 < (sn : Int)) = false := decide_eq_false (by omega)
          have n1 : 1 ≤ ls.length := hok.1
          have n2 : ls.length ≤ 4 := hok.2.1
          have HL := Lib.hid (show js.length = ls.length from hv.2.1)
          have HJL := Lib.hid (show jl = js.length from HJ3.out.1)
          have HOV := Lib.hid hv
          have SB := AtA.box w3 (.slice (some ⟨b, 0, none⟩) ls.length ls.length) (.int .i64 tx) (.int .i64 ty) 88
          have HB4 := Lib.hid (below_call HB3.out (below_box w3 (scells b ls.length ls.length tx ty)))
          have HC4 := Lib.hid (HC3.out.next (below_box w3 (scells b ls.length ls.length tx ty)))
          have HJ4 := Lib.hid (HJ3.out.next (below_box w3 (scells b ls.length ls.length tx ty)))
          have HFE := Lib.hid (show followV ls lo hi js tx ty (sn : Int) = flJ ls lo hi js tx ty sn by rw [HV.out]; rfl)
          have hs5 : sn ≤ 500 := by omega
          clear hok hv hp hs
          go_wp2
          generalize w3.alloc (scells b ls.length ls.length tx ty) = w4 at *
          have gg : Below w4.heap.size w4 w4 := Below.refl _ _
          obtain ⟨p, q, r, s, h4⟩ : ∃ p q r s, Is4 js p q r s := ⟨_, _, _, _, is4_self js⟩
          have HI := Lib.hid h4
          clear h4
          have HPO := Lib.hid (fun (u : World) (hu : Below w4.heap.size w4 u) => show Calls Tryd.prog 84 #[.slice ja jl jc] u fun e w' => e = .returned (pv4 p q r s) ∧ Below w4.heap.size w4 w' from
            (postureC ⟨ja, jl, jc⟩ js p q r s u HI.out (HJ4.out.next hu) (by have h1 := HL.out; have h2 := HJL.out; simp only; omega) (by have h1 := HL.out; have h2 := HJL.out; simp only; omega)).mono fun _ _ ⟨he, hb⟩ => ⟨he, below_call hu hb⟩)
          have HFO := Lib.hid (fun (u : World) (hu : Below w4.heap.size w4 u) => show Calls Tryd.prog 83 #[sv b ls.length ls.length tx ty, pv4 p q r s, .int .i64 (sn : Int)] u fun e w' => ∃ p' q' r' s', Hid (Is4 (flJ ls lo hi js tx ty sn) p' q' r' s') ∧ e = .returned (pv4 p' q' r' s') ∧ Below w4.heap.size w4 w' from
            (followC b ls.length ls lo hi js tx ty p q r s sn u HI.out (HT.out.below (below_call HB4.out hu) HT.out.lt) (HC4.out.next hu) HOV.out hs5).mono fun _ _ ⟨p', q', r', s', h1, he, hb⟩ => ⟨p', q', r', s', h1, he, below_call hu hb⟩)
          have HRC := Lib.hid (fun (p' q' r' s' : Int) (h4 : Hid (Is4 (flJ ls lo hi js tx ty sn) p' q' r' s')) (u : World) (hu : Below w4.heap.size w4 u) => show Calls Tryd.prog 73 #[sv b ls.length ls.length tx ty, pv4 p' q' r' s'] u fun e w' => ∃ s : Sl, e = .returned (.slice s.a s.len s.cap) ∧ Hid (OwnI w' u.heap.size (.slice s.a s.len s.cap) (flJ ls lo hi js tx ty sn) ∧ s.len = (flJ ls lo hi js tx ty sn).length ∧ Below u.heap.size u w') ∧ Below w4.heap.size w4 w' by
            have h := resultC b ls.length (flJ ls lo hi js tx ty sn) tx ty p' q' r' s' u h4.out (by rw [flJ_len, HL.out]; exact n1) (by rw [flJ_len, HL.out]; exact n2)
            rw [show (flJ ls lo hi js tx ty sn).length = ls.length by rw [flJ_len, HL.out]] at h
            exact h.mono fun _ _ ⟨s, he, h1, h2, h3⟩ => ⟨s, he, Lib.hid ⟨h1, h2, h3⟩, below_call hu h3⟩)
          clear n1 n2 hs5
          go_region_held3 (fun u => u.cell? ⟨w3.heap.size, 0, none⟩ = some (.slice (some ⟨b, 0, none⟩) ls.length ls.length) ∧ u.cell? ⟨w3.heap.size, 1, none⟩ = some (.int .i64 tx) ∧ u.cell? ⟨w3.heap.size, 2, none⟩ = some (.int .i64 ty)) (exact keepSv (by repeat (first | (with_reducible assumption) | (with_reducible apply Below.drew))) SB) (first
            | (go_at_call 84
               (with_reducible refine (HPO.out _ (by repeat (first | (with_reducible assumption) | (with_reducible apply Below.drew)))).mono ?_)
               rintro e w5 ⟨rfl, K5⟩)
            | (go_at_call 83
               (with_reducible refine (HFO.out _ (by repeat (first | (with_reducible assumption) | (with_reducible apply Below.drew)))).mono ?_)
               rintro e w6 ⟨a, c, d, f, HI6, rfl, K6⟩)
            | (go_at_call 73
               (with_reducible refine (HRC.out _ _ _ _ HI6 _ (by repeat (first | (with_reducible assumption) | (with_reducible apply Below.drew)))).mono ?_)
               rintro e w7 ⟨s7, rfl, H7, K7⟩)
            | fail)
          have HW6 := Lib.hid (below_call HB4.out K6)
          clear K5 K6 K7 gg
          go_wp2
          go_ret
          exact ⟨s7, rfl, by rw [HFE.out]; exact H7.out.1.mono HW6.out.size, by rw [HFE.out]; exact H7.out.2.1, below_call HW6.out H7.out.2.2⟩
        · have HV := Lib.hid (followV_out fun h => hs h.2.2 : followV ls lo hi js tx ty st = [])
          by_cases h0 : st < 0
          · have t1 : decide (st < 0) = true := decide_eq_true h0
            clear hs
            go_wp2
            go_ret
            rw [HV.out]
            exact rowed_none HB3.out
          · have t1 : decide (st < 0) = false := decide_eq_false h0
            have t2 : decide (500 < st) = true := decide_eq_true (by omega)
            clear hs
            go_wp2
            go_ret
            rw [HV.out]
            exact rowed_none HB3.out
      · have HV := Lib.hid (followV_out fun h => hp h.2.1 : followV ls lo hi js tx ty st = [])
        refine (validN tx ty _ hp).mono ?_
        rintro e w3 ⟨rfl, B3⟩
        have HB3 := Lib.hid (below_call HB2.out B3)
        clear B3 q0 q1 HB2 HC2 HJ2 Q2
        go_wp2
        go_ret
        rw [HV.out]
        exact rowed_none HB3.out
    · have HV := Lib.hid (followV_out fun h => hv h.1 : followV ls lo hi js tx ty st = [])
      rw [decide_eq_false hv]
      rintro e w2 ⟨rfl, B2⟩
      have HB2 := Lib.hid (below_call HB1.out B2)
      clear B2 Q1 hc hj1 HB1
      go_wp2
      go_ret
      rw [HV.out]
      exact rowed_none HB2.out
  · have HV := Lib.hid (followV_out fun h => hok h.1.1 : followV ls lo hi js tx ty st = [])
    have HB1 := Lib.hid (below_call HB.out B1)
    clear B1 hx hy hz hj Q hok
    go_wp2_with fail
    refine (allowsNil ⟨ja, jl, jc⟩ _).mono ?_
    rintro e w' ⟨rfl, rfl⟩
    go_wp2
    go_ret
    rw [HV.out]
    exact rowed_none HB1.out
theorem stepsV_follow (ls lo hi js : List Int) (tx ty : Int) : followV ls lo hi js tx ty 1 = stepsV ls lo hi js tx ty := by
  by_cases h : okJoints ls lo hi js ∧ okP tx ty
  · rw [stepsV_in h, followV_in ⟨h.1, h.2, by omega, by omega⟩]; rfl
  · rw [followV_out fun k => h ⟨k.1, k.2.1⟩]
    unfold stepsV
    rw [if_neg h]
theorem implStepJoints (x y z j : Sl) (ls lo hi js : List Int) (tx ty : Int) (w : World) (ht : TabAt w) (hx : IntsAt w x.a x.len ls) (hy : IntsAt w y.a y.len lo) (hz : IntsAt w z.a z.len hi) (hj : IntsAt w j.a j.len js) (bx : x.len ≤ 9223372036854775807) (b_y : y.len ≤ 9223372036854775807) (bz : z.len ≤ 9223372036854775807) (bj : j.len ≤ 9223372036854775807) :
    Calls Tryd.prog 45 #[av x y z, .slice j.a j.len j.cap, pt tx ty] w (Rowed (stepsV ls lo hi js tx ty) w) := by
  obtain ⟨xa, xl, xc⟩ := x
  obtain ⟨ya, yl, yc⟩ := y
  obtain ⟨za, zl, zc⟩ := z
  obtain ⟨ja, jl, jc⟩ := j
  simp only at *
  have HB := Lib.hid (below_box2 w (.cells #[.slice xa xl xc, .slice ya yl yc, .slice za zl zc] 25) (.cells #[.int .i64 tx, .int .i64 ty] 35))
  go_enter Tryd.func45, Tryd.ntmps45
  go_wp2_with fail
  refine (implFollowPoint ⟨xa, xl, xc⟩ ⟨ya, yl, yc⟩ ⟨za, zl, zc⟩ ⟨ja, jl, jc⟩ ls lo hi js tx ty 1 _ (ht.below HB.out ht.lt) (hx.next HB.out) (hy.next HB.out) (hz.next HB.out) (hj.next HB.out) bx b_y bz bj).mono ?_
  rw [stepsV_follow]
  generalize (w.alloc (.cells #[.slice xa xl xc, .slice ya yl yc, .slice za zl zc] 25)).alloc (.cells #[.int .i64 tx, .int .i64 ty] 35) = w0 at *
  rintro e w1 ⟨s1, rfl, O1, l1, B1⟩
  have HR := Lib.hid (show Rowed (stepsV ls lo hi js tx ty) w (.returned (.slice s1.a s1.len s1.cap)) w1 from ⟨s1, rfl, O1.mono HB.out.size, l1, below_call HB.out B1⟩)
  clear O1 l1 B1 hx hy hz hj ht
  go_wp2
  go_ret
  exact HR.out
end Go.Proofs.YtolkihibjabmhaaDoor
