/- Rows of rows of booleans in blocks of their own: copied, marked, held. -/
import Derived.Test.YtkogoflcacameaaBo11
import Derived.Test.YtkogoflcacameaaCe11
namespace Go.Proofs.Ytkogoflcacameaa.Bol
set_option maxRecDepth 100000
open Go.RowKit
attribute [local go_sem ↓] Go.wp_at_zero Go.wp_at_succ
/-- A row's length. -/
def rl (pss : List (List Bool)) (i : Nat) : Nat := (pss.getD i []).length
/-- The first k rows lie in blocks of their own. -/
structure RowsM (u : World) (g len k : Nat) (pss : List (List Bool)) (vs : List Value) (bk : Nat → Nat) : Prop where
  own : u.ownsRow g 46 1 (.slice (some ⟨g, 0, none⟩) len len) len vs
  val : ∀ i, i < k → vs[i]? = some (.slice (some ⟨bk i, 0, none⟩) (rl pss i) (rl pss i))
  row : ∀ i, i < k → OwnB u (g + 1) (.slice (some ⟨bk i, 0, none⟩) (rl pss i) (rl pss i)) (pss.getD i [])
  gt : ∀ i, i < k → g < bk i
  lt : ∀ i, i < k → bk i < u.heap.size
  inc : ∀ i j, i < j → j < k → bk i < bk j
theorem RowsM.next {u u' : World} {g len k : Nat} {pss : List (List Bool)} {vs : List Value} {bk : Nat → Nat} (h : RowsM u g len k pss vs bk) (hb : Below u.heap.size u u') : RowsM u' g len k pss vs bk :=
  ⟨World.ownsRow.kept (row := none) h.own ⟨hb.os, hb.tape, hb.output, hb.size, fun k hk _ => hb.block k hk⟩ (.inr (by simp [Value.ownBlock])), h.val, fun i hi => (h.row i hi).next hb, h.gt, fun i hi => Nat.lt_of_lt_of_le (h.lt i hi) hb.size, h.inc⟩
theorem RowsM.rsa {u : World} {g len : Nat} {pss : List (List Bool)} {vs : List Value} {bk : Nat → Nat} (h : RowsM u g len len pss vs bk) (hl : len = pss.length) (hr : ∀ i, i < len → (pss.getD i []).length ≤ 1048576) : RSA u (some ⟨g, 0, none⟩) len pss := by
  by_cases h0 : len = 0
  · subst h0; exact ⟨hl, .inl (List.eq_nil_of_length_eq_zero hl.symm)⟩
  · refine ⟨hl, .inr ⟨g, rfl, (World.ownsRow.lt h.own _ rfl).2, fun i hi => ?_⟩⟩
    have hi' : i < len := by omega
    exact ⟨⟨some ⟨bk i, 0, none⟩, rl pss i, rl pss i⟩, (World.ownsRow.cellAt h.own i (by omega)).trans (h.val i hi'), OwnB.ints (h.row i hi'), by have := hr i hi'; unfold rl; simp only; omega⟩
/-- The lengths of the rows ahead of row i. -/
def preL (pss : List (List Bool)) : Nat → Nat
  | 0 => 0
  | i + 1 => preL pss i + rl pss i
theorem preL_le {pss : List (List Bool)} {len : Nat} (h : ∀ i, i < len → (pss.getD i []).length ≤ 1048576) : ∀ {j : Nat}, j ≤ len → preL pss j ≤ j * 1048576
  | 0, _ => by simp [preL]
  | j + 1, hj => by
    have h1 := preL_le h (j := j) (by omega)
    have h2 := h j (by omega)
    show preL pss j + rl pss j ≤ _
    unfold rl
    omega
/-- The first j rows marked. -/
def mkTo (pss : List (List Bool)) (k : Int) (j : Nat) : List (List Bool) := (List.range pss.length).map fun i => if i < j then marks (k + (preL pss i : Int)) (rl pss i) else pss.getD i []
theorem mkTo_len (pss : List (List Bool)) (k : Int) (j : Nat) : (mkTo pss k j).length = pss.length := by simp [mkTo]
theorem mkTo_at (pss : List (List Bool)) (k : Int) (j i : Nat) (h : i < pss.length) : (mkTo pss k j).getD i [] = if i < j then marks (k + (preL pss i : Int)) (rl pss i) else pss.getD i [] := by
  unfold mkTo
  rw [List.getD_eq_getElem?_getD, List.getElem?_map, List.getElem?_range h]; rfl
theorem mkTo_rl (pss : List (List Bool)) (k : Int) (j i : Nat) (h : i < pss.length) : rl (mkTo pss k j) i = rl pss i := by
  unfold rl
  rw [mkTo_at pss k j i h]
  split
  · rw [marks_len]; rfl
  · rfl
theorem mkTo_zero (pss : List (List Bool)) (k : Int) : mkTo pss k 0 = pss := by
  apply List.ext_getElem?
  intro i
  by_cases h : i < pss.length
  · unfold mkTo
    rw [List.getElem?_map, List.getElem?_range h, List.getElem?_eq_getElem h]
    simp only [Option.map_some, Nat.not_lt_zero, if_false, List.getD_eq_getElem?_getD, List.getElem?_eq_getElem h, Option.getD_some]
  · rw [List.getElem?_eq_none (by rw [mkTo_len]; omega), List.getElem?_eq_none (by omega)]
/-- Only the rows' blocks have changed. -/
structure Rows0 (u u' : World) (len : Nat) (bk : Nat → Nat) : Prop where
  os : u'.os = u.os
  tape : u'.tape = u.tape
  output : u'.output = u.output
  size : u'.heap.size = u.heap.size
  block : ∀ q, (∀ i, i < len → q ≠ bk i) → u'.heap[q]? = u.heap[q]?
/-- What marking leaves. -/
def MarkedSS (g len : Nat) (pss : List (List Bool)) (vs : List Value) (bk : Nat → Nat) (k : Int) (w : World) (e : Ending) (w' : World) : Prop :=
  e = .returned (.int .i64 (k + (preL pss len : Int))) ∧ RowsM w' g len len (mkTo pss k len) vs bk ∧ Rows0 w w' len bk
theorem OwnB.away {u u' : World} {B : Nat} {v : Value} {ps : List Bool} {ob : Option Nat} (h : OwnB u B v ps) (hg : u.grownBy u' ob) (hb : ∀ k, ob = some k → v.ownBlock ≠ some k) : OwnB u' B v ps :=
  World.ownsRow.kept h hg (by
    rcases h.2 with ⟨rfl, _⟩ | ⟨g, c, cur, rfl, hB, _⟩
    · exact .inl rfl
    · exact .inr fun e => hb g e.symm rfl)
theorem RowsM.mark {u u' : World} {g len j : Nat} {pss : List (List Bool)} {vs : List Value} {bk : Nat → Nat} {k : Int} (h : RowsM u g len len (mkTo pss k j) vs bk) (hn : len = pss.length) (hj : j < len) (hO : OwnB u' (g + 1) (.slice (some ⟨bk j, 0, none⟩) (rl pss j) (rl pss j)) (marks (k + (preL pss j : Int)) (rl pss j))) (hG : u.grownBy u' (some (bk j))) (hS : u'.heap.size = u.heap.size) :
    RowsM u' g len len (mkTo pss k (j + 1)) vs bk := by
  have hg := h.gt j hj
  refine ⟨World.ownsRow.kept h.own hG (.inr (by simp [Value.ownBlock]; omega)), fun i hi => ?_, fun i hi => ?_, h.gt, fun i hi => by rw [hS]; exact h.lt i hi, h.inc⟩
  · rw [mkTo_rl pss k (j + 1) i (by omega)]
    have := h.val i hi
    rw [mkTo_rl pss k j i (by omega)] at this
    exact this
  · rw [mkTo_rl pss k (j + 1) i (by omega), mkTo_at pss k (j + 1) i (by omega)]
    by_cases e : i = j
    · subst e
      rw [if_pos (by omega)]; exact hO
    · have := h.row i hi
      rw [mkTo_rl pss k j i (by omega), mkTo_at pss k j i (by omega)] at this
      have e2 : (if i < j + 1 then marks (k + (preL pss i : Int)) (rl pss i) else pss.getD i []) = if i < j then marks (k + (preL pss i : Int)) (rl pss i) else pss.getD i [] := by
        by_cases c : i < j
        · rw [if_pos c, if_pos (by omega)]
        · rw [if_neg c, if_neg (by omega)]
      rw [e2]
      refine this.away hG (fun q hq => ?_)
      injection hq with hq
      subst hq
      intro q2
      have q3 : bk i = bk j := Option.some.inj q2
      rcases Nat.lt_or_ge i j with c | c
      · have := h.inc i j c hj; omega
      · have := h.inc j i (by omega) hi; omega
theorem Rows0.step {w u u' : World} {len j : Nat} {bk : Nat → Nat} (h : Rows0 w u len bk) (hj : j < len) (hG : u.grownBy u' (some (bk j))) (hS : u'.heap.size = u.heap.size) : Rows0 w u' len bk :=
  ⟨hG.os.trans h.os, hG.tape.trans h.tape, hG.output.trans h.output, hS.trans h.size, fun q hq => by
    by_cases e : q < u.heap.size
    · exact (hG.block q e (fun e2 => hq j hj (Option.some.inj e2))).trans (h.block q hq)
    · rw [Array.getElem?_eq_none (by omega), Array.getElem?_eq_none (by rw [← h.size]; omega)]⟩
section
variable {w u u' : World} {len B : Nat} {bk : Nat → Nat}
theorem Rows0.below (h : Rows0 u u' len bk) (hb : Below B w u) (hk : ∀ i, i < len → B ≤ bk i) : Below B w u' :=
  hb.trans ⟨h.os, h.tape, h.output, by rw [h.size]; exact Nat.le_refl _, fun q hq => h.block q (fun i hi => by have := hk i hi; omega)⟩
theorem Rows0.atp {c : Nat} {x y : Int} (h : Rows0 u u' len bk) (hp : AtP u c x y) (hk : ∀ i, i < len → c ≠ bk i) : AtP u' c x y :=
  have e := h.block c hk
  ⟨by rw [h.size]; exact hp.lt, (World.cell?_of_block (a := ⟨c, 0, none⟩) e).trans hp.c0, (World.cell?_of_block (a := ⟨c, 1, none⟩) e).trans hp.c1⟩
end
end Go.Proofs.Ytkogoflcacameaa.Bol
