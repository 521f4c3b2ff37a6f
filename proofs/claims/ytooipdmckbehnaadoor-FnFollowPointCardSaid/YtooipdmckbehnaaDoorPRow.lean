/- Slices of points: what they read as, and the contracts of the laws' own helpers over them. -/
import Derived.Test.YtooipdmckbehnaaDoorPts3
import Derived.Test.YtooipdmckbehnaaDoorInts
import Derived.Test.YtooipdmckbehnaaDoorArm3c
import Derived.Laws.MakeOwn
namespace Go.Proofs.YtooipdmckbehnaaDoor
set_option maxRecDepth 100000
open Go.RowKit
attribute [local go_sem ↓] Go.wp_at_zero Go.wp_at_succ

/-- A coordinate of a list of points, by its place among the cells. -/
def cz (ps : List (Int × Int)) (j : Nat) : Int := if j % 2 = 0 then (ps.getD (j / 2) (0, 0)).1 else (ps.getD (j / 2) (0, 0)).2
/-- The points as values. -/
def pvals (ps : List (Int × Int)) : List Value := (List.range (ps.length * 2)).map fun (j : Nat) => Value.int .i64 (cz ps j)
theorem pvals_len (ps : List (Int × Int)) : (pvals ps).length = ps.length * 2 := by simp [pvals]
theorem pvals_at (ps : List (Int × Int)) (j : Nat) (h : j < ps.length * 2) : (pvals ps)[j]? = some (.int .i64 (cz ps j)) := by
  unfold pvals; rw [List.getElem?_map, List.getElem?_range h]; rfl
theorem cz0 (ps : List (Int × Int)) (i : Nat) : cz ps (i * 2) = (ps.getD i (0, 0)).1 := by
  unfold cz; rw [if_pos (by omega), show i * 2 / 2 = i by omega]
theorem cz1 (ps : List (Int × Int)) (i : Nat) : cz ps (i * 2 + 1) = (ps.getD i (0, 0)).2 := by
  unfold cz; rw [if_neg (by omega), show (i * 2 + 1) / 2 = i by omega]
/-- A row of points reads as ps. -/
def PtsAt (w : World) (a : Option Addr) (len : Nat) (ps : List (Int × Int)) : Prop :=
  len = ps.length ∧ (ps = [] ∨ ∃ b, a = some ⟨b, 0, none⟩ ∧ b < w.heap.size ∧ ∀ i, i < ps.length → w.cell? ⟨b, i * 2, none⟩ = some (.int .i64 (ps.getD i (0, 0)).1) ∧ w.cell? ⟨b, i * 2 + 1, none⟩ = some (.int .i64 (ps.getD i (0, 0)).2))
theorem PtsAt.next {w w' : World} {a : Option Addr} {len : Nat} {ps : List (Int × Int)} (h : PtsAt w a len ps) (hb : Below w.heap.size w w') : PtsAt w' a len ps :=
  ⟨h.1, h.2.imp id fun ⟨b, h1, h2, h3⟩ => ⟨b, h1, Nat.lt_of_lt_of_le h2 hb.size, fun i hi => ⟨(hb.cell (p := ⟨b, i * 2, none⟩) h2).trans (h3 i hi).1, (hb.cell (p := ⟨b, i * 2 + 1, none⟩) h2).trans (h3 i hi).2⟩⟩⟩
theorem PtsAt.some {w : World} {a : Option Addr} {len : Nat} {ps : List (Int × Int)} (h : PtsAt w a len ps) (hl : 1 ≤ len) : ∃ b, a = Option.some ⟨b, 0, none⟩ ∧ b < w.heap.size ∧ ∀ i, i < len → w.cell? ⟨b, i * 2, none⟩ = Option.some (.int .i64 (ps.getD i (0, 0)).1) ∧ w.cell? ⟨b, i * 2 + 1, none⟩ = Option.some (.int .i64 (ps.getD i (0, 0)).2) := by
  rcases h.2 with h2 | ⟨b, h1, h2, h3⟩
  · have := h.1; rw [h2] at this; simp at this; omega
  · exact ⟨b, h1, h2, fun i hi => h3 i (by rw [← h.1]; exact hi)⟩
/-- A row of points of the call's own. -/
def OwnPt (w : World) (B : Nat) (v : Value) (ps : List (Int × Int)) : Prop := w.ownsRow B 27 2 v ps.length (pvals ps)
theorem OwnPt.ints {w : World} {B n cap : Nat} {a : Option Addr} {ps : List (Int × Int)} (h : OwnPt w B (.slice a n cap) ps) : PtsAt w a n ps := by
  rcases h.2 with ⟨hv, hn⟩ | ⟨g, c, cur, hv, hb, hg, rest⟩
  · simp only [Value.slice.injEq] at hv
    exact ⟨by omega, .inl (List.eq_nil_of_length_eq_zero hn)⟩
  · simp only [Value.slice.injEq] at hv
    obtain ⟨rfl, rfl, rfl⟩ := hv
    refine ⟨rfl, .inr ⟨g, rfl, (World.ownsRow.lt h g rfl).2, fun i hi => ?_⟩⟩
    have c0 := World.ownsRow.cellAt h (i * 2) (by omega)
    have c1 := World.ownsRow.cellAt h (i * 2 + 1) (by omega)
    rw [pvals_at ps _ (by omega), cz0] at c0
    rw [pvals_at ps _ (by omega), cz1] at c1
    exact ⟨c0, c1⟩
theorem OwnPt.next {w w' : World} {B : Nat} {v : Value} {ps : List (Int × Int)} (h : OwnPt w B v ps) (hb : Below w.heap.size w w') : OwnPt w' B v ps := by
  refine World.ownsRow.kept (row := none) h ⟨hb.os, hb.tape, hb.output, hb.size, fun k hk _ => hb.block k hk⟩ ?_
  cases v.ownBlock <;> simp
theorem OwnPt.same {w w' : World} {B n cap : Nat} {a : Option Addr} {ps : List (Int × Int)} (h : OwnPt w B (.slice a n cap) ps) (hb : ∀ g, (Value.slice a n cap).ownBlock = some g → w'.heap[g]? = w.heap[g]?) : OwnPt w' B (.slice a n cap) ps := by
  refine ⟨h.1, ?_⟩
  rcases h.2 with h2 | ⟨g, c, cur, hv, hb', hg, rest⟩
  · exact .inl h2
  · exact .inr ⟨g, c, cur, hv, hb', by rw [hb g (by rw [hv]; rfl)]; exact hg, rest⟩
theorem OwnPt.sl {w : World} {B : Nat} {v : Value} {ps : List (Int × Int)} (h : OwnPt w B v ps) : ∃ s : Sl, v = .slice s.a s.len s.cap ∧ s.len = ps.length := by
  rcases h.2 with ⟨hv, hn⟩ | ⟨g, c, cur, hv, _⟩
  · exact ⟨⟨none, 0, 0⟩, hv, hn.symm⟩
  · exact ⟨⟨some ⟨g, 0, none⟩, ps.length, c⟩, hv, rfl⟩
/-- k, k + 1, .. as points. -/
def pmarks (k : Int) (n : Nat) : List (Int × Int) := (List.range n).map fun (i : Nat) => (k + 2 * (i : Int), k + 2 * (i : Int) + 1)
theorem pmarks_len (k : Int) (n : Nat) : (pmarks k n).length = n := by simp [pmarks]
theorem pmarks_at (k : Int) (n i : Nat) (h : i < n) : (pmarks k n).getD i (0, 0) = (k + 2 * (i : Int), k + 2 * (i : Int) + 1) := by
  unfold pmarks; rw [List.getD_eq_getElem?_getD, List.getElem?_map, List.getElem?_range h]; rfl
end Go.Proofs.YtooipdmckbehnaaDoor
