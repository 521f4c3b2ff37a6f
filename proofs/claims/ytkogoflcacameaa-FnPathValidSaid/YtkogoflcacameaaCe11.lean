/- Lists of cells: what they read as, opened as a law's argument, measured, copied, compared and marked by the laws' own helpers. -/
import Derived.Test.YtkogoflcacameaaPts3
import Derived.Test.YtkogoflcacameaaZbArm
import Derived.Test.YtkogoflcacameaaZbKt
import Derived.Test.YtkogoflcacameaaZbNum
import Derived.Laws.MakeOwn
import Derived.Deep.AppendLies
import Derived.OpenShut
import Derived.Lib.SmallJoins
import Derived.Deep.SlicePairs
namespace Go.Proofs.Ytkogoflcacameaa.Cel
set_option maxRecDepth 100000
open Go.ChangeShapes Go.WideShapes Go.ChangeAt Go.RowKit Go.Joins
attribute [local go_sem ↓] Go.wp_at_zero Go.wp_at_succ
/-- A coordinate of a list of points, by its place among the cells. -/
def cz (ps : List (Int × Int)) (j : Nat) : Int := if j % 2 = 0 then (ps.getD (j / 2) (0, 0)).1 else (ps.getD (j / 2) (0, 0)).2
/-- The points as values. -/
def pvals (ps : List (Int × Int)) : List Value := (List.range (ps.length * 2)).map fun (j : Nat) => Value.int .i64 (cz ps j)
theorem pvals_len (ps : List (Int × Int)) : (pvals ps).length = ps.length * 2 := by simp [pvals]
theorem pvals_at (ps : List (Int × Int)) (j : Nat) (h : j < ps.length * 2) : (pvals ps)[j]? = some (.int .i64 (cz ps j)) := by
  unfold pvals; rw [List.getElem?_map, List.getElem?_range h]; rfl
theorem cz0 (ps : List (Int × Int)) (i : Nat) : cz ps (i * 2) = (ps.getD i (0, 0)).1 := by
  unfold cz; rw [if_pos (by omega), show i * 2 / 2 = i by omega]
theorem cz1 (ps : List (Int × Int)) (i : Nat) : cz ps (i * 2 + 1) = (ps.getD i (0, 0)).2 := by
  unfold cz; rw [if_neg (by omega), show (i * 2 + 1) / 2 = i by omega]
/-- A row of points reads as ps. -/
def PtsAt (w : World) (a : Option Addr) (len : Nat) (ps : List (Int × Int)) : Prop :=
  len = ps.length ∧ (ps = [] ∨ ∃ b, a = some ⟨b, 0, none⟩ ∧ b < w.heap.size ∧ ∀ i, i < ps.length → w.cell? ⟨b, i * 2, none⟩ = some (.int .i64 (ps.getD i (0, 0)).1) ∧ w.cell? ⟨b, i * 2 + 1, none⟩ = some (.int .i64 (ps.getD i (0, 0)).2))
theorem PtsAt.some {w : World} {a : Option Addr} {len : Nat} {ps : List (Int × Int)} (h : PtsAt w a len ps) (hl : 1 ≤ len) : ∃ b, a = Option.some ⟨b, 0, none⟩ ∧ b < w.heap.size ∧ ∀ i, i < len → w.cell? ⟨b, i * 2, none⟩ = Option.some (.int .i64 (ps.getD i (0, 0)).1) ∧ w.cell? ⟨b, i * 2 + 1, none⟩ = Option.some (.int .i64 (ps.getD i (0, 0)).2) := by
  rcases h.2 with h2 | ⟨b, h1, h2, h3⟩
  · have := h.1; rw [h2] at this; simp at this; omega
  · exact ⟨b, h1, h2, fun i hi => h3 i (by rw [← h.1]; exact hi)⟩
/-- A row of points of the call's own. -/
def OwnPt (w : World) (B : Nat) (v : Value) (ps : List (Int × Int)) : Prop := w.ownsRow B 33 2 v ps.length (pvals ps)
theorem OwnPt.ints {w : World} {B n cap : Nat} {a : Option Addr} {ps : List (Int × Int)} (h : OwnPt w B (.slice a n cap) ps) : PtsAt w a n ps := by
  rcases h.2 with ⟨hv, hn⟩ | ⟨g, c, cur, hv, hb, hg, rest⟩
  · simp only [Value.slice.injEq] at hv
    exact ⟨by omega, .inl (List.eq_nil_of_length_eq_zero hn)⟩
  · simp only [Value.slice.injEq] at hv
    obtain ⟨rfl, rfl, rfl⟩ := hv
    refine ⟨rfl, .inr ⟨g, rfl, (World.ownsRow.lt h g rfl).2, fun i hi => ?_⟩⟩
    have c0 := World.ownsRow.cellAt h (i * 2) (by omega)
    have c1 := World.ownsRow.cellAt h (i * 2 + 1) (by omega)
    rw [pvals_at ps _ (by omega), cz0] at c0
    rw [pvals_at ps _ (by omega), cz1] at c1
    exact ⟨c0, c1⟩
theorem OwnPt.next {w w' : World} {B : Nat} {v : Value} {ps : List (Int × Int)} (h : OwnPt w B v ps) (hb : Below w.heap.size w w') : OwnPt w' B v ps := by
  refine World.ownsRow.kept (row := none) h ⟨hb.os, hb.tape, hb.output, hb.size, fun k hk _ => hb.block k hk⟩ ?_
  cases v.ownBlock <;> simp
theorem OwnPt.same {w w' : World} {B n cap : Nat} {a : Option Addr} {ps : List (Int × Int)} (h : OwnPt w B (.slice a n cap) ps) (hb : ∀ g, (Value.slice a n cap).ownBlock = some g → w'.heap[g]? = w.heap[g]?) : OwnPt w' B (.slice a n cap) ps := by
  refine ⟨h.1, ?_⟩
  rcases h.2 with h2 | ⟨g, c, cur, hv, hb', hg, rest⟩
  · exact .inl h2
  · exact .inr ⟨g, c, cur, hv, hb', by rw [hb g (by rw [hv]; rfl)]; exact hg, rest⟩
theorem OwnPt.sl {w : World} {B : Nat} {v : Value} {ps : List (Int × Int)} (h : OwnPt w B v ps) : ∃ s : Sl, v = .slice s.a s.len s.cap ∧ s.len = ps.length := by
  rcases h.2 with ⟨hv, hn⟩ | ⟨g, c, cur, hv, _⟩
  · exact ⟨⟨none, 0, 0⟩, hv, hn.symm⟩
  · exact ⟨⟨some ⟨g, 0, none⟩, ps.length, c⟩, hv, rfl⟩
/-- k, k + 1, .. as points. -/
def pmarks (k : Int) (n : Nat) : List (Int × Int) := (List.range n).map fun (i : Nat) => (k + 2 * (i : Int), k + 2 * (i : Int) + 1)
theorem pmarks_len (k : Int) (n : Nat) : (pmarks k n).length = n := by simp [pmarks]
theorem pmarks_at (k : Int) (n i : Nat) (h : i < n) : (pmarks k n).getD i (0, 0) = (k + 2 * (i : Int), k + 2 * (i : Int) + 1) := by
  unfold pmarks; rw [List.getD_eq_getElem?_getD, List.getElem?_map, List.getElem?_range h]; rfl
/-- Cells of which the first m are f's, the others g's. -/
def cpart (f g : Nat → Int) (n m : Nat) : List Value := (List.range n).map fun (i : Nat) => Value.int .i64 (if i < m then f i else g i)
theorem cpart_len (f g : Nat → Int) (n m : Nat) : (cpart f g n m).length = n := by simp [cpart]
theorem cpart_at (f g : Nat → Int) (n m i : Nat) (h : i < n) : (cpart f g n m)[i]? = some (.int .i64 (if i < m then f i else g i)) := by
  unfold cpart; rw [List.getElem?_map, List.getElem?_range h]; rfl
theorem cpart_set (f g : Nat → Int) (n m : Nat) : (cpart f g n m).set m (.int .i64 (f m)) = cpart f g n (m + 1) := by
  apply List.ext_getElem?
  intro i
  rw [List.getElem?_set, cpart_len]
  by_cases hi : i < n
  · rw [cpart_at f g n m i hi, cpart_at f g n (m + 1) i hi]
    by_cases hj : m = i
    · subst hj; rw [if_pos rfl, if_pos hi, if_pos (by omega)]
    · rw [if_neg hj]
      by_cases h1 : i < m
      · rw [if_pos h1, if_pos (by omega)]
      · rw [if_neg h1, if_neg (by omega)]
  · rw [List.getElem?_eq_none (by rw [cpart_len]; omega), List.getElem?_eq_none (by rw [cpart_len]; omega)]
    split
    · rw [if_neg (by omega)]
    · rfl
theorem cpart_congr (f g f' g' : Nat → Int) (n m m' : Nat) (h : ∀ i, i < n → (if i < m then f i else g i) = if i < m' then f' i else g' i) : cpart f g n m = cpart f' g' n m' := by
  apply List.ext_getElem?
  intro i
  by_cases hi : i < n
  · rw [cpart_at f g n m i hi, cpart_at f' g' n m' i hi, h i hi]
  · rw [List.getElem?_eq_none (by rw [cpart_len]; omega), List.getElem?_eq_none (by rw [cpart_len]; omega)]
theorem pvals_cpart (ps : List (Int × Int)) (g : Nat → Int) : pvals ps = cpart (cz ps) g (ps.length * 2) (ps.length * 2) := by
  apply List.ext_getElem?
  intro i
  by_cases hi : i < ps.length * 2
  · rw [pvals_at ps i hi, cpart_at _ _ _ _ i hi, if_pos hi]
  · rw [List.getElem?_eq_none (by rw [pvals_len]; omega), List.getElem?_eq_none (by rw [cpart_len]; omega)]
theorem cz_pmarks (k : Int) (n j : Nat) (h : j < n * 2) : cz (pmarks k n) j = k + (j : Int) := by
  unfold cz
  rw [pmarks_at k n (j / 2) (by omega)]
  split <;> simp only <;> omega
/-- What marking a row of points says. -/
def MarkedP (B : Nat) (v : Value) (n : Nat) (k : Int) (w : World) (e : Ending) (w' : World) : Prop :=
  e = .returned (.int .i64 (k + 2 * n)) ∧ OwnPt w' B v (pmarks k n) ∧ w.grownBy w' v.ownBlock ∧ w'.heap.size = w.heap.size
/-- A slice of points of the call's own that reads as ps. -/
def PtRow (ps : List (Int × Int)) (w : World) (e : Ending) (w' : World) : Prop :=
  ∃ s : Sl, e = .returned (.slice s.a s.len s.cap) ∧ s.len = ps.length ∧ OwnPt w' w.heap.size (.slice s.a s.len s.cap) ps ∧ Below w.heap.size w w'
theorem OwnPt.down6 {w : World} {B B' : Nat} {v : Value} {ps : List (Int × Int)} (h : OwnPt w B v ps) (hB : B' ≤ B) : OwnPt w B' v ps := World.ownsRow_down h hB
theorem OwnPt.slv {w : World} {B : Nat} {v : Value} {ps : List (Int × Int)} (h : OwnPt w B v ps) (w0 : World) (hB : w0.heap.size ≤ B) (hb : Below w0.heap.size w0 w) : PtRow ps w0 (.returned v) w := by
  obtain ⟨s, rfl, hs⟩ := h.sl
  exact ⟨s, rfl, hs, h.down6 hB, hb⟩
theorem infoPt6 : (Try.prog.info? 33).map (fun i => (i.zero, i.size, i.bytes)) = some (some (pt 0 0), 2, 16) := by kernel_rfl
theorem made6 (f : Nat → Int) (n : Nat) : (madeCells (pt 0 0).cells (n * 2)).toList = cpart f (fun _ => 0) (n * 2) (0 * 2) := by
  unfold cpart madeCells
  show (Array.map _ (Array.range (n * 2))).toList = _
  rw [Array.toList_map, Array.toList_range]
  apply List.map_congr_left
  intro j _
  have hm : j % 2 = 0 ∨ j % 2 = 1 := by omega
  have e : (if j < 0 * 2 then f j else 0) = 0 := by simp
  rw [e]
  show (#[Value.int .i64 0, Value.int .i64 0] : Array Value)[j % 2]! = _
  rcases hm with h | h <;> rw [h] <;> simp
theorem nilPt (w w' : World) (hb : Below w.heap.size w w') : PtRow [] w (.returned (.slice none 0 0)) w' := ⟨⟨none, 0, 0⟩, rfl, rfl, World.ownsRow_nil _ _ _ _, hb⟩
theorem ownPt_empty (w : World) (T : TypeId) (hT : T = 33) : OwnPt (w.alloc (.cells #[] T)) w.heap.size (.slice (some ⟨w.heap.size, 0, none⟩) 0 0) [] := by
  subst hT
  have := World.ownsRow_lit (base := w.heap.size) (e := 33) (size := 2) w #[] 0 (Nat.le_refl _) (Nat.zero_le _) rfl
  unfold OwnPt
  simpa [pvals] using this
/-- A slice reads as the points ps, wherever in its block it begins. -/
def PtsIn (w : World) (a : Option Addr) (len : Nat) (ps : List (Int × Int)) : Prop :=
  len = ps.length ∧ (ps = [] ∨ ∃ b off, a = some ⟨b, off, none⟩ ∧ b < w.heap.size ∧ ∀ i, i < ps.length → w.cell? ⟨b, off + i * 2, none⟩ = some (.int .i64 (pX ps i)) ∧ w.cell? ⟨b, off + i * 2 + 1, none⟩ = some (.int .i64 (pY ps i)))
/-- The coordinates fit. -/
def FitP (ps : List (Int × Int)) : Prop := ∀ i, (-9223372036854775808 ≤ pX ps i ∧ pX ps i ≤ 9223372036854775807) ∧ -9223372036854775808 ≤ pY ps i ∧ pY ps i ≤ 9223372036854775807
theorem ptsMk7 (f g : Nat → Int) (n i : Nat) (h : i < n) : pX ((List.range n).map fun (k : Nat) => (f k, g k)) i = f i ∧ pY ((List.range n).map fun (k : Nat) => (f k, g k)) i = g i := by
  unfold pX pY
  rw [List.getD_eq_getElem?_getD, List.getElem?_map, List.getElem?_range h]
  exact ⟨rfl, rfl⟩
