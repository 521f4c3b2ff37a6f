/- Slices of bools and tables of them: what they read as, opened as a law's argument, measured, copied, compared and marked by the laws' own helpers. -/
import Derived.Test.YtkogoflcacameaaZbArm
import Derived.Test.YtkogoflcacameaaPts3
import Derived.Test.YtkogoflcacameaaZbChn
import Derived.Test.YtkogoflcacameaaZbKt
import Derived.Laws.MakeOwn
import Derived.Deep.Slices
import Derived.OpenShut
import Derived.Lib.SmallJoins
import Derived.ChangeArms
import Derived.Outline
import Derived.Deep.DeepCutAuto
import Derived.Deep.RegionHeld3
namespace Go.Proofs.Ytkogoflcacameaa.Bol
set_option maxRecDepth 100000
open Go.ChangeShapes Go.WideShapes Go.ChangeAt Go.RowKit Go.Joins
attribute [local go_sem ↓] Go.wp_at_zero Go.wp_at_succ
/-- A slice as a value. -/
def slQ (s : Sl) : Value := .slice s.a s.len s.cap

/-- A slice reads as the numbers zs. -/
def BoolsAt (w : World) (a : Option Addr) (len : Nat) (zs : List Bool) : Prop :=
  len = zs.length ∧ (zs = [] ∨ ∃ b off, a = some ⟨b, off, none⟩ ∧ b < w.heap.size ∧ ∀ i, i < zs.length → w.cell? ⟨b, off + i, none⟩ = some (.bool (zs.getD i false)))
theorem BoolsAt.next {w w' : World} {a : Option Addr} {len : Nat} {zs : List Bool} (h : BoolsAt w a len zs) (hb : Below w.heap.size w w') : BoolsAt w' a len zs := by
  refine ⟨h.1, ?_⟩
  rcases h.2 with h2 | ⟨b, off, rfl, hlt, hc⟩
  · exact .inl h2
  · exact .inr ⟨b, off, rfl, Nat.lt_of_lt_of_le hlt hb.size, fun i hi => by rw [hb.cell (p := ⟨b, off + i, none⟩) hlt]; exact hc i hi⟩
theorem BoolsAt.some {w : World} {a : Option Addr} {len : Nat} {zs : List Bool} (h : BoolsAt w a len zs) (hl : 1 ≤ len) : ∃ b off, a = Option.some ⟨b, off, none⟩ ∧ b < w.heap.size ∧ ∀ i, i < len → w.cell? ⟨b, off + i, none⟩ = Option.some (.bool (zs.getD i false)) := by
  rcases h.2 with h2 | ⟨b, off, h3, h4, h5⟩
  · have := h.1; rw [h2] at this; simp at this; omega
  · exact ⟨b, off, h3, h4, fun i hi => h5 i (by rw [← h.1]; exact hi)⟩
/-- The numbers as values. -/
abbrev vals (zs : List Bool) : List Value := zs.map Value.bool
/-- The marks from k on: every third is true. -/
def marks (k : Int) (n : Nat) : List Bool := (List.range n).map fun (i : Nat) => ((k + (i : Int)) % 3 == 0)
theorem marks_len (k : Int) (n : Nat) : (marks k n).length = n := by simp [marks]
theorem marks_at (k : Int) (n i : Nat) (h : i < n) : (marks k n).getD i false = ((k + (i : Int)) % 3 == 0) := by
  unfold marks
  rw [List.getD_eq_getElem?_getD, List.getElem?_map, List.getElem?_range h]; rfl
/-- A row of the call's own that reads as zs. -/
def OwnB (w : World) (B : Nat) (v : Value) (zs : List Bool) : Prop := w.ownsRow B 4 1 v zs.length (vals zs)
theorem OwnB.ints {w : World} {B : Nat} {a : Option Addr} {len cap : Nat} {zs : List Bool} (h : OwnB w B (.slice a len cap) zs) : BoolsAt w a len zs := by
  rcases h.2 with ⟨hv, hn⟩ | ⟨g, c, cur, hv, hb, hg, hnc, hcm, hcs, htake⟩
  · simp only [Value.slice.injEq] at hv
    exact ⟨by omega, .inl (List.eq_nil_of_length_eq_zero hn)⟩
  · simp only [Value.slice.injEq] at hv
    obtain ⟨rfl, rfl, rfl⟩ := hv
    refine ⟨rfl, .inr ⟨g, 0, rfl, (Array.getElem?_eq_some_iff.1 hg).1, fun i hi => ?_⟩⟩
    rw [Nat.zero_add, World.ownsRow.cellAt h i (by omega), List.getElem?_map, List.getD_eq_getElem?_getD, List.getElem?_eq_getElem hi]
    rfl
theorem OwnB.next {w w' : World} {B : Nat} {v : Value} {zs : List Bool} (h : OwnB w B v zs) (hb : Below w.heap.size w w') : OwnB w' B v zs := by
  refine World.ownsRow.kept (row := none) h ⟨hb.os, hb.tape, hb.output, hb.size, fun k hk _ => hb.block k hk⟩ ?_
  cases v.ownBlock <;> simp
/-- What a copy holds when j of its numbers are there. -/
def part (f : Nat → Bool) (zs : List Bool) (j : Nat) : List Value := (List.range zs.length).map fun (i : Nat) => Value.bool (if i < j then f i else zs.getD i false)
theorem part_set (f : Nat → Bool) (zs : List Bool) (j : Nat) : (part f zs j).set j (.bool (f j)) = part f zs (j + 1) := by
  unfold part
  apply List.ext_getElem?
  intro i
  rw [List.getElem?_set, List.getElem?_map, List.getElem?_map, List.length_map, List.length_range]
  by_cases hi : i < zs.length
  · rw [List.getElem?_range hi]
    by_cases hj : j = i
    · subst hj; simp [hi]
    · rw [if_neg hj]
      simp only [Option.map_some]
      by_cases h1 : i < j
      · rw [if_pos h1, if_pos (by omega)]
      · rw [if_neg h1, if_neg (by omega)]
  · rw [List.getElem?_eq_none (by simp; omega)]
    by_cases hj : j = i
    · subst hj; simp [hi]
    · rw [if_neg hj]; rfl
theorem part_zero (f : Nat → Bool) (zs : List Bool) : part f zs 0 = vals zs := by
  unfold part vals
  apply List.ext_getElem?
  intro i
  rw [List.getElem?_map, List.getElem?_map]
  by_cases hi : i < zs.length
  · rw [List.getElem?_range hi, List.getElem?_eq_getElem hi]
    simp [List.getD_eq_getElem?_getD, List.getElem?_eq_getElem hi]
  · rw [List.getElem?_eq_none (by simp; omega), List.getElem?_eq_none (by omega)]; rfl
theorem part_all (f : Nat → Bool) (zs ys : List Bool) (hl : ys.length = zs.length) (h : ∀ i, i < zs.length → f i = ys.getD i false) : part f zs zs.length = vals ys := by
  unfold part vals
  apply List.ext_getElem?
  intro i
  rw [List.getElem?_map, List.getElem?_map]
  by_cases hi : i < zs.length
  · rw [List.getElem?_range hi, List.getElem?_eq_getElem (by omega)]
    simp [hi, h i hi, List.getD_eq_getElem?_getD, List.getElem?_eq_getElem (show i < ys.length by omega)]
  · rw [List.getElem?_eq_none (by simp; omega), List.getElem?_eq_none (by omega)]; rfl
theorem part_len (f : Nat → Bool) (zs : List Bool) (j : Nat) : (part f zs j).length = zs.length := by simp [part]
theorem infoBool : (Try.prog.info? 4).map (fun i => (i.zero, i.size, i.bytes)) = some (some (.bool false), 1, 1) := by kernel_rfl
theorem made_zero (n : Nat) (f : Nat → Bool) : (madeCells (Value.bool false).cells (n * 1)).toList = part f (List.replicate n false) 0 := by
  rw [part_zero]
  show (madeCells #[Value.bool false] (n * 1)).toList = _
  rw [Nat.mul_one, toList_madeCells_one, vals, List.map_replicate]
/-- What marking a row of the call's own says: the marks are there, nothing else has changed. -/
def Marked (B : Nat) (v : Value) (n : Nat) (k : Int) (w : World) (e : Ending) (w' : World) : Prop :=
  e = .returned (.int .i64 (k + n)) ∧ OwnB w' B v (marks k n) ∧ w.grownBy w' v.ownBlock ∧ w'.heap.size = w.heap.size
theorem bools_of {H : Type} {enc : TypeId × Value → H} {W : World} {v : Value} {n : Nat} {y : DataW H × List MemPlace} (hf : DataW.trod enc Try.prog W 0 (fun _ => true) true n 46 [v] = some y) :
    ∃ (s : Sl) (zs : List Bool), v = .slice s.a s.len s.cap ∧ BoolsAt W s.a s.len zs ∧ s.len ≤ 9223372036854775807 := by
  rcases Go.Deep.open_slice1 Try.underlying46 (by kernel_rfl) hf with ⟨hcs, _⟩ | ⟨x, l, c, m, n', V, D, Pl, hcs, _, hl, hm, hmm, _, hx⟩
  · simp at hcs
    subst hcs
    exact ⟨⟨none, 0, 0⟩, [], rfl, ⟨rfl, .inl rfl⟩, Nat.zero_le _⟩
  · simp at hcs
    subst hcs
    unfold maxLen at hm
    simp only [if_true] at hmm
    obtain ⟨B, hB⟩ := Go.Deep.choose_lt (α := Bool) (n := l) (p := fun i b => V i = .bool b) (fun i hi => by
      obtain ⟨b, h1, h2⟩ := DataW.trod_bool Try.underlying4 (hx i (by omega)).2
      exact ⟨b, by simpa using h1⟩)
    refine ⟨⟨some x, l, c⟩, (List.range l).map B, rfl, ⟨by simp, ?_⟩, by simp only; omega⟩
    by_cases h0 : l = 0
    · left; subst h0; simp
    · right
      obtain ⟨b, off, spot⟩ := x
      have hc := (hx 0 (by omega)).1
      have hspot : spot = none := by simpa [Addr.add] using World.cell?_spot hc
      subst hspot
      refine ⟨b, off, rfl, World.block_lt_of_cell? W ⟨b, off + 0, none⟩ (by simpa [Addr.add] using hc), fun i hi => ?_⟩
      simp at hi
      have k0 := (hx i (by omega)).1
      rw [hB i hi] at k0
      have e : ((List.range l).map B).getD i false = B i := by rw [List.getD_eq_getElem?_getD, List.getElem?_map, List.getElem?_range hi]; rfl
      rw [e]
      by_cases h1 : i = 0
      · subst h1; simpa [Addr.add] using k0
      · simpa [Addr.add, h1] using k0
theorem OwnB.downI {w : World} {B B' : Nat} {v : Value} {zs : List Bool} (h : OwnB w B v zs) (hB : B' ≤ B) : OwnB w B' v zs := World.ownsRow_down h hB
theorem OwnB.sl10 {w : World} {B : Nat} {v : Value} {zs : List Bool} (h : OwnB w B v zs) : ∃ s : Sl, v = .slice s.a s.len s.cap ∧ s.len = zs.length := by
  rcases h.2 with ⟨hv, hn⟩ | ⟨g, c, cur, hv, _⟩
  · exact ⟨⟨none, 0, 0⟩, hv, hn.symm⟩
  · exact ⟨⟨some ⟨g, 0, none⟩, zs.length, c⟩, hv, rfl⟩
theorem OwnB.ints10 {w : World} {B : Nat} {s : Sl} {zs : List Bool} (h : OwnB w B (slQ s) zs) : BoolsAt w s.a s.len zs := OwnB.ints h
/-- A law's slice of slices reads as pss. -/
def RowIn10 (w : World) (a : Option Addr) (len : Nat) (pss : List (List Bool)) : Prop :=
  len = pss.length ∧ (pss = [] ∨ ∃ b off, a = some ⟨b, off, none⟩ ∧ b < w.heap.size ∧ ∀ i, i < pss.length → ∃ s : Sl, w.cell? ⟨b, off + i, none⟩ = some (slQ s) ∧ BoolsAt w s.a s.len (pss.getD i []) ∧ s.len ≤ 9223372036854775807)
theorem RowIn10.next {w w' : World} {a : Option Addr} {len : Nat} {pss : List (List Bool)} (h : RowIn10 w a len pss) (hb : Below w.heap.size w w') : RowIn10 w' a len pss :=
  ⟨h.1, h.2.imp id fun ⟨b, off, h1, h2, h3⟩ => ⟨b, off, h1, Nat.lt_of_lt_of_le h2 hb.size, fun i hi => by
    obtain ⟨s, h4, h5, h6⟩ := h3 i hi
    exact ⟨s, (hb.cell (p := ⟨b, off + i, none⟩) h2).trans h4, h5.next hb, h6⟩⟩⟩
theorem RowIn10.some {w : World} {a : Option Addr} {len : Nat} {pss : List (List Bool)} (h : RowIn10 w a len pss) (hl : 1 ≤ len) : ∃ b off, a = Option.some ⟨b, off, none⟩ ∧ b < w.heap.size ∧ ∀ i, i < len → ∃ s : Sl, w.cell? ⟨b, off + i, none⟩ = Option.some (slQ s) ∧ BoolsAt w s.a s.len (pss.getD i []) ∧ s.len ≤ 9223372036854775807 := by
  rcases h.2 with h2 | ⟨b, off, h1, h2, h3⟩
  · have := h.1; rw [h2] at this; simp at this; omega
  · exact ⟨b, off, h1, h2, fun i hi => h3 i (by rw [← h.1]; exact hi)⟩
/-- A slice of slices that reads as pss, from its block's begin. -/
def RSA (w : World) (a : Option Addr) (len : Nat) (pss : List (List Bool)) : Prop :=
  len = pss.length ∧ (pss = [] ∨ ∃ b, a = some ⟨b, 0, none⟩ ∧ b < w.heap.size ∧ ∀ i, i < pss.length → ∃ s : Sl, w.cell? ⟨b, i, none⟩ = some (slQ s) ∧ BoolsAt w s.a s.len (pss.getD i []) ∧ s.len ≤ 9223372036854775807)
theorem RSA.next {w w' : World} {a : Option Addr} {len : Nat} {pss : List (List Bool)} (h : RSA w a len pss) (hb : Below w.heap.size w w') : RSA w' a len pss :=
  ⟨h.1, h.2.imp id fun ⟨b, h1, h2, h3⟩ => ⟨b, h1, Nat.lt_of_lt_of_le h2 hb.size, fun i hi => by
    obtain ⟨s, h4, h5, h6⟩ := h3 i hi
    exact ⟨s, (hb.cell (p := ⟨b, i, none⟩) h2).trans h4, h5.next hb, h6⟩⟩⟩
theorem RSA.some {w : World} {a : Option Addr} {len : Nat} {pss : List (List Bool)} (h : RSA w a len pss) (hl : 1 ≤ len) : ∃ b, a = Option.some ⟨b, 0, none⟩ ∧ b < w.heap.size ∧ ∀ i, i < len → ∃ s : Sl, w.cell? ⟨b, i, none⟩ = Option.some (slQ s) ∧ BoolsAt w s.a s.len (pss.getD i []) ∧ s.len ≤ 9223372036854775807 := by
  rcases h.2 with h2 | ⟨b, h1, h2, h3⟩
  · have := h.1; rw [h2] at this; simp at this; omega
  · exact ⟨b, h1, h2, fun i hi => h3 i (by rw [← h.1]; exact hi)⟩
/-- A row of the call's own stays where another block is written. -/
theorem OwnB.off9 {u u' : World} {B : Nat} {v : Value} {ps : List Bool} {ob : Option Nat} (h : OwnB u B v ps) (hg : u.grownBy u' ob) (hb : ∀ k, ob = some k → k < B) : OwnB u' B v ps :=
  World.ownsRow.kept h hg (by
    rcases h.2 with ⟨rfl, _⟩ | ⟨g, c, cur, rfl, hB, _⟩
    · exact .inl rfl
    · refine .inr fun e => ?_
      have := hb g e.symm
      omega)
/-- The first k rows of a copy. -/
def RowsI9 (w0 wr : World) (len k : Nat) (pss : List (List Bool)) : Prop :=
  ∃ vs : List Value, wr.ownsRow w0.heap.size 46 1 (.slice (some ⟨w0.heap.size, 0, none⟩) len len) len vs ∧ ∀ i, i < k → ∃ v, vs[i]? = some v ∧ OwnB wr (w0.heap.size + 1) v (pss.getD i [])
theorem RowsI9.pss {w0 wr : World} {len : Nat} {pss : List (List Bool)} (h : RowsI9 w0 wr len len pss) (hl : len = pss.length) (hr : ∀ i, i < len → (pss.getD i []).length ≤ 1048576) : RSA wr (some ⟨w0.heap.size, 0, none⟩) len pss := by
  obtain ⟨vs, h1, h2⟩ := h
  by_cases h0 : len = 0
  · subst h0; exact ⟨hl, .inl (List.eq_nil_of_length_eq_zero hl.symm)⟩
  · refine ⟨hl, .inr ⟨w0.heap.size, rfl, (World.ownsRow.lt h1 _ rfl).2, fun i hi => ?_⟩⟩
    obtain ⟨v, e, o⟩ := h2 i (by omega)
    obtain ⟨s, rfl, hs⟩ := o.sl10
    exact ⟨s, (World.ownsRow.cellAt h1 i (by omega)).trans e, o.ints10, by have := hr i (by omega); omega⟩
theorem cellsSlB : Try.prog.cellsOf 46 = 1 := by kernel_rfl
theorem open_rowsArg {H : Type} {enc : TypeId × Value → H} {W : World} {base : Nat} {v : Value} {d : DataW H} {p : List MemPlace} (hv : Value.okWide Try.prog W .any base 39 v) (h : DataW.Trod enc Try.prog W 0 (fun _ => true) true 39 v d p) :
    ∃ (s : Sl) (pss : List (List Bool)), v = .slice s.a s.len s.cap ∧ RowIn10 W s.a s.len pss ∧ s.len ≤ 9223372036854775807 := by
  obtain ⟨a, len, cap, rfl⟩ := okWide_slice Try.underlying39 hv
  obtain ⟨fuel, hf⟩ := h
  have hf' : DataW.trod enc Try.prog W 0 (fun _ => true) true fuel 39 [.slice a len cap] = some (d, p) := by simpa [Value.cells] using hf
  rcases Go.Deep.open_slice1 Try.underlying39 cellsSlB hf' with ⟨hcs, _⟩ | ⟨x, l, c, m, n', V, D, Pl, hcs, _, hl, hm, hmm, _, hx⟩
  · simp at hcs
    obtain ⟨rfl, rfl, rfl⟩ := hcs
    exact ⟨⟨none, 0, 0⟩, [], rfl, ⟨rfl, .inl rfl⟩, Nat.zero_le _⟩
  · simp at hcs
    obtain ⟨rfl, rfl, rfl⟩ := hcs
    unfold maxLen at hm
    simp only [if_true] at hmm
    have each : ∀ i, i < len → ∃ q : Sl × List Bool, V i = slQ q.1 ∧ BoolsAt W q.1.a q.1.len q.2 ∧ q.1.len ≤ 9223372036854775807 := fun i hi => by
      obtain ⟨s, ps, e, h1, h2⟩ := bools_of (hx i (by omega)).2
      exact ⟨(s, ps), e, h1, h2⟩
    haveI : Inhabited (Sl × List Bool) := ⟨(⟨none, 0, 0⟩, [])⟩
    obtain ⟨f, hfx⟩ := Go.Deep.choose_lt each
    refine ⟨⟨some x, len, cap⟩, (List.range len).map fun (k : Nat) => (f k).2, rfl, ⟨by simp, ?_⟩, by simp only; omega⟩
    by_cases h0 : len = 0
    · left; subst h0; simp
    · right
      obtain ⟨b, off, spot⟩ := x
      have hc := (hx 0 (by omega)).1
      have hspot : spot = none := by simpa [Addr.add] using World.cell?_spot hc
      subst hspot
      refine ⟨b, off, rfl, World.block_lt_of_cell? W ⟨b, off + 0, none⟩ (by simpa [Addr.add] using hc), fun i hi => ?_⟩
      simp at hi
      obtain ⟨e1, e2, e3⟩ := hfx i hi
      have k0 := (hx i (by omega)).1
      rw [e1] at k0
      refine ⟨(f i).1, ?_, ?_, e3⟩
      · by_cases h1 : i = 0
        · subst h1; simpa [Addr.add] using k0
        · simpa [Addr.add, h1] using k0
      · rw [List.getD_eq_getElem?_getD, List.getElem?_map, List.getElem?_range hi]
        exact e2
/-- What is left behind the rows. -/
def szLi : List (List Bool) → Int → Int
  | [], l => l
  | ps :: r, l => if l < (ps.length : Int) then -1 else szLi r (l - ps.length)
theorem szLi_neg : ∀ (pss : List (List Bool)) (l : Int), 0 ≤ l → szLi pss l = -1 ∨ (0 ≤ szLi pss l ∧ szLi pss l ≤ l ∧ ∀ i, i < pss.length → ((pss.getD i []).length : Int) ≤ l)
  | [], l, h => .inr ⟨h, Int.le_refl _, fun i hi => by simp at hi⟩
  | ps :: r, l, h => by
    unfold szLi
    split
    · exact .inl rfl
    · rename_i hk
      rcases szLi_neg r (l - ps.length) (by omega) with e | ⟨e1, e2, e3⟩
      · exact .inl e
      · refine .inr ⟨e1, by omega, fun i hi => ?_⟩
        cases i with
        | zero => simp; omega
        | succ i =>
          have := e3 i (by simpa using hi)
          simp only [List.getD_cons_succ]
          omega
/-- What the measuring of a slice of slices answers. -/
def szXi (left : Int) (pss : List (List Bool)) : Int := if left < (pss.length : Int) then -1 else szLi pss (left - pss.length)
/-- -1, or all fit in. -/
def Szi9 (left : Int) (len : Nat) (pss : List (List Bool)) (x : Int) : Prop := x = -1 ∨ (0 ≤ x ∧ x ≤ left ∧ (len : Int) ≤ left ∧ ∀ i, i < len → ((pss.getD i []).length : Int) ≤ left)
theorem szXi_is (left : Int) (len : Nat) (pss : List (List Bool)) (hl : len = pss.length) (h : 0 ≤ left) : Szi9 left len pss (szXi left pss) := by
  subst hl
  unfold szXi
  split
  · exact .inl rfl
  · rename_i hk
    rcases szLi_neg pss (left - pss.length) (by omega) with e | ⟨e1, e2, e3⟩
    · exact .inl e
    · exact .inr ⟨e1, by omega, by omega, fun i hi => by have := e3 i hi; omega⟩
theorem szLi_drop {pss : List (List Bool)} {j : Nat} (h : j < pss.length) (l : Int) : szLi (pss.drop j) l = if l < ((pss.getD j []).length : Int) then -1 else szLi (pss.drop (j + 1)) (l - (pss.getD j []).length) := by
  rw [List.drop_eq_getElem_cons h, List.getD_eq_getElem?_getD, List.getElem?_eq_getElem h]
  rfl
theorem infoSlB : (Try.prog.info? 46).map (fun i => (i.zero, i.size, i.bytes)) = some (some (.slice none 0 0), 1, 24) := by kernel_rfl
