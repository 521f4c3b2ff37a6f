/- Several of my texts in one: Rw6, Oi10. -/
import Derived.Test.YtkogoflcacameaaGreatDoorZbArm
import Derived.Test.YtkogoflcacameaaGreatDoorKApp
import Derived.Test.YtkogoflcacameaaGreatDoorZbRow
import Derived.Outline
import Derived.Deep.DeepCutAuto
import Derived.Test.YtkogoflcacameaaGreatDoorOq9
import Derived.Test.YtkogoflcacameaaGreatDoorZbChn
namespace Go.Proofs.YtkogoflcacameaaGreatDoor
set_option maxRecDepth 100000
open Go.RowKit
attribute [local go_sem ↓] Go.wp_at_zero Go.wp_at_succ
/-- A slice of slices of numbers reads as vs. -/
def RowsAt (w : World) (a : Option Addr) (len : Nat) (vs : List (List Int)) : Prop :=
  len = vs.length ∧ (vs = [] ∨ ∃ b, a = some ⟨b, 0, none⟩ ∧ b < w.heap.size ∧ ∀ i, i < vs.length → ∃ s : Sl, w.cell? ⟨b, i, none⟩ = some (.slice s.a s.len s.cap) ∧ IntsAt w s.a s.len (vs.getD i []))
theorem RowsAt.next {w w' : World} {a : Option Addr} {len : Nat} {vs : List (List Int)} (h : RowsAt w a len vs) (hb : Below w.heap.size w w') : RowsAt w' a len vs :=
  ⟨h.1, h.2.imp id fun ⟨b, h1, h2, h3⟩ => ⟨b, h1, Nat.lt_of_lt_of_le h2 hb.size, fun i hi => by
    obtain ⟨s, h4, h5⟩ := h3 i hi
    exact ⟨s, (hb.cell (p := ⟨b, i, none⟩) h2).trans h4, h5.next hb⟩⟩⟩
theorem RowsAt.some {w : World} {a : Option Addr} {len : Nat} {vs : List (List Int)} (h : RowsAt w a len vs) (hl : 1 ≤ len) : ∃ b, a = Option.some ⟨b, 0, none⟩ ∧ b < w.heap.size ∧ ∀ i, i < len → ∃ s : Sl, w.cell? ⟨b, i, none⟩ = Option.some (.slice s.a s.len s.cap) ∧ IntsAt w s.a s.len (vs.getD i []) := by
  rcases h.2 with h2 | ⟨b, h1, h2, h3⟩
  · have := h.1; rw [h2] at this; simp at this; omega
  · exact ⟨b, h1, h2, fun i hi => h3 i (by rw [← h.1]; exact hi)⟩
end Go.Proofs.YtkogoflcacameaaGreatDoor
namespace Go.Proofs.YtkogoflcacameaaGreatDoor
set_option maxRecDepth 100000
open Go.ChangeShapes Go.WideShapes Go.ChangeAt Go.RowKit Go.Joins
attribute [local go_sem ↓] Go.wp_at_zero Go.wp_at_succ
theorem OwnI.downI {w : World} {B B' : Nat} {v : Value} {zs : List Int} (h : OwnI w B v zs) (hB : B' ≤ B) : OwnI w B' v zs := World.ownsRow_down h hB
theorem OwnI.sl10 {w : World} {B : Nat} {v : Value} {zs : List Int} (h : OwnI w B v zs) : ∃ s : Sl, v = .slice s.a s.len s.cap ∧ s.len = zs.length := by
  rcases h.2 with ⟨hv, hn⟩ | ⟨g, c, cur, hv, _⟩
  · exact ⟨⟨none, 0, 0⟩, hv, hn.symm⟩
  · exact ⟨⟨some ⟨g, 0, none⟩, zs.length, c⟩, hv, rfl⟩
theorem OwnI.ints10 {w : World} {B : Nat} {s : Sl} {zs : List Int} (h : OwnI w B (slQ s) zs) : IntsAt w s.a s.len zs := OwnI.ints h
/-- A law's slice of slices reads as pss. -/
def RowIn10 (w : World) (a : Option Addr) (len : Nat) (pss : List (List Int)) : Prop :=
  len = pss.length ∧ (pss = [] ∨ ∃ b off, a = some ⟨b, off, none⟩ ∧ b < w.heap.size ∧ ∀ i, i < pss.length → ∃ s : Sl, w.cell? ⟨b, off + i, none⟩ = some (slQ s) ∧ IntsAt w s.a s.len (pss.getD i []) ∧ s.len ≤ 9223372036854775807)
theorem RowIn10.next {w w' : World} {a : Option Addr} {len : Nat} {pss : List (List Int)} (h : RowIn10 w a len pss) (hb : Below w.heap.size w w') : RowIn10 w' a len pss :=
  ⟨h.1, h.2.imp id fun ⟨b, off, h1, h2, h3⟩ => ⟨b, off, h1, Nat.lt_of_lt_of_le h2 hb.size, fun i hi => by
    obtain ⟨s, h4, h5, h6⟩ := h3 i hi
    exact ⟨s, (hb.cell (p := ⟨b, off + i, none⟩) h2).trans h4, h5.next hb, h6⟩⟩⟩
theorem RowIn10.some {w : World} {a : Option Addr} {len : Nat} {pss : List (List Int)} (h : RowIn10 w a len pss) (hl : 1 ≤ len) : ∃ b off, a = Option.some ⟨b, off, none⟩ ∧ b < w.heap.size ∧ ∀ i, i < len → ∃ s : Sl, w.cell? ⟨b, off + i, none⟩ = Option.some (slQ s) ∧ IntsAt w s.a s.len (pss.getD i []) ∧ s.len ≤ 9223372036854775807 := by
  rcases h.2 with h2 | ⟨b, off, h1, h2, h3⟩
  · have := h.1; rw [h2] at this; simp at this; omega
  · exact ⟨b, off, h1, h2, fun i hi => h3 i (by rw [← h.1]; exact hi)⟩
/-- A slice of slices that reads as pss, from its block's begin. -/
def RSA (w : World) (a : Option Addr) (len : Nat) (pss : List (List Int)) : Prop :=
  len = pss.length ∧ (pss = [] ∨ ∃ b, a = some ⟨b, 0, none⟩ ∧ b < w.heap.size ∧ ∀ i, i < pss.length → ∃ s : Sl, w.cell? ⟨b, i, none⟩ = some (slQ s) ∧ IntsAt w s.a s.len (pss.getD i []) ∧ s.len ≤ 9223372036854775807)
theorem RSA.next {w w' : World} {a : Option Addr} {len : Nat} {pss : List (List Int)} (h : RSA w a len pss) (hb : Below w.heap.size w w') : RSA w' a len pss :=
  ⟨h.1, h.2.imp id fun ⟨b, h1, h2, h3⟩ => ⟨b, h1, Nat.lt_of_lt_of_le h2 hb.size, fun i hi => by
    obtain ⟨s, h4, h5, h6⟩ := h3 i hi
    exact ⟨s, (hb.cell (p := ⟨b, i, none⟩) h2).trans h4, h5.next hb, h6⟩⟩⟩
theorem RSA.some {w : World} {a : Option Addr} {len : Nat} {pss : List (List Int)} (h : RSA w a len pss) (hl : 1 ≤ len) : ∃ b, a = Option.some ⟨b, 0, none⟩ ∧ b < w.heap.size ∧ ∀ i, i < len → ∃ s : Sl, w.cell? ⟨b, i, none⟩ = Option.some (slQ s) ∧ IntsAt w s.a s.len (pss.getD i []) ∧ s.len ≤ 9223372036854775807 := by
  rcases h.2 with h2 | ⟨b, h1, h2, h3⟩
  · have := h.1; rw [h2] at this; simp at this; omega
  · exact ⟨b, h1, h2, fun i hi => h3 i (by rw [← h.1]; exact hi)⟩
/-- A row of the call's own stays where another block is written. -/
theorem OwnI.off9 {u u' : World} {B : Nat} {v : Value} {ps : List Int} {ob : Option Nat} (h : OwnI u B v ps) (hg : u.grownBy u' ob) (hb : ∀ k, ob = some k → k < B) : OwnI u' B v ps :=
  World.ownsRow.kept h hg (by
    rcases h.2 with ⟨rfl, _⟩ | ⟨g, c, cur, rfl, hB, _⟩
    · exact .inl rfl
    · refine .inr fun e => ?_
      have := hb g e.symm
      omega)
/-- The first k rows of a copy. -/
def RowsI9 (w0 wr : World) (len k : Nat) (pss : List (List Int)) : Prop :=
  ∃ vs : List Value, wr.ownsRow w0.heap.size 23 1 (.slice (some ⟨w0.heap.size, 0, none⟩) len len) len vs ∧ ∀ i, i < k → ∃ v, vs[i]? = some v ∧ OwnI wr (w0.heap.size + 1) v (pss.getD i [])
theorem RowsI9.pss {w0 wr : World} {len : Nat} {pss : List (List Int)} (h : RowsI9 w0 wr len len pss) (hl : len = pss.length) (hr : ∀ i, i < len → (pss.getD i []).length ≤ 1048576) : RSA wr (some ⟨w0.heap.size, 0, none⟩) len pss := by
  obtain ⟨vs, h1, h2⟩ := h
  by_cases h0 : len = 0
  · subst h0; exact ⟨hl, .inl (List.eq_nil_of_length_eq_zero hl.symm)⟩
  · refine ⟨hl, .inr ⟨w0.heap.size, rfl, (World.ownsRow.lt h1 _ rfl).2, fun i hi => ?_⟩⟩
    obtain ⟨v, e, o⟩ := h2 i (by omega)
    obtain ⟨s, rfl, hs⟩ := o.sl10
    exact ⟨s, (World.ownsRow.cellAt h1 i (by omega)).trans e, o.ints10, by have := hr i (by omega); omega⟩
theorem cellsSlI : Tryz.prog.cellsOf 23 = 1 := by kernel_rfl
theorem open_rowsArg {H : Type} {enc : TypeId × Value → H} {W : World} {base : Nat} {v : Value} {d : DataW H} {p : List MemPlace} (hv : Value.okWide Tryz.prog W .any base 38 v) (h : DataW.Trod enc Tryz.prog W 0 (fun _ => true) true 38 v d p) :
    ∃ (s : Sl) (pss : List (List Int)), v = .slice s.a s.len s.cap ∧ RowIn10 W s.a s.len pss ∧ s.len ≤ 9223372036854775807 := by
  obtain ⟨a, len, cap, rfl⟩ := okWide_slice Tryz.underlying38 hv
  obtain ⟨fuel, hf⟩ := h
  have hf' : DataW.trod enc Tryz.prog W 0 (fun _ => true) true fuel 38 [.slice a len cap] = some (d, p) := by simpa [Value.cells] using hf
  rcases Go.Deep.open_slice1 Tryz.underlying38 cellsSlI hf' with ⟨hcs, _⟩ | ⟨x, l, c, m, n', V, D, Pl, hcs, _, hl, hm, hmm, _, hx⟩
  · simp at hcs
    obtain ⟨rfl, rfl, rfl⟩ := hcs
    exact ⟨⟨none, 0, 0⟩, [], rfl, ⟨rfl, .inl rfl⟩, Nat.zero_le _⟩
  · simp at hcs
    obtain ⟨rfl, rfl, rfl⟩ := hcs
    unfold maxLen at hm
    simp only [if_true] at hmm
    have each : ∀ i, i < len → ∃ q : Sl × List Int, V i = slQ q.1 ∧ IntsAt W q.1.a q.1.len q.2 ∧ q.1.len ≤ 9223372036854775807 := fun i hi => by
      obtain ⟨s, ps, e, h1, _, h2⟩ := ints_of (hx i (by omega)).2
      exact ⟨(s, ps), e, h1, h2⟩
    haveI : Inhabited (Sl × List Int) := ⟨(⟨none, 0, 0⟩, [])⟩
    obtain ⟨f, hfx⟩ := Go.Deep.choose_lt each
    refine ⟨⟨some x, len, cap⟩, (List.range len).map fun (k : Nat) => (f k).2, rfl, ⟨by simp, ?_⟩, by simp only; omega⟩
    by_cases h0 : len = 0
    · left; subst h0; simp
    · right
      obtain ⟨b, off, spot⟩ := x
      have hc := (hx 0 (by omega)).1
      have hspot : spot = none := by simpa [Addr.add] using World.cell?_spot hc
      subst hspot
      refine ⟨b, off, rfl, World.block_lt_of_cell? W ⟨b, off + 0, none⟩ (by simpa [Addr.add] using hc), fun i hi => ?_⟩
      simp at hi
      obtain ⟨e1, e2, e3⟩ := hfx i hi
      have k0 := (hx i (by omega)).1
      rw [e1] at k0
      refine ⟨(f i).1, ?_, ?_, e3⟩
      · by_cases h1 : i = 0
        · subst h1; simpa [Addr.add] using k0
        · simpa [Addr.add, h1] using k0
      · rw [List.getD_eq_getElem?_getD, List.getElem?_map, List.getElem?_range hi]
        exact e2
/-- What is left behind the rows. -/
def szLi : List (List Int) → Int → Int
  | [], l => l
  | ps :: r, l => if l < (ps.length : Int) then -1 else szLi r (l - ps.length)
theorem szLi_neg : ∀ (pss : List (List Int)) (l : Int), 0 ≤ l → szLi pss l = -1 ∨ (0 ≤ szLi pss l ∧ szLi pss l ≤ l ∧ ∀ i, i < pss.length → ((pss.getD i []).length : Int) ≤ l)
  | [], l, h => .inr ⟨h, Int.le_refl _, fun i hi => by simp at hi⟩
  | ps :: r, l, h => by
    unfold szLi
    split
    · exact .inl rfl
    · rename_i hk
      rcases szLi_neg r (l - ps.length) (by omega) with e | ⟨e1, e2, e3⟩
      · exact .inl e
      · refine .inr ⟨e1, by omega, fun i hi => ?_⟩
        cases i with
        | zero => simp; omega
        | succ i =>
          have := e3 i (by simpa using hi)
          simp only [List.getD_cons_succ]
          omega
/-- What the measuring of a slice of slices answers. -/
def szXi (left : Int) (pss : List (List Int)) : Int := if left < (pss.length : Int) then -1 else szLi pss (left - pss.length)
/-- -1, or all fit in. -/
def Szi9 (left : Int) (len : Nat) (pss : List (List Int)) (x : Int) : Prop := x = -1 ∨ (0 ≤ x ∧ x ≤ left ∧ (len : Int) ≤ left ∧ ∀ i, i < len → ((pss.getD i []).length : Int) ≤ left)
theorem szXi_is (left : Int) (len : Nat) (pss : List (List Int)) (hl : len = pss.length) (h : 0 ≤ left) : Szi9 left len pss (szXi left pss) := by
  subst hl
  unfold szXi
  split
  · exact .inl rfl
  · rename_i hk
    rcases szLi_neg pss (left - pss.length) (by omega) with e | ⟨e1, e2, e3⟩
    · exact .inl e
    · exact .inr ⟨e1, by omega, by omega, fun i hi => by have := e3 i hi; omega⟩
theorem szLi_drop {pss : List (List Int)} {j : Nat} (h : j < pss.length) (l : Int) : szLi (pss.drop j) l = if l < ((pss.getD j []).length : Int) then -1 else szLi (pss.drop (j + 1)) (l - (pss.getD j []).length) := by
  rw [List.drop_eq_getElem_cons h, List.getD_eq_getElem?_getD, List.getElem?_eq_getElem h]
  rfl
end Go.Proofs.YtkogoflcacameaaGreatDoor
