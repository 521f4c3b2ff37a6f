/- Several of my texts in one: Rw6, Oi10. -/
import Derived.Test.YtkogoflcacameaaDoorZbArm
import Derived.Test.YtkogoflcacameaaDoorKApp
import Derived.Test.YtkogoflcacameaaDoorZbRow
import Derived.Outline
import Derived.Deep.DeepCutAuto
import Derived.Test.YtkogoflcacameaaDoorOq9
import Derived.Test.YtkogoflcacameaaDoorZbChn
namespace Go.Proofs.YtkogoflcacameaaDoor
set_option maxRecDepth 100000
open Go.RowKit
attribute [local go_sem ↓] Go.wp_at_zero Go.wp_at_succ
/-- A slice of slices of numbers reads as vs. -/
def RowsAt (w : World) (a : Option Addr) (len : Nat) (vs : List (List Int)) : Prop :=
  len = vs.length ∧ (vs = [] ∨ ∃ b, a = some ⟨b, 0, none⟩ ∧ b < w.heap.size ∧ ∀ i, i < vs.length → ∃ s : Sl, w.cell? ⟨b, i, none⟩ = some (.slice s.a s.len s.cap) ∧ IntsAt w s.a s.len (vs.getD i []))
theorem RowsAt.next {w w' : World} {a : Option Addr} {len : Nat} {vs : List (List Int)} (h : RowsAt w a len vs) (hb : Below w.heap.size w w') : RowsAt w' a len vs :=
  ⟨h.1, h.2.imp id fun ⟨b, h1, h2, h3⟩ => ⟨b, h1, Nat.lt_of_lt_of_le h2 hb.size, fun i hi => by
    obtain ⟨s, h4, h5⟩ := h3 i hi
    exact ⟨s, (hb.cell (p := ⟨b, i, none⟩) h2).trans h4, h5.next hb⟩⟩⟩
theorem RowsAt.some {w : World} {a : Option Addr} {len : Nat} {vs : List (List Int)} (h : RowsAt w a len vs) (hl : 1 ≤ len) : ∃ b, a = Option.some ⟨b, 0, none⟩ ∧ b < w.heap.size ∧ ∀ i, i < len → ∃ s : Sl, w.cell? ⟨b, i, none⟩ = Option.some (.slice s.a s.len s.cap) ∧ IntsAt w s.a s.len (vs.getD i []) := by
  rcases h.2 with h2 | ⟨b, h1, h2, h3⟩
  · have := h.1; rw [h2] at this; simp at this; omega
  · exact ⟨b, h1, h2, fun i hi => h3 i (by rw [← h.1]; exact hi)⟩
end Go.Proofs.YtkogoflcacameaaDoor
namespace Go.Proofs.YtkogoflcacameaaDoor
set_option maxRecDepth 100000
open Go.ChangeShapes Go.WideShapes Go.ChangeAt Go.RowKit Go.Joins
attribute [local go_sem ↓] Go.wp_at_zero Go.wp_at_succ
theorem OwnI.downI {w : World} {B B' : Nat} {v : Value} {zs : List Int} (h : OwnI w B v zs) (hB : B' ≤ B) : OwnI w B' v zs := World.ownsRow_down h hB
theorem OwnI.sl10 {w : World} {B : Nat} {v : Value} {zs : List Int} (h : OwnI w B v zs) : ∃ s : Sl, v = .slice s.a s.len s.cap ∧ s.len = zs.length := by
  rcases h.2 with ⟨hv, hn⟩ | ⟨g, c, cur, hv, _⟩
  · exact ⟨⟨none, 0, 0⟩, hv, hn.symm⟩
  · exact ⟨⟨some ⟨g, 0, none⟩, zs.length, c⟩, hv, rfl⟩
theorem OwnI.ints10 {w : World} {B : Nat} {s : Sl} {zs : List Int} (h : OwnI w B (slQ s) zs) : IntsAt w s.a s.len zs := OwnI.ints h
/-- A law's slice of slices reads as pss. -/
def RowIn10 (w : World) (a : Option Addr) (len : Nat) (pss : List (List Int)) : Prop :=
  len = pss.length ∧ (pss = [] ∨ ∃ b off, a = some ⟨b, off, none⟩ ∧ b < w.heap.size ∧ ∀ i, i < pss.length → ∃ s : Sl, w.cell? ⟨b, off + i, none⟩ = some (slQ s) ∧ IntsAt w s.a s.len (pss.getD i []) ∧ s.len ≤ 9223372036854775807)
theorem RowIn10.next {w w' : World} {a : Option Addr} {len : Nat} {pss : List (List Int)} (h : RowIn10 w a len pss) (hb : Below w.heap.size w w') : RowIn10 w' a len pss :=
  ⟨h.1, h.2.imp id fun ⟨b, off, h1, h2, h3⟩ => ⟨b, off, h1, Nat.lt_of_lt_of_le h2 hb.size, fun i hi => by
    obtain ⟨s, h4, h5, h6⟩ := h3 i hi
    exact ⟨s, (hb.cell (p := ⟨b, off + i, none⟩) h2).trans h4, h5.next hb, h6⟩⟩⟩
theorem RowIn10.some {w : World} {a : Option Addr} {len : Nat} {pss : List (List Int)} (h : RowIn10 w a len pss) (hl : 1 ≤ len) : ∃ b off, a = Option.some ⟨b, off, none⟩ ∧ b < w.heap.size ∧ ∀ i, i < len → ∃ s : Sl, w.cell? ⟨b, off + i, none⟩ = Option.some (slQ s) ∧ IntsAt w s.a s.len (pss.getD i []) ∧ s.len ≤ 9223372036854775807 := by
  rcases h.2 with h2 | ⟨b, off, h1, h2, h3⟩
  · have := h.1; rw [h2] at this; simp at this; omega
  · exact ⟨b, off, h1, h2, fun i hi => h3 i (by rw [← h.1]; exact hi)⟩
/-- A slice of slices that reads as pss, from its block's begin. -/
def RSA (w : World) (a : Option Addr) (len : Nat) (pss : List (List Int)) : Prop :=
  len = pss.length ∧ (pss = [] ∨ ∃ b, a = some ⟨b, 0, none⟩ ∧ b < w.heap.size ∧ ∀ i, i < pss.length → ∃ s : Sl, w.cell? ⟨b, i, none⟩ = some (slQ s) ∧ IntsAt w s.a s.len (pss.getD i []) ∧ s.len ≤ 9223372036854775807)
theorem RSA.next {w w' : World} {a : Option Addr} {len : Nat} {pss : List (List Int)} (h : RSA w a len pss) (hb : Below w.heap.size w w') : RSA w' a len pss :=
  ⟨h.1, h.2.imp id fun ⟨b, h1, h2, h3⟩ => ⟨b, h1, Nat.lt_of_lt_of_le h2 hb.size, fun i hi => by
    obtain ⟨s, h4, h5, h6⟩ := h3 i hi
    exact ⟨s, (hb.cell (p := ⟨b, i, none⟩) h2).trans h4, h5.next hb, h6⟩⟩⟩
theorem RSA.some {w : World} {a : Option Addr} {len : Nat} {pss : List (List Int)} (h : RSA w a len pss) (hl : 1 ≤ len) : ∃ b, a = Option.some ⟨b, 0, none⟩ ∧ b < w.heap.size ∧ ∀ i, i < len → ∃ s : Sl, w.cell? ⟨b, i, none⟩ = Option.some (slQ s) ∧ IntsAt w s.a s.len (pss.getD i []) ∧ s.len ≤ 9223372036854775807 := by
  rcases h.2 with h2 | ⟨b, h1, h2, h3⟩
  · have := h.1; rw [h2] at this; simp at this; omega
  · exact ⟨b, h1, h2, fun i hi => h3 i (by rw [← h.1]; exact hi)⟩
/-- A row of the call's own stays where another block is written. -/
theorem OwnI.off9 {u u' : World} {B : Nat} {v : Value} {ps : List Int} {ob : Option Nat} (h : OwnI u B v ps) (hg : u.grownBy u' ob) (hb : ∀ k, ob = some k → k < B) : OwnI u' B v ps :=
  World.ownsRow.kept h hg (by
    rcases h.2 with ⟨rfl, _⟩ | ⟨g, c, cur, rfl, hB, _⟩
    · exact .inl rfl
    · refine .inr fun e => ?_
      have := hb g e.symm
      omega)
/-- The first k rows of a copy. -/
def RowsI9 (w0 wr : World) (len k : Nat) (pss : List (List Int)) : Prop :=
  ∃ vs : List Value, wr.ownsRow w0.heap.size 23 1 (.slice (some ⟨w0.heap.size, 0, none⟩) len len) len vs ∧ ∀ i, i < k → ∃ v, vs[i]? = some v ∧ OwnI wr (w0.heap.size + 1) v (pss.getD i [])
theorem RowsI9.pss {w0 wr : World} {len : Nat} {pss : List (List Int)} (h : RowsI9 w0 wr len len pss) (hl : len = pss.length) (hr : ∀ i, i < len → (pss.getD i []).length ≤ 1048576) : RSA wr (some ⟨w0.heap.size, 0, none⟩) len pss := by
  obtain ⟨vs, h1, h2⟩ := h
  by_cases h0 : len = 0
  · subst h0; exact ⟨hl, .inl (List.eq_nil_of_length_eq_zero hl.symm)⟩
  · refine ⟨hl, .inr ⟨w0.heap.size, rfl, (World.ownsRow.lt h1 _ rfl).2, fun i hi => ?_⟩⟩
    obtain ⟨v, e, o⟩ := h2 i (by omega)
    obtain ⟨s, rfl, hs⟩ := o.sl10
    exact ⟨s, (World.ownsRow.cellAt h1 i (by omega)).trans e, o.ints10, by have := hr i (by omega); omega⟩
end Go.Proofs.YtkogoflcacameaaDoor
