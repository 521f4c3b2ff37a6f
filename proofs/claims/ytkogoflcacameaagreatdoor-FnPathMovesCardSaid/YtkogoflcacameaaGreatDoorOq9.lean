/- A slice of slices of points: what it reads as; opened as a law's argument; measured, copied and compared by the laws' own helpers. -/
import Derived.Test.YtkogoflcacameaaGreatDoorOq7
import Derived.Test.YtkogoflcacameaaGreatDoorZcCol
import Derived.Test.YtkogoflcacameaaGreatDoorZbRow
import Derived.Deep.Slices
import Derived.OpenShut
import Derived.Lib.SmallJoins
namespace Go.Proofs.YtkogoflcacameaaGreatDoor
set_option maxRecDepth 100000
open Go.ChangeShapes Go.WideShapes Go.ChangeAt Go.RowKit Go.Joins
attribute [local go_sem ↓] Go.wp_at_zero Go.wp_at_succ
/-- A slice as a value. -/
def slQ (s : Sl) : Value := .slice s.a s.len s.cap
/-- A law's slice of slices reads as pss. -/
def PssIn (w : World) (a : Option Addr) (len : Nat) (pss : List (List P2)) : Prop :=
  len = pss.length ∧ (pss = [] ∨ ∃ b off, a = some ⟨b, off, none⟩ ∧ b < w.heap.size ∧ ∀ i, i < pss.length → ∃ s : Sl, w.cell? ⟨b, off + i, none⟩ = some (slQ s) ∧ PtsIn w s.a s.len (pss.getD i []) ∧ s.len ≤ 9223372036854775807)
theorem PssIn.next {w w' : World} {a : Option Addr} {len : Nat} {pss : List (List P2)} (h : PssIn w a len pss) (hb : Below w.heap.size w w') : PssIn w' a len pss :=
  ⟨h.1, h.2.imp id fun ⟨b, off, h1, h2, h3⟩ => ⟨b, off, h1, Nat.lt_of_lt_of_le h2 hb.size, fun i hi => by
    obtain ⟨s, h4, h5, h6⟩ := h3 i hi
    exact ⟨s, (hb.cell (p := ⟨b, off + i, none⟩) h2).trans h4, h5.next hb, h6⟩⟩⟩
theorem PssIn.some {w : World} {a : Option Addr} {len : Nat} {pss : List (List P2)} (h : PssIn w a len pss) (hl : 1 ≤ len) : ∃ b off, a = Option.some ⟨b, off, none⟩ ∧ b < w.heap.size ∧ ∀ i, i < len → ∃ s : Sl, w.cell? ⟨b, off + i, none⟩ = Option.some (slQ s) ∧ PtsIn w s.a s.len (pss.getD i []) ∧ s.len ≤ 9223372036854775807 := by
  rcases h.2 with h2 | ⟨b, off, h1, h2, h3⟩
  · have := h.1; rw [h2] at this; simp at this; omega
  · exact ⟨b, off, h1, h2, fun i hi => h3 i (by rw [← h.1]; exact hi)⟩
/-- A slice of slices that reads as pss, from its block's begin. -/
def PSA (w : World) (a : Option Addr) (len : Nat) (pss : List (List P2)) : Prop :=
  len = pss.length ∧ (pss = [] ∨ ∃ b, a = some ⟨b, 0, none⟩ ∧ b < w.heap.size ∧ ∀ i, i < pss.length → ∃ s : Sl, w.cell? ⟨b, i, none⟩ = some (slQ s) ∧ PtsAt w s.a s.len (pss.getD i []) ∧ s.len ≤ 9223372036854775807)
theorem PSA.next {w w' : World} {a : Option Addr} {len : Nat} {pss : List (List P2)} (h : PSA w a len pss) (hb : Below w.heap.size w w') : PSA w' a len pss :=
  ⟨h.1, h.2.imp id fun ⟨b, h1, h2, h3⟩ => ⟨b, h1, Nat.lt_of_lt_of_le h2 hb.size, fun i hi => by
    obtain ⟨s, h4, h5, h6⟩ := h3 i hi
    exact ⟨s, (hb.cell (p := ⟨b, i, none⟩) h2).trans h4, h5.next hb, h6⟩⟩⟩
theorem PSA.some {w : World} {a : Option Addr} {len : Nat} {pss : List (List P2)} (h : PSA w a len pss) (hl : 1 ≤ len) : ∃ b, a = Option.some ⟨b, 0, none⟩ ∧ b < w.heap.size ∧ ∀ i, i < len → ∃ s : Sl, w.cell? ⟨b, i, none⟩ = Option.some (slQ s) ∧ PtsAt w s.a s.len (pss.getD i []) ∧ s.len ≤ 9223372036854775807 := by
  rcases h.2 with h2 | ⟨b, h1, h2, h3⟩
  · have := h.1; rw [h2] at this; simp at this; omega
  · exact ⟨b, h1, h2, fun i hi => h3 i (by rw [← h.1]; exact hi)⟩
/-- .. whose rows may begin anywhere in their blocks. -/
def PSS (w : World) (a : Option Addr) (len : Nat) (pss : List (List P2)) : Prop :=
  len = pss.length ∧ (pss = [] ∨ ∃ b, a = some ⟨b, 0, none⟩ ∧ b < w.heap.size ∧ ∀ i, i < pss.length → ∃ s : Sl, w.cell? ⟨b, i, none⟩ = some (slQ s) ∧ PL w s.a s.len (pss.getD i []) ∧ s.len ≤ 9223372036854775807)
theorem PSA.pss {w : World} {a : Option Addr} {len : Nat} {pss : List (List P2)} (h : PSA w a len pss) : PSS w a len pss :=
  ⟨h.1, h.2.imp id fun ⟨b, h1, h2, h3⟩ => ⟨b, h1, h2, fun i hi => by
    obtain ⟨s, h4, h5, h6⟩ := h3 i hi
    exact ⟨s, h4, h5.pl, h6⟩⟩⟩
theorem PSS.next {w w' : World} {a : Option Addr} {len : Nat} {pss : List (List P2)} (h : PSS w a len pss) (hb : Below w.heap.size w w') : PSS w' a len pss :=
  ⟨h.1, h.2.imp id fun ⟨b, h1, h2, h3⟩ => ⟨b, h1, Nat.lt_of_lt_of_le h2 hb.size, fun i hi => by
    obtain ⟨s, h4, h5, h6⟩ := h3 i hi
    exact ⟨s, (hb.cell (p := ⟨b, i, none⟩) h2).trans h4, h5.next hb, h6⟩⟩⟩
theorem PSS.some {w : World} {a : Option Addr} {len : Nat} {pss : List (List P2)} (h : PSS w a len pss) (hl : 1 ≤ len) : ∃ b, a = Option.some ⟨b, 0, none⟩ ∧ b < w.heap.size ∧ ∀ i, i < len → ∃ s : Sl, w.cell? ⟨b, i, none⟩ = Option.some (slQ s) ∧ PL w s.a s.len (pss.getD i []) ∧ s.len ≤ 9223372036854775807 := by
  rcases h.2 with h2 | ⟨b, h1, h2, h3⟩
  · have := h.1; rw [h2] at this; simp at this; omega
  · exact ⟨b, h1, h2, fun i hi => h3 i (by rw [← h.1]; exact hi)⟩
theorem PSS.nil (w : World) (a : Option Addr) : PSS w a 0 [] := ⟨rfl, .inl rfl⟩
/-- A fresh slice with one row. -/
theorem PSS.one {w : World} {s : Sl} {ps : List P2} (h : PL w s.a s.len ps) (hl : s.len ≤ 9223372036854775807) (T : TypeId) : PSS (w.alloc (.cells #[.slice s.a s.len s.cap] T)) (Option.some ⟨w.heap.size, 0, none⟩) 1 [ps] :=
  ⟨rfl, .inr ⟨w.heap.size, rfl, by simp, fun i hi => by
    obtain rfl : i = 0 := by simpa using hi
    exact ⟨s, by simp [slQ], h.next (below_box w _), hl⟩⟩⟩
theorem PSA.nil (w : World) (a : Option Addr) : PSA w a 0 [] := ⟨rfl, .inl rfl⟩
/-- A row of the call's own stays where another block is written. -/
theorem OwnPt.off9 {u u' : World} {B : Nat} {v : Value} {ps : List P2} {ob : Option Nat} (h : OwnPt u B v ps) (hg : u.grownBy u' ob) (hb : ∀ k, ob = some k → k < B) : OwnPt u' B v ps :=
  World.ownsRow.kept h hg (by
    rcases h.2 with ⟨rfl, _⟩ | ⟨g, c, cur, rfl, hB, _⟩
    · exact .inl rfl
    · refine .inr fun e => ?_
      have := hb g e.symm
      omega)
/-- The first k rows of a copy. -/
def Rows9 (w0 wr : World) (len k : Nat) (pss : List (List P2)) : Prop :=
  ∃ vs : List Value, wr.ownsRow w0.heap.size 76 1 (.slice (some ⟨w0.heap.size, 0, none⟩) len len) len vs ∧ ∀ i, i < k → ∃ v, vs[i]? = some v ∧ OwnPt wr (w0.heap.size + 1) v (pss.getD i [])
theorem Rows9.pss {w0 wr : World} {len : Nat} {pss : List (List P2)} (h : Rows9 w0 wr len len pss) (hl : len = pss.length) (hr : ∀ i, i < len → (pss.getD i []).length ≤ 1048576) : PSA wr (some ⟨w0.heap.size, 0, none⟩) len pss := by
  obtain ⟨vs, h1, h2⟩ := h
  by_cases h0 : len = 0
  · subst h0; exact ⟨hl, .inl (List.eq_nil_of_length_eq_zero hl.symm)⟩
  · refine ⟨hl, .inr ⟨w0.heap.size, rfl, (World.ownsRow.lt h1 _ rfl).2, fun i hi => ?_⟩⟩
    obtain ⟨v, e, o⟩ := h2 i (by omega)
    obtain ⟨s, rfl, hs⟩ := o.sl
    exact ⟨s, (World.ownsRow.cellAt h1 i (by omega)).trans e, o.ints, by have := hr i (by omega); omega⟩
theorem infoSl9 : (Tryz.prog.info? 76).map (fun i => (i.zero, i.size, i.bytes)) = some (some (.slice none 0 0), 1, 24) := by kernel_rfl
end Go.Proofs.YtkogoflcacameaaGreatDoor
