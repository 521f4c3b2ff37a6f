/- Opening a reader of a code, at every code; and what a new block leaves of a reader. -/
import Derived.Test.YtkmopgdnaohcdaaRd
namespace Go.Proofs.Ytkmopgdnaohcdaa
set_option maxRecDepth 100000
open Go.RowKit

theorem Rd.alloc {B M : Nat} {w : World} {r : Nat} (h : Rd B M w r) (o : Obj) : Rd B M (w.alloc o) r := by
  obtain ⟨a, len, cap, p, hlen, hp, h0, h1, hf, hc⟩ := h.ex
  have hlt := h.lt
  have hge := h.ge
  refine ⟨hge, by simp; omega, a, len, cap, p, hlen, hp, ?_, ?_, ?_, ?_⟩
  · rw [World.cell?_alloc_past _ _ _ hlt]; exact h0
  · rw [World.cell?_alloc_past _ _ _ hlt]; exact h1
  · rw [World.frozen?_of_block (w := w) (Below.heap_alloc w o r hlt)]; exact hf
  · exact hc.below fun x hx => World.cell?_alloc_lt _ _ _ (by omega)
theorem Rd.mono {B M M' : Nat} {w : World} {r : Nat} (h : Rd B M w r) (hM : M ≤ M') : Rd B M' w r := by
  obtain ⟨a, len, cap, p, hlen, hp, h0, h1, hf, hc⟩ := h.ex
  exact ⟨h.ge, h.lt, a, len, cap, p, hlen, by omega, h0, h1, hf, hc⟩
theorem only_alloc {a w : World} {row : Option Nat} (h : a.grownBy w row) (o : Obj) : a.grownBy (w.alloc o) row :=
  ⟨h.os, h.tape, h.output, Nat.le_trans h.size (by simp), fun i hi hne => (Below.heap_alloc w o i (Nat.lt_of_lt_of_le hi h.size)).trans (h.block i hi hne)⟩
theorem Rd.drew {B M : Nat} {w : World} {r : Nat} (h : Rd B M w r) : Rd B M w.drew r := by
  obtain ⟨a, len, cap, p, hlen, hp, h0, h1, hf, hc⟩ := h.ex
  exact ⟨h.ge, h.lt, a, len, cap, p, hlen, by omega, h0, h1, hf, hc⟩
theorem only_drew {a w : World} {row : Option Nat} (h : a.grownBy w row) : a.grownBy w.drew row := ⟨h.os, h.tape, h.output, h.size, h.block⟩
/-- What a law is told of the bytes that it draws from. -/
def Bytes (w : World) (a : Option Addr) (len cap : Nat) (zs : List Int) : Prop :=
  (a = none ∧ len = 0 ∧ cap = 0 ∧ zs = []) ∨
  ∃ x, a = some x ∧ len ≤ cap ∧ cap ≤ maxLen ∧ zs.length = cap ∧ (∀ i, i < zs.length → w.cell? (x.add i) = some (.int .u8 (zs.getD i 0))) ∧ ∀ n ∈ zs, (Lit.int .u8 n).wf = true
theorem Bytes.below {w w' : World} {a : Option Addr} {len cap : Nat} {zs : List Int} (h : Bytes w a len cap zs) (hb : Below w.heap.size w w') : Bytes w' a len cap zs := by
  rcases h with h | ⟨x, rfl, hl, hm, hz, hcell, hwz⟩
  · exact .inl h
  · refine .inr ⟨x, rfl, hl, hm, hz, fun i hi => ?_, hwz⟩
    have := hcell i hi
    rw [hb.cell (World.block_lt_of_cell? w _ this)]; exact this
theorem Bytes.len_le {w : World} {a : Option Addr} {len cap : Nat} {zs : List Int} (h : Bytes w a len cap zs) : len ≤ cap ∧ cap ≤ maxLen := by
  rcases h with ⟨rfl, rfl, rfl, rfl⟩ | ⟨x, rfl, hl, hm, hz, hcell, hwz⟩
  · exact ⟨Nat.le_refl _, Nat.zero_le _⟩
  · exact ⟨hl, hm⟩
theorem Bytes.code {w : World} {a : Option Addr} {len cap : Nat} {zs : List Int} (h : Bytes w a len cap zs) (k : Nat) (hk : k ≤ len) : Code w.heap.size w a k := by
  by_cases hk0 : k = 0
  · exact .inl hk0
  rcases h with ⟨rfl, rfl, rfl, rfl⟩ | ⟨⟨b, off, spot⟩, rfl, hl, hm, hz, hcell, hwz⟩
  · exact .inl (by omega)
  · have hc := hcell 0 (by omega)
    have hspot : spot = none := by simpa [Addr.add] using World.cell?_spot hc
    subst hspot
    refine .inr ⟨b, off, rfl, ?_, fun i hi => ?_⟩
    · exact World.block_lt_of_cell? w ⟨b, off + 0, none⟩ (by simpa [Addr.add] using hc)
    · have hi' : i < zs.length := by omega
      have hw := bounds_u8 (hwz (zs.getD i 0) (by rw [List.getD_eq_getElem?_getD, List.getElem?_eq_getElem hi']; exact List.getElem_mem hi'))
      exact ⟨zs.getD i 0, hw.1, hw.2, by
        have := hcell i hi'
        by_cases h0 : i = 0
        · subst h0; simpa [Addr.add] using this
        · simpa [Addr.add, h0] using this⟩
/-- What opening a reader says. -/
def Opened (w : World) (e : Ending) (w' : World) : Prop :=
  e = .returned (.pointer (some ⟨w.heap.size, 0, none⟩)) ∧ Rd w.heap.size 0 w' w.heap.size ∧ Below w.heap.size w w' ∧ w'.heap.size = w.heap.size + 1
theorem opened {w : World} {a : Option Addr} {len cap t : Nat} (hc : Code w.heap.size w a len) (hl : len ≤ 2000) :
    Rd w.heap.size 0 (w.alloc (.cells #[.slice a len cap, .int .i64 0] t)) w.heap.size ∧ Below w.heap.size w (w.alloc (.cells #[.slice a len cap, .int .i64 0] t)) ∧
    (w.alloc (.cells #[.slice a len cap, .int .i64 0] t)).heap.size = w.heap.size + 1 := by
  refine ⟨⟨Nat.le_refl _, by simp, a, len, cap, 0, hl, Nat.le_refl _, ?_, ?_, ?_, ?_⟩, (Below.refl _ _).alloc (Nat.le_refl _) _, by simp⟩
  · simp
  · simp
  · exact World.frozen?_alloc_at _ _ _ _ rfl
  · exact hc.below fun x hx => World.cell?_alloc_lt _ _ _ hx
theorem open_code (w : World) (a : Option Addr) (len cap : Nat) (zs : List Int) (h : Bytes w a len cap zs) :
    Calls Try.prog 56 #[.slice a len cap] w (Opened w) := by
  have hle := h.len_le
  obtain ⟨hl, hm⟩ := hle
  unfold maxLen at hm
  by_cases h2 : 2000 < len
  · have HS := Lib.hid (opened (cap := cap) (t := 77) (h.code 2000 (by omega)) (Nat.le_refl _))
    clear h
    go_enter Try.func56, Try.ntmps56
    go_wp2
    go_ret
    exact ⟨rfl, HS.out⟩
  · have HS := Lib.hid (opened (cap := cap) (t := 77) (h.code len (Nat.le_refl _)) (by omega))
    clear h
    go_enter Try.func56, Try.ntmps56
    go_wp2
    go_ret
    exact ⟨rfl, HS.out⟩
end Go.Proofs.Ytkmopgdnaohcdaa
