/- Slices of points, at whatever place in their block. -/
import Derived.Outline
import Derived.Deep.Cut
import Derived.Deep.DeepCutAuto
import Derived.Test.YtcifokihellcdaaDoorZbKt
import Derived.Test.YtcifokihellcdaaDoorZbRow
import Derived.Test.YtcifokihellcdaaDoorZbNum
import Derived.Test.YtcifokihellcdaaDoorZbGeo
namespace Go.Proofs.YtcifokihellcdaaDoor
set_option maxRecDepth 100000
open Go.RowKit
attribute [local go_sem ↓] Go.wp_at_zero Go.wp_at_succ
/-- The slice reads as ps. -/
def PL (w : World) (a : Option Addr) (len : Nat) (ps : List P2) : Prop :=
  len = ps.length ∧ (len = 0 ∨ ∃ b o, a = some ⟨b, o, none⟩ ∧ b < w.heap.size ∧ ∀ i, i < len → w.cell? ⟨b, o + i * 2, none⟩ = some (.int .i64 (cor ps i).1) ∧ w.cell? ⟨b, o + i * 2 + 1, none⟩ = some (.int .i64 (cor ps i).2))
theorem PL.next {w w' : World} {a : Option Addr} {len : Nat} {ps : List P2} (h : PL w a len ps) (hb : Below w.heap.size w w') : PL w' a len ps :=
  ⟨h.1, h.2.imp id fun ⟨b, o, h1, h2, h3⟩ => ⟨b, o, h1, Nat.lt_of_lt_of_le h2 hb.size, fun i hi => ⟨(hb.cell (p := ⟨b, o + i * 2, none⟩) h2).trans (h3 i hi).1, (hb.cell (p := ⟨b, o + i * 2 + 1, none⟩) h2).trans (h3 i hi).2⟩⟩⟩
theorem PL.somes {w : World} {a : Option Addr} {len : Nat} {ps : List P2} (h : PL w a len ps) (hl : 1 ≤ len) : ∃ b o, a = some ⟨b, o, none⟩ ∧ b < w.heap.size ∧ ∀ i, i < len → w.cell? ⟨b, o + i * 2, none⟩ = some (.int .i64 (cor ps i).1) ∧ w.cell? ⟨b, o + i * 2 + 1, none⟩ = some (.int .i64 (cor ps i).2) := by
  rcases h.2 with h2 | h2
  · omega
  · exact h2
theorem PL.keep {w w' : World} {b o len : Nat} {ps : List P2} (h : PL w (some ⟨b, o, none⟩) len ps) (hs : w.heap.size ≤ w'.heap.size) (kb : w'.heap[b]? = w.heap[b]?) : PL w' (some ⟨b, o, none⟩) len ps := by
  refine ⟨h.1, h.2.imp id ?_⟩
  rintro ⟨b', o', h1, h2, h3⟩
  simp only [Option.some.injEq, Addr.mk.injEq, and_true] at h1
  obtain ⟨rfl, rfl⟩ := h1
  have hc : ∀ k : Nat, w'.cell? ⟨b, k, none⟩ = w.cell? ⟨b, k, none⟩ := fun k => World.cell?_of_block (a := ⟨b, k, none⟩) kb
  exact ⟨b, o, rfl, Nat.lt_of_lt_of_le h2 hs, fun i hi => ⟨(hc _).trans (h3 i hi).1, (hc _).trans (h3 i hi).2⟩⟩
theorem PtsAt.pl {w : World} {a : Option Addr} {len : Nat} {ps : List P2} (h : PtsAt w a len ps) : PL w a len ps := by
  refine ⟨h.1, ?_⟩
  rcases h.2 with h2 | ⟨b, h1, h2, h3⟩
  · left; rw [h.1, h2]; rfl
  · right; exact ⟨b, 0, h1, h2, fun i hi => by rw [Nat.zero_add]; exact h3 i (by rw [← h.1]; exact hi)⟩
theorem cor_drop (ps : List P2) (k i : Nat) : cor (ps.drop k) i = cor ps (k + i) := by
  unfold cor; rw [List.getD_eq_getElem?_getD, List.getD_eq_getElem?_getD, List.getElem?_drop]
theorem cor_take {ps : List P2} {k i : Nat} (h : i < k) : cor (ps.take k) i = cor ps i := by
  unfold cor; rw [List.getD_eq_getElem?_getD, List.getD_eq_getElem?_getD, List.getElem?_take, if_pos h]
/-- A part of the slice. -/
theorem PL.sub {w : World} {b o len : Nat} {ps : List P2} (h : PL w (some ⟨b, o, none⟩) len ps) {i j : Nat} (hij : i ≤ j) (hj : j ≤ len) : PL w (some ⟨b, o + i * 2, none⟩) (j - i) ((ps.take j).drop i) := by
  have hl := h.1
  refine ⟨by simp; omega, ?_⟩
  rcases h.2 with h2 | ⟨b', o', h1, h2, h3⟩
  · left; omega
  · simp only [Option.some.injEq, Addr.mk.injEq, and_true] at h1
    obtain ⟨rfl, rfl⟩ := h1
    right
    refine ⟨b, o + i * 2, rfl, h2, fun k hk => ?_⟩
    have := h3 (i + k) (by omega)
    rw [cor_drop, cor_take (by omega), show o + i * 2 + k * 2 = o + (i + k) * 2 by omega]
    exact this
/-- The corner behind. -/
theorem tmod_nx (ps : List P2) (j : Nat) : ((j : Int) + 1).tmod (ps.length : Int) = (nx ps j : Nat) := by
  unfold nx
  rw [show ((j : Int) + 1) = ((j + 1 : Nat) : Int) by omega]
  exact Int.ofNat_tmod _ _
end Go.Proofs.YtcifokihellcdaaDoor
