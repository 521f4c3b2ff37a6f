/- Rows that lie apart: what marking one of them leaves of another. -/
import Derived.Test.YtolkihibjabmhaaDoorChain4
namespace Go.Proofs.YtolkihibjabmhaaDoor
set_option maxRecDepth 100000
open Go.RowKit
theorem OwnI.same {w w' : World} {B n cap : Nat} {a : Option Addr} {zs : List Int} (h : OwnI w B (.slice a n cap) zs) (hb : ∀ g, (Value.slice a n cap).ownBlock = some g → w'.heap[g]? = w.heap[g]?) : OwnI w' B (.slice a n cap) zs := by
  refine ⟨h.1, ?_⟩
  rcases h.2 with h2 | ⟨g, c, cur, hv, hb', hg, rest⟩
  · exact .inl h2
  · exact .inr ⟨g, c, cur, hv, hb', by rw [hb g (by rw [hv]; rfl)]; exact hg, rest⟩
theorem NewArm.apart {w : World} {B c : Nat} {x y z : Sl} {ls lo hi : List Int} (h : NewArm w B x y z ls lo hi) (hc : w.heap.size ≤ c) : ∀ g, (x.a = some ⟨g, 0, none⟩ ∨ y.a = some ⟨g, 0, none⟩ ∨ z.a = some ⟨g, 0, none⟩) → c ≠ g := by
  obtain ⟨g, h1, h2, h3, h4, h5, k3, h6, h7, h8⟩ := h.bx
  rintro q (hq | hq | hq)
  · rw [h1] at hq; simp at hq; omega
  · rw [h4] at hq; simp at hq; omega
  · rw [h6] at hq; simp at hq; omega
theorem clampV_len (ls lo hi js : List Int) : (clampV ls lo hi js).length ≤ 4 := by
  unfold clampV
  split
  · rename_i h; rw [clampL_len, h.2]; exact h.1.2.1
  · simp
theorem ownBlock_some {a : Option Addr} {n cap g : Nat} (h : (Value.slice a n cap).ownBlock = some g) : ∃ x : Addr, a = some x ∧ x.block = g := by
  cases a with
  | none => simp [Value.ownBlock] at h
  | some x => exact ⟨x, rfl, by simpa [Value.ownBlock] using h⟩
end Go.Proofs.YtolkihibjabmhaaDoor
