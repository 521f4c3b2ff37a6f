/- Arms of the document: what is valid, and the contracts of the document's functions over arms. -/
import Derived.Test.YtkmopgdnaohcdaaArmH
import Derived.Deep.QuietTactic
import Derived.BigQuiet
namespace Go.Proofs.Ytkmopgdnaohcdaa
set_option maxRecDepth 100000
open Go.RowKit
attribute [local go_sem ↓] Go.wp_at_zero Go.wp_at_succ

theorem sameOf {P : Program} {f : FuncId} {args : Array Value} {w : World} {v : Value} (h : Calls P f args w fun e w' => e = .returned v ∧ w = w') : Calls P f args w fun e w' => e = .returned v ∧ w' = w :=
  h.mono fun _ _ ⟨he, hw⟩ => ⟨he, hw.symm⟩
theorem below_drewN {B : Nat} {a w : World} (h : Below B a w) (n : Nat) : Below B a (w.drewN n) := ⟨h.os, h.tape, h.output, h.size, h.block⟩
/-- Link k has a valid length and a valid range. -/
def okLink (l o h : Int) : Prop := 1 ≤ l ∧ l ≤ 500 ∧ -180 ≤ o ∧ o ≤ 180 ∧ o ≤ h ∧ h ≤ 180
instance (l o h : Int) : Decidable (okLink l o h) := by unfold okLink; infer_instance
/-- A valid arm. -/
def okArm (ls lo hi : List Int) : Prop := 1 ≤ ls.length ∧ ls.length ≤ 4 ∧ lo.length = ls.length ∧ hi.length = ls.length ∧ ∀ k, k < ls.length → okLink (ls.getD k 0) (lo.getD k 0) (hi.getD k 0)
instance (ls lo hi : List Int) : Decidable (okArm ls lo hi) := by unfold okArm; infer_instance
theorem IntsAt.some {w : World} {a : Option Addr} {len : Nat} {zs : List Int} (h : IntsAt w a len zs) (hl : 1 ≤ len) : ∃ b off, a = Option.some ⟨b, off, none⟩ ∧ b < w.heap.size ∧ ∀ i, i < len → w.cell? ⟨b, off + i, none⟩ = Option.some (.int .i64 (zs.getD i 0)) := by
  rcases h.2 with h2 | ⟨b, off, h3, h4, h5⟩
  · have := h.1; rw [h2] at this; simp at this; omega
  · exact ⟨b, off, h3, h4, fun i hi => h5 i (by rw [← h.1]; exact hi)⟩
end Go.Proofs.Ytkmopgdnaohcdaa
