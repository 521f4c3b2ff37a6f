/- The program's ReachOf and ClampJoints: their contracts. -/
import Derived.Test.YtcoaahfnbgkofaaChain3
namespace Go.Proofs.Ytcoaahfnbgkofaa
set_option maxRecDepth 100000
open Go.RowKit
attribute [local go_sem ↓] Go.wp_at_zero Go.wp_at_succ
/-- What ReachOf returns. -/
def reachV (ls lo hi : List Int) : Value := if okArm ls lo hi then .tuple #[.int .i64 (farV ls), .int .i64 (nearV ls)] else .tuple #[.int .i64 0, .int .i64 0]
theorem reachV_in {ls lo hi : List Int} (h : okArm ls lo hi) : reachV ls lo hi = .tuple #[.int .i64 (farV ls), .int .i64 (nearV ls)] := by unfold reachV; rw [if_pos h]
theorem reachV_out {ls lo hi : List Int} (h : ¬ okArm ls lo hi) : reachV ls lo hi = .tuple #[.int .i64 0, .int .i64 0] := by unfold reachV; rw [if_neg h]
theorem specJointsValid (x y z j : Sl) (ls lo hi js : List Int) (w : World) (hx : IntsAt w x.a x.len ls) (hy : IntsAt w y.a y.len lo) (hz : IntsAt w z.a z.len hi) (hj : IntsAt w j.a j.len js) (bx : x.len ≤ 9223372036854775807) (b_y : y.len ≤ 9223372036854775807) (bz : z.len ≤ 9223372036854775807) (bj : j.len ≤ 9223372036854775807) :
    Calls Try.prog 75 #[av x y z, .slice j.a j.len j.cap] w fun e w' => e = .returned (.bool (decide (okJoints ls lo hi js))) ∧ Below w.heap.size w w' := by
  by_cases h : okJoints ls lo hi js
  · rw [decide_eq_true h]; exact specJointsValidY x y z j ls lo hi js w hx hy hz hj h
  · rw [decide_eq_false h]; exact specJointsValidN x y z j ls lo hi js w hx hy hz hj h bx b_y bz bj
/-- The clamped angles of an arm: none where they can't be. -/
def clampV (ls lo hi js : List Int) : List Int := if okArm ls lo hi ∧ js.length = ls.length then clampL lo hi js else []
theorem clampV_in {ls lo hi js : List Int} (h : okArm ls lo hi ∧ js.length = ls.length) : clampV ls lo hi js = clampL lo hi js := by unfold clampV; rw [if_pos h]
theorem clampV_out {ls lo hi js : List Int} (h : ¬ (okArm ls lo hi ∧ js.length = ls.length)) : clampV ls lo hi js = [] := by unfold clampV; rw [if_neg h]
/-- What clamping says: a row of the call's own. -/
def Clamped (ls lo hi js : List Int) (w : World) (e : Ending) (w' : World) : Prop :=
  ∃ s : Sl, e = .returned (.slice s.a s.len s.cap) ∧ OwnI w' w.heap.size (.slice s.a s.len s.cap) (clampV ls lo hi js) ∧ s.len = (clampV ls lo hi js).length ∧ Below w.heap.size w w'
theorem OwnI.sl {w : World} {B : Nat} {v : Value} {zs : List Int} (h : OwnI w B v zs) : ∃ s : Sl, v = .slice s.a s.len s.cap ∧ s.len = zs.length := by
  rcases h.2 with ⟨hv, hn⟩ | ⟨g, c, cur, hv, _⟩
  · exact ⟨⟨none, 0, 0⟩, hv, hn.symm⟩
  · exact ⟨⟨some ⟨g, 0, none⟩, zs.length, c⟩, hv, rfl⟩
end Go.Proofs.Ytcoaahfnbgkofaa
