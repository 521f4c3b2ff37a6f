/- The document's test whether a point lies between two others. -/
import Derived.Test.YtcifokihellcdaaSm8
namespace Go.Proofs.Ytcifokihellcdaa
set_option maxRecDepth 100000
open Go.RowKit
attribute [local go_sem ↓] Go.wp_at_zero Go.wp_at_succ
theorem crossC (a b c : P2) (w : World) (ha : okQ a) (hb : okQ b) (hc : okQ c) : Calls Try.prog 36 #[pt a.1 a.2, pt b.1 b.2, pt c.1 c.2] w fun e w' => e = .returned (.int .i64 (cr a b c)) ∧ Below w.heap.size w w' :=
  l2Cross a.1 a.2 b.1 b.2 c.1 c.2 w ha hb hc
theorem cr_bd {a b c : P2} (ha : okQ a) (hb : okQ b) (hc : okQ c) : -800000000 ≤ cr a b c ∧ cr a b c ≤ 800000000 := by
  unfold okQ okP at ha hb hc
  have m1 := mul_bd8 (x := b.1 - a.1) (y := c.2 - a.2) (by omega) (by omega) (by omega) (by omega)
  have m2 := mul_bd8 (x := b.2 - a.2) (y := c.1 - a.1) (by omega) (by omega) (by omega) (by omega)
  unfold cr; omega
theorem meet_sgn (a b c d : P2) : Meet a b c d ↔ (sgn (cr a b c) ≠ sgn (cr a b d) ∧ sgn (cr c d a) ≠ sgn (cr c d b)) ∨ (sgn (cr a b c) = 0 ∧ OnB a b c) ∨ (sgn (cr a b d) = 0 ∧ OnB a b d) ∨ (sgn (cr c d a) = 0 ∧ OnB c d a) ∨ (sgn (cr c d b) = 0 ∧ OnB c d b) := by
  have z : ∀ n : Int, sgn n = 0 ↔ n = 0 := fun n => by rcases sgn_cases n with ⟨k, e⟩ | ⟨k, e⟩ | ⟨k, e⟩ <;> rw [e] <;> omega
  rw [z, z, z, z]; rfl
end Go.Proofs.Ytcifokihellcdaa
