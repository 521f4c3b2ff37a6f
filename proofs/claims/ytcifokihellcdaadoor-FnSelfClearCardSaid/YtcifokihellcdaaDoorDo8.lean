/- The document's test whether a point lies between two others. -/
import Derived.Test.YtcifokihellcdaaDoorSm8
namespace Go.Proofs.YtcifokihellcdaaDoor
set_option maxRecDepth 100000
open Go.RowKit
attribute [local go_sem ↓] Go.wp_at_zero Go.wp_at_succ
set_option maxHeartbeats 1000000 in
theorem l8OnC (a b p : P2) (w : World) : Calls Tryd.prog 71 #[pt a.1 a.2, pt b.1 b.2, pt p.1 p.2] w fun e w' => e = .returned (.bool (decide (OnB a b p))) ∧ Below w.heap.size w w' := by
  have HB := Lib.hid (below_box3 w (.cells #[.int .i64 a.1, .int .i64 a.2] 34) (.cells #[.int .i64 b.1, .int .i64 b.2] 34) (.cells #[.int .i64 p.1, .int .i64 p.2] 34))
  by_cases h1 : min a.1 b.1 ≤ p.1 ∧ p.1 ≤ max a.1 b.1
  · have H1 := Lib.hid h1
    by_cases h2 : min a.2 b.2 ≤ p.2 ∧ p.2 ≤ max a.2 b.2
    · have HV := Lib.hid (show true = decide (OnB a b p) from (decide_eq_true (p := OnB a b p) ⟨h1, h2⟩).symm)
      have H2 := Lib.hid h2
      generalize decide (OnB a b p) = rr at *
      clear h1 h2
      go_enter Tryd.func71, Tryd.ntmps71
      go_wp2_with (go_at_call 43; first | refine (l1In_yes _ _ _ _ (by have := H1.out; omega) (by have := H1.out; omega)).mono ?_ | refine (l1In_yes _ _ _ _ (by have := H2.out; omega) (by have := H2.out; omega)).mono ?_; rintro e w' ⟨rfl, rfl⟩)
      all_goals (go_ret; exact ⟨ret_bool HV.out, HB.out⟩)
    · have HV := Lib.hid (show false = decide (OnB a b p) from (decide_eq_false fun k => h2 k.2).symm)
      have H2 := Lib.hid h2
      generalize decide (OnB a b p) = rr at *
      clear h1 h2
      go_enter Tryd.func71, Tryd.ntmps71
      go_wp2_with (go_at_call 43; first | refine (l1In_yes _ _ _ _ (by have := H1.out; omega) (by have := H1.out; omega)).mono ?_ | refine (l1In_no _ _ _ _ (by have := H2.out; omega)).mono ?_; rintro e w' ⟨rfl, rfl⟩)
      all_goals (go_ret; exact ⟨ret_bool HV.out, HB.out⟩)
  · have HV := Lib.hid (show false = decide (OnB a b p) from (decide_eq_false fun k => h1 k.1).symm)
    have H1 := Lib.hid h1
    generalize decide (OnB a b p) = rr at *
    clear h1
    go_enter Tryd.func71, Tryd.ntmps71
    go_wp2_with (go_at_call 43; refine (l1In_no _ _ _ _ (by have := H1.out; omega)).mono ?_; rintro e w' ⟨rfl, rfl⟩)
    all_goals (go_ret; exact ⟨ret_bool HV.out, HB.out⟩)
theorem crossC (a b c : P2) (w : World) (ha : okQ a) (hb : okQ b) (hc : okQ c) : Calls Tryd.prog 70 #[pt a.1 a.2, pt b.1 b.2, pt c.1 c.2] w fun e w' => e = .returned (.int .i64 (cr a b c)) ∧ Below w.heap.size w w' :=
  l2Cross a.1 a.2 b.1 b.2 c.1 c.2 w ha hb hc
theorem cr_bd {a b c : P2} (ha : okQ a) (hb : okQ b) (hc : okQ c) : -800000000 ≤ cr a b c ∧ cr a b c ≤ 800000000 := by
  unfold okQ okP at ha hb hc
  have m1 := mul_bd8 (x := b.1 - a.1) (y := c.2 - a.2) (by omega) (by omega) (by omega) (by omega)
  have m2 := mul_bd8 (x := b.2 - a.2) (y := c.1 - a.1) (by omega) (by omega) (by omega) (by omega)
  unfold cr; omega
theorem meet_sgn (a b c d : P2) : Meet a b c d ↔ (sgn (cr a b c) ≠ sgn (cr a b d) ∧ sgn (cr c d a) ≠ sgn (cr c d b)) ∨ (sgn (cr a b c) = 0 ∧ OnB a b c) ∨ (sgn (cr a b d) = 0 ∧ OnB a b d) ∨ (sgn (cr c d a) = 0 ∧ OnB c d a) ∨ (sgn (cr c d b) = 0 ∧ OnB c d b) := by
  have z : ∀ n : Int, sgn n = 0 ↔ n = 0 := fun n => by rcases sgn_cases n with ⟨k, e⟩ | ⟨k, e⟩ | ⟨k, e⟩ <;> rw [e] <;> omega
  rw [z, z, z, z]; rfl
end Go.Proofs.YtcifokihellcdaaDoor
