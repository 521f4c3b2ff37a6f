/- The draws of chapter 11: the step of a grid. -/
import Derived.Test.YtkogoflcacameaaZbRd
namespace Go.Proofs.Ytkogoflcacameaa
set_option maxRecDepth 100000
open Go.RowKit
attribute [local go_sem ↓] Go.wp_at_zero Go.wp_at_succ
/-- What a draw of a small number says. -/
def DrawnR (lo hi : Int) (B M r : Nat) (w : World) (e : Ending) (w' : World) : Prop :=
  ∃ x : Int, lo ≤ x ∧ x ≤ hi ∧ e = .returned (.int .i64 x) ∧ Rd B M w' r ∧ w.grownBy w' (some r)
theorem l20StepC (B M r : Nat) (w : World) (hr : Rd B M w r) (hM : M ≤ 900000) :
    Calls Try.prog 31 #[.pointer (some ⟨r, 0, none⟩)] w (DrawnR 0 361 B (M + 1) r w) := by
  go_enter Try.func31, Try.ntmps31
  go_wp2_with fail
  refine (pick B M r _ _ (by exact (hr.alloc _).alloc _) (by omega)).mono ?_
  rintro e w5 ⟨x5, a5, b5, rfl, hr5, hg5, hs5⟩
  have c5 := b5 (by omega)
  have hlt := hr.lt
  have f1 := fun o => hg5.cell_far ⟨w.heap.size + 1, o, none⟩ (by simp) (by simp; omega)
  have f0 := fun o => hg5.cell_far ⟨w.heap.size, o, none⟩ (by simp; omega) (by simp; omega)
  have HG := Lib.hid ((only_alloc (only_alloc (World.grownBy.refl w (some r)) _) _).trans hg5)
  have HR := Lib.hid hr5
  clear hr hr5 hg5 b5 hs5
  have hx : x5 = 0 ∨ x5 = 1 ∨ x5 = 2 ∨ x5 = 3 ∨ x5 = 4 ∨ x5 = 5 ∨ x5 = 6 ∨ x5 = 7 ∨ x5 = 8 := by omega
  clear a5 c5
  rcases hx with rfl | rfl | rfl | rfl | rfl | rfl | rfl | rfl | rfl
  all_goals
    go_wp2
    go_ret
    refine ⟨_, ?_, ?_, rfl, HR.out, HG.out⟩ <;> omega
end Go.Proofs.Ytkogoflcacameaa
