/- What the laws of the chapter on angles draw from a code: numbers that fit, with nothing changed that was there. -/
import Derived.Test.YtlajpeoadgfobaaDoorOp
namespace Go.Proofs.YtlajpeoadgfobaaDoor
set_option maxRecDepth 100000
open Go.RowKit

/-- What a draw of a number says: it fits, the reader goes on, nothing but the reader and new blocks has changed. -/
def Drawn (B M r : Nat) (w : World) (e : Ending) (w' : World) : Prop :=
  ∃ x : Int, -9223372036854775808 ≤ x ∧ x ≤ 9223372036854775807 ∧ e = .returned (.int .i64 x) ∧ Rd B M w' r ∧ w.grownBy w' (some r)
theorem l20Deg (B M r : Nat) (w : World) (hr : Rd B M w r) (hM : M ≤ 900000) :
    Calls Tryd.prog 25 #[.pointer (some ⟨r, 0, none⟩)] w (Drawn B (M + 5) r w) := by
  go_enter Tryd.func25, Tryd.ntmps25
  go_wp2_with fail
  refine (pick B M r _ _ hr (by omega)).mono ?_
  rintro e w1 ⟨x1, a1, b1, rfl, hr1, hg1, hs1⟩
  have c1 := b1 (by omega)
  have HS1 := Lib.hid hs1
  clear b1 hs1
  go_wp2_with fail
  refine (pick B (M + 1) r _ _ hr1 (by omega)).mono ?_
  rintro e w2 ⟨x2, a2, b2, rfl, hr2, hg2, hs2⟩
  have c2 := b2 (by omega)
  have HS2 := Lib.hid hs2
  clear b2 hs2
  go_wp2_with fail
  refine (pick B (M + 1 + 1) r _ _ hr2 (by omega)).mono ?_
  rintro e w3 ⟨x3, a3, b3, rfl, hr3, hg3, hs3⟩
  have c3 := b3 (by omega)
  have HS3 := Lib.hid hs3
  clear b3 hs3
  go_wp2_with fail
  refine (pick B (M + 1 + 1 + 1) r _ _ hr3 (by omega)).mono ?_
  rintro e w4 ⟨x4, a4, b4, rfl, hr4, hg4, hs4⟩
  have c4 := b4 (by omega)
  have HS4 := Lib.hid hs4
  clear b4 hs4
  go_wp2_with fail
  refine (pick B (M + 1 + 1 + 1 + 1) r _ _ (by exact (hr4.alloc _).alloc _) (by omega)).mono ?_
  rintro e w5 ⟨x5, a5, b5, rfl, hr5, hg5, hs5⟩
  have c5 := b5 (by omega)
  have hlt := hr4.lt
  have f1 := fun o => hg5.cell_far ⟨w4.heap.size + 1, o, none⟩ (by simp) (by simp; omega)
  have f0 := fun o => hg5.cell_far ⟨w4.heap.size, o, none⟩ (by simp; omega) (by simp; omega)
  have HG := Lib.hid ((((hg1.trans hg2).trans hg3).trans hg4).trans (((only_alloc (only_alloc (World.grownBy.refl w4 (some r)) _) _)).trans hg5))
  have HR := Lib.hid (hr5.mono (show M + 1 + 1 + 1 + 1 + 1 ≤ M + 5 by omega))
  clear hr hr1 hr2 hr3 hr4 hr5 hg1 hg2 hg3 hg4 hg5 b5 hs5 HS1 HS2 HS3 HS4
  have hx : x5 = 0 ∨ x5 = 1 ∨ x5 = 2 ∨ x5 = 3 ∨ x5 = 4 ∨ x5 = 5 ∨ x5 = 6 ∨ x5 = 7 ∨ x5 = 8 ∨ x5 = 9 := by omega
  clear a5 c5
  rcases hx with rfl | rfl | rfl | rfl | rfl | rfl | rfl | rfl | rfl | rfl
  all_goals
    go_wp2
    go_ret
    refine ⟨_, ?_, ?_, rfl, HR.out, HG.out⟩ <;> omega
/-- What drawing one number from a code says. -/
def Got1 (w : World) (e : Ending) (w' : World) : Prop :=
  ∃ x : Int, -9223372036854775808 ≤ x ∧ x ≤ 9223372036854775807 ∧ e = .returned (.int .i64 x) ∧ Below w.heap.size w w'
/-- What drawing two numbers from a code says. -/
def Got2 (w : World) (e : Ending) (w' : World) : Prop :=
  ∃ x y : Int, -9223372036854775808 ≤ x ∧ x ≤ 9223372036854775807 ∧ -9223372036854775808 ≤ y ∧ y ≤ 9223372036854775807 ∧ e = .returned (.tuple #[.int .i64 x, .int .i64 y]) ∧ Below w.heap.size w w'
/-- What drawing three numbers from a code says. -/
def Got3 (w : World) (e : Ending) (w' : World) : Prop :=
  ∃ x y z : Int, -9223372036854775808 ≤ x ∧ x ≤ 9223372036854775807 ∧ -9223372036854775808 ≤ y ∧ y ≤ 9223372036854775807 ∧ -9223372036854775808 ≤ z ∧ z ≤ 9223372036854775807 ∧
    e = .returned (.tuple #[.int .i64 x, .int .i64 y, .int .i64 z]) ∧ Below w.heap.size w w'
theorem below_of {w w1 w2 : World} (hb : Below w.heap.size w w1) (hg : w1.grownBy w2 (some w.heap.size)) : Below w.heap.size w w2 :=
  hb.grown hg hb.size (fun k hk => by injection hk with hk; omega)
end Go.Proofs.YtlajpeoadgfobaaDoor
