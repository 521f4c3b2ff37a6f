/- What the laws of the chapter on angles draw from a code: numbers that fit, with nothing changed that was there. -/
import Derived.Test.YtpiabkihbbfmoaaOp
namespace Go.Proofs.Ytpiabkihbbfmoaa
open Go.RowKit

/-- What a draw of a number says: it fits, the reader goes on, nothing but the reader and new blocks has changed. -/
def Drawn (B M r : Nat) (w : World) (e : Ending) (w' : World) : Prop :=
  ∃ x : Int, -9223372036854775808 ≤ x ∧ x ≤ 9223372036854775807 ∧ e = .returned (.int .i64 x) ∧ Rd B M w' r ∧ w.grownBy w' (some r)
theorem l20Deg (B M r : Nat) (w : World) (hr : Rd B M w r) (hM : M ≤ 900000) :
    Calls Try.prog 25 #[.pointer (some ⟨r, 0, none⟩)] w (Drawn B (M + 5) r w) := by
  go_enter Try.func25, Try.ntmps25
  go_wp2_with fail
  refine (pick B M r _ _ hr (by omega)).mono ?_
  rintro e w1 ⟨x1, a1, b1, rfl, hr1, hg1, hs1⟩
  have c1 := b1 (by omega)
  have HS1 := Lib.hid hs1
  clear b1 hs1
  go_wp2_with fail
  refine (pick B (M + 1) r _ _ hr1 (by omega)).mono ?_
  rintro e w2 ⟨x2, a2, b2, rfl, hr2, hg2, hs2⟩
  have c2 := b2 (by omega)
  have HS2 := Lib.hid hs2
  clear b2 hs2
  go_wp2_with fail
  refine (pick B (M + 1 + 1) r _ _ hr2 (by omega)).mono ?_
  rintro e w3 ⟨x3, a3, b3, rfl, hr3, hg3, hs3⟩
  have c3 := b3 (by omega)
  have HS3 := Lib.hid hs3
  clear b3 hs3
  go_wp2_with fail
  refine (pick B (M + 1 + 1 + 1) r _ _ hr3 (by omega)).mono ?_
  rintro e w4 ⟨x4, a4, b4, rfl, hr4, hg4, hs4⟩
  have c4 := b4 (by omega)
  have HS4 := Lib.hid hs4
  clear b4 hs4
  go_wp2_with fail
  refine (pick B (M + 1 + 1 + 1 + 1) r _ _ (by exact (hr4.alloc _).alloc _) (by omega)).mono ?_
  rintro e w5 ⟨x5, a5, b5, rfl, hr5, hg5, hs5⟩
  have c5 := b5 (by omega)
  have hlt := hr4.lt
  have f1 := fun o => hg5.cell_far ⟨w4.heap.size + 1, o, none⟩ (by simp) (by simp; omega)
  have f0 := fun o => hg5.cell_far ⟨w4.heap.size, o, none⟩ (by simp; omega) (by simp; omega)
  have HG := Lib.hid ((((hg1.trans hg2).trans hg3).trans hg4).trans (((only_alloc (only_alloc (World.grownBy.refl w4 (some r)) _) _)).trans hg5))
  have HR := Lib.hid (hr5.mono (show M + 1 + 1 + 1 + 1 + 1 ≤ M + 5 by omega))
  clear hr hr1 hr2 hr3 hr4 hr5 hg1 hg2 hg3 hg4 hg5 b5 hs5 HS1 HS2 HS3 HS4
  have hx : x5 = 0 ∨ x5 = 1 ∨ x5 = 2 ∨ x5 = 3 ∨ x5 = 4 ∨ x5 = 5 ∨ x5 = 6 ∨ x5 = 7 ∨ x5 = 8 ∨ x5 = 9 := by omega
  clear a5 c5
  rcases hx with rfl | rfl | rfl | rfl | rfl | rfl | rfl | rfl | rfl | rfl
  all_goals
    go_wp2
    go_ret
    refine ⟨_, ?_, ?_, rfl, HR.out, HG.out⟩ <;> omega
/-- What drawing one number from a code says. -/
def Got1 (w : World) (e : Ending) (w' : World) : Prop :=
  ∃ x : Int, -9223372036854775808 ≤ x ∧ x ≤ 9223372036854775807 ∧ e = .returned (.int .i64 x) ∧ Below w.heap.size w w'
/-- What drawing two numbers from a code says. -/
def Got2 (w : World) (e : Ending) (w' : World) : Prop :=
  ∃ x y : Int, -9223372036854775808 ≤ x ∧ x ≤ 9223372036854775807 ∧ -9223372036854775808 ≤ y ∧ y ≤ 9223372036854775807 ∧ e = .returned (.tuple #[.int .i64 x, .int .i64 y]) ∧ Below w.heap.size w w'
/-- What drawing three numbers from a code says. -/
def Got3 (w : World) (e : Ending) (w' : World) : Prop :=
  ∃ x y z : Int, -9223372036854775808 ≤ x ∧ x ≤ 9223372036854775807 ∧ -9223372036854775808 ≤ y ∧ y ≤ 9223372036854775807 ∧ -9223372036854775808 ≤ z ∧ z ≤ 9223372036854775807 ∧
    e = .returned (.tuple #[.int .i64 x, .int .i64 y, .int .i64 z]) ∧ Below w.heap.size w w'
theorem below_of {w w1 w2 : World} (hb : Below w.heap.size w w1) (hg : w1.grownBy w2 (some w.heap.size)) : Below w.heap.size w w2 :=
  hb.grown hg hb.size (fun k hk => by injection hk with hk; omega)
theorem drawDegrees (w : World) (a : Option Addr) (len cap : Nat) (zs : List Int) (h : Bytes w a len cap zs) :
    Calls Try.prog 11 #[.slice a len cap] w (Got1 w) := by
  go_enter Try.func11, Try.ntmps11
  go_wp2_with fail
  refine (open_code w a len cap zs h).mono ?_
  rintro e w1 ⟨rfl, hr1, hb1, hs1⟩
  have HS1 := Lib.hid hs1
  clear hs1
  go_wp2_with fail
  refine (l20Deg _ _ _ _ hr1 (by omega)).mono ?_
  rintro e w2 ⟨x, hx1, hx2, rfl, hr2, hg2⟩
  go_wp2
  go_ret
  exact ⟨x, hx1, hx2, rfl, below_of hb1 hg2⟩
theorem drawSine (w : World) (a : Option Addr) (len cap : Nat) (zs : List Int) (h : Bytes w a len cap zs) :
    Calls Try.prog 24 #[.slice a len cap] w (Got1 w) := by
  go_enter Try.func24, Try.ntmps24
  go_wp2_with fail
  refine (open_code w a len cap zs h).mono ?_
  rintro e w1 ⟨rfl, hr1, hb1, hs1⟩
  have HS1 := Lib.hid hs1
  clear hs1
  go_wp2_with fail
  refine (l20Deg _ _ _ _ hr1 (by omega)).mono ?_
  rintro e w2 ⟨x, hx1, hx2, rfl, hr2, hg2⟩
  go_wp2
  go_ret
  exact ⟨x, hx1, hx2, rfl, below_of hb1 hg2⟩
theorem drawAngleBetween (w : World) (a : Option Addr) (len cap : Nat) (zs : List Int) (h : Bytes w a len cap zs) :
    Calls Try.prog 18 #[.slice a len cap] w (Got2 w) := by
  go_enter Try.func18, Try.ntmps18
  go_wp2_with fail
  refine (open_code w a len cap zs h).mono ?_
  rintro e w1 ⟨rfl, hr1, hb1, hs1⟩
  have HS1 := Lib.hid hs1
  clear hs1
  go_wp2_with fail
  refine (l20Deg _ _ _ _ hr1 (by omega)).mono ?_
  rintro e w2 ⟨x, hx1, hx2, rfl, hr2, hg2⟩
  go_wp2_with fail
  refine (l20Deg _ _ _ _ hr2 (by omega)).mono ?_
  rintro e w3 ⟨y, hy1, hy2, rfl, hr3, hg3⟩
  go_wp2
  go_ret2
  exact ⟨x, y, hx1, hx2, hy1, hy2, rfl, below_of hb1 (hg2.trans hg3)⟩
theorem sq_small (k : Int) (h0 : 0 ≤ k) (h1 : k < 1000) : 0 ≤ k * k ∧ k * k ≤ 1000000 := by
  constructor
  · exact Int.mul_nonneg h0 h0
  · have := Int.mul_le_mul (show k ≤ 1000 by omega) (show k ≤ 1000 by omega) h0 (by omega); omega
theorem drawSquareRoot (w : World) (a : Option Addr) (len cap : Nat) (zs : List Int) (h : Bytes w a len cap zs) :
    Calls Try.prog 14 #[.slice a len cap] w (Got1 w) := by
  go_enter Try.func14, Try.ntmps14
  go_wp2_with fail
  refine (open_code w a len cap zs h).mono ?_
  rintro e w0 ⟨rfl, hr0, hb0, hs0⟩
  have HS0 := Lib.hid hs0
  clear hs0
  go_wp2_with fail
  refine (pick _ _ _ _ _ hr0 (by omega)).mono ?_
  rintro e w1 ⟨x1, a1, b1, rfl, hr1, hg1, hs1⟩
  have c1 := b1 (by omega)
  have HS1 := Lib.hid hs1
  clear b1 hs1
  have hq := sq_small x1 a1 c1
  obtain ⟨q0, q1⟩ := hq
  go_wp2_with fail
  refine (pick _ _ _ _ _ hr1 (by omega)).mono ?_
  rintro e w2 ⟨x2, a2, b2, rfl, hr2, hg2, hs2⟩
  have c2 := b2 (by omega)
  have HS2 := Lib.hid hs2
  clear b2 hs2
  go_wp2_with fail
  refine (pick _ _ _ _ _ hr2 (by omega)).mono ?_
  rintro e w3 ⟨x3, a3, b3, rfl, hr3, hg3, hs3⟩
  have c3 := b3 (by omega)
  have HS3 := Lib.hid hs3
  clear b3 hs3
  go_wp2_with fail
  refine (pick _ _ _ _ _ (by exact (hr3.alloc _).alloc _) (by omega)).mono ?_
  rintro e w4 ⟨x4, a4, b4, rfl, hr4, hg4, hs4⟩
  have c4 := b4 (by omega)
  have hlt := hr3.lt
  have f1 := fun o => hg4.cell_far ⟨w3.heap.size + 1, o, none⟩ (by simp) (by simp; omega)
  have f0 := fun o => hg4.cell_far ⟨w3.heap.size, o, none⟩ (by simp; omega) (by simp; omega)
  have HB := Lib.hid (below_of hb0 (((hg1.trans hg2).trans hg3).trans (((only_alloc (only_alloc (World.grownBy.refl w3 (some w.heap.size)) _) _)).trans hg4)))
  clear hr0 hr1 hr2 hr3 hr4 hg1 hg2 hg3 hg4 hb0 b4 hs4 HS0 HS1 HS2 HS3
  have hx : x4 = 0 ∨ x4 = 1 ∨ x4 = 2 ∨ x4 = 3 ∨ x4 = 4 ∨ x4 = 5 ∨ x4 = 6 ∨ x4 = 7 := by omega
  clear a4 c4
  rcases hx with rfl | rfl | rfl | rfl | rfl | rfl | rfl | rfl
  all_goals
    go_wp2
    go_ret
    refine ⟨_, ?_, ?_, rfl, HB.out⟩ <;> omega
end Go.Proofs.Ytpiabkihbbfmoaa
