/- What the laws on motions draw from a code: speeds, distances, limits and accelerations. -/
import Derived.Test.YtcoaahfnbgkofaaDrawO
namespace Go.Proofs.Ytcoaahfnbgkofaa
set_option maxRecDepth 100000
open Go.RowKit

/-- What a draw of a number within bounds says. -/
def DrawnB (B M r : Nat) (lo hi : Int) (w : World) (e : Ending) (w' : World) : Prop :=
  ∃ x : Int, lo ≤ x ∧ x ≤ hi ∧ e = .returned (.int .i64 x) ∧ Rd B M w' r ∧ w.grownBy w' (some r)
theorem l20Rise (B M r : Nat) (n : Int) (w : World) (hr : Rd B M w r) (hM : M ≤ 900000) (h0 : 0 < n) (h1 : n ≤ 1000000) :
    Calls Try.prog 43 #[.pointer (some ⟨r, 0, none⟩), .int .i64 n] w (DrawnB B (M + 3) r 0 51 w) := by
  go_enter Try.func43, Try.ntmps43
  go_wp2_with fail
  refine (oddA B M r n _ hr (by omega) h0 h1).mono ?_
  rintro e w1 ⟨b, rfl, hr1, hg1, hs1⟩
  have HS1 := Lib.hid hs1
  clear hs1
  cases b
  · go_wp2_with fail
    refine (pick B (M + 1) r _ _ (by exact hr1.alloc _) (by omega)).mono ?_
    rintro e w2 ⟨x2, a2, b2, rfl, hr2, hg2, hs2⟩
    have c2 := b2 (by omega)
    have hlt := hr1.lt
    have f0 := fun o => hg2.cell_far ⟨w1.heap.size, o, none⟩ (by simp) (by simp; omega)
    have HG := Lib.hid (hg1.trans ((only_alloc (World.grownBy.refl w1 (some r)) _).trans hg2))
    have HS2 := Lib.hid hs2
    have HR2 := Lib.hid hr2
    clear b2 hs2 hg2 hg1 hr1 hr hr2
    have hx : x2 = 0 ∨ x2 = 1 := by omega
    clear a2 c2
    rcases hx with rfl | rfl
    all_goals
      go_wp2_with fail
      refine (pick B (M + 1 + 1) r _ _ HR2.out (by omega)).mono ?_
      rintro e w3 ⟨x3, a3, b3, rfl, hr3, hg3, hs3⟩
      have c3 := b3 (by omega)
      have HG3 := Lib.hid (HG.out.trans hg3)
      have HR3 := Lib.hid (hr3.mono (show M + 1 + 1 + 1 ≤ M + 3 by omega))
      clear b3 hs3 hg3 hr3 f0
      go_wp2
      go_ret
      exact ⟨_, by omega, by omega, rfl, HR3.out, HG3.out⟩
  · go_wp2_with fail
    refine (pick B (M + 1) r _ _ (by exact hr1.alloc _) (by omega)).mono ?_
    rintro e w2 ⟨x2, a2, b2, rfl, hr2, hg2, hs2⟩
    have c2 := b2 (by omega)
    have hlt := hr1.lt
    have f0 := fun o => hg2.cell_far ⟨w1.heap.size, o, none⟩ (by simp) (by simp; omega)
    have HG := Lib.hid (hg1.trans ((only_alloc (World.grownBy.refl w1 (some r)) _).trans hg2))
    have HR2 := Lib.hid (hr2.mono (show M + 1 + 1 ≤ M + 3 by omega))
    clear b2 hs2 hg2 hg1 hr1 hr hr2
    have hx : x2 = 0 ∨ x2 = 1 := by omega
    clear a2 c2
    rcases hx with rfl | rfl
    all_goals
      go_wp2
      go_ret
      exact ⟨_, by omega, by omega, rfl, HR2.out, HG.out⟩
theorem l20Top (B M r : Nat) (n : Int) (w : World) (hr : Rd B M w r) (hM : M ≤ 900000) (h0 : 0 < n) (h1 : n ≤ 1000000) :
    Calls Try.prog 42 #[.pointer (some ⟨r, 0, none⟩), .int .i64 n] w (DrawnB B (M + 3) r 0 201 w) := by
  go_enter Try.func42, Try.ntmps42
  go_wp2_with fail
  refine (oddA B M r n _ hr (by omega) h0 h1).mono ?_
  rintro e w1 ⟨b, rfl, hr1, hg1, hs1⟩
  have HS1 := Lib.hid hs1
  clear hs1
  cases b
  · go_wp2_with fail
    refine (pick B (M + 1) r _ _ (by exact hr1.alloc _) (by omega)).mono ?_
    rintro e w2 ⟨x2, a2, b2, rfl, hr2, hg2, hs2⟩
    have c2 := b2 (by omega)
    have hlt := hr1.lt
    have f0 := fun o => hg2.cell_far ⟨w1.heap.size, o, none⟩ (by simp) (by simp; omega)
    have HG := Lib.hid (hg1.trans ((only_alloc (World.grownBy.refl w1 (some r)) _).trans hg2))
    have HS2 := Lib.hid hs2
    have HR2 := Lib.hid hr2
    clear b2 hs2 hg2 hg1 hr1 hr hr2
    have hx : x2 = 0 ∨ x2 = 1 := by omega
    clear a2 c2
    rcases hx with rfl | rfl
    all_goals
      go_wp2_with fail
      refine (pick B (M + 1 + 1) r _ _ HR2.out (by omega)).mono ?_
      rintro e w3 ⟨x3, a3, b3, rfl, hr3, hg3, hs3⟩
      have c3 := b3 (by omega)
      have HG3 := Lib.hid (HG.out.trans hg3)
      have HR3 := Lib.hid (hr3.mono (show M + 1 + 1 + 1 ≤ M + 3 by omega))
      clear b3 hs3 hg3 hr3 f0
      go_wp2
      go_ret
      exact ⟨_, by omega, by omega, rfl, HR3.out, HG3.out⟩
  · go_wp2_with fail
    refine (pick B (M + 1) r _ _ (by exact hr1.alloc _) (by omega)).mono ?_
    rintro e w2 ⟨x2, a2, b2, rfl, hr2, hg2, hs2⟩
    have c2 := b2 (by omega)
    have hlt := hr1.lt
    have f0 := fun o => hg2.cell_far ⟨w1.heap.size, o, none⟩ (by simp) (by simp; omega)
    have HG := Lib.hid (hg1.trans ((only_alloc (World.grownBy.refl w1 (some r)) _).trans hg2))
    have HR2 := Lib.hid (hr2.mono (show M + 1 + 1 ≤ M + 3 by omega))
    clear b2 hs2 hg2 hg1 hr1 hr hr2
    have hx : x2 = 0 ∨ x2 = 1 := by omega
    clear a2 c2
    rcases hx with rfl | rfl
    all_goals
      go_wp2
      go_ret
      exact ⟨_, by omega, by omega, rfl, HR2.out, HG.out⟩
theorem below_got {w w1 w2 : World} (hb : Below w.heap.size w w1) (hg : w1.grownBy w2 (some w.heap.size)) : Below w.heap.size w w2 :=
  hb.grown hg hb.size (fun k hk => by injection hk with hk; omega)
end Go.Proofs.Ytcoaahfnbgkofaa
