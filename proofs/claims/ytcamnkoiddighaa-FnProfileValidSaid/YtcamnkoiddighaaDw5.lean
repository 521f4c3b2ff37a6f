/- What the laws on motions draw from a code: speeds, distances, limits and accelerations. -/
import Derived.Test.YtcamnkoiddighaaDrawO
namespace Go.Proofs.Ytcamnkoiddighaa
set_option maxRecDepth 100000
open Go.RowKit

/-- What a draw of a number within bounds says. -/
def DrawnB (B M r : Nat) (lo hi : Int) (w : World) (e : Ending) (w' : World) : Prop :=
  ∃ x : Int, lo ≤ x ∧ x ≤ hi ∧ e = .returned (.int .i64 x) ∧ Rd B M w' r ∧ w.grownBy w' (some r)
theorem l20Rise (B M r : Nat) (n : Int) (w : World) (hr : Rd B M w r) (hM : M ≤ 900000) (h0 : 0 < n) (h1 : n ≤ 1000000) :
    Calls Try.prog 37 #[.pointer (some ⟨r, 0, none⟩), .int .i64 n] w (DrawnB B (M + 3) r 0 51 w) := by
  go_enter Try.func37, Try.ntmps37
  go_wp2_with fail
  refine (oddA B M r n _ hr (by omega) h0 h1).mono ?_
  rintro e w1 ⟨b, rfl, hr1, hg1, hs1⟩
  have HS1 := Lib.hid hs1
  clear hs1
  cases b
  · go_wp2_with fail
    refine (pick B (M + 1) r _ _ (by exact hr1.alloc _) (by omega)).mono ?_
    rintro e w2 ⟨x2, a2, b2, rfl, hr2, hg2, hs2⟩
    have c2 := b2 (by omega)
    have hlt := hr1.lt
    have f0 := fun o => hg2.cell_far ⟨w1.heap.size, o, none⟩ (by simp) (by simp; omega)
    have HG := Lib.hid (hg1.trans ((only_alloc (World.grownBy.refl w1 (some r)) _).trans hg2))
    have HS2 := Lib.hid hs2
    have HR2 := Lib.hid hr2
    clear b2 hs2 hg2 hg1 hr1 hr hr2
    have hx : x2 = 0 ∨ x2 = 1 := by omega
    clear a2 c2
    rcases hx with rfl | rfl
    all_goals
      go_wp2_with fail
      refine (pick B (M + 1 + 1) r _ _ HR2.out (by omega)).mono ?_
      rintro e w3 ⟨x3, a3, b3, rfl, hr3, hg3, hs3⟩
      have c3 := b3 (by omega)
      have HG3 := Lib.hid (HG.out.trans hg3)
      have HR3 := Lib.hid (hr3.mono (show M + 1 + 1 + 1 ≤ M + 3 by omega))
      clear b3 hs3 hg3 hr3 f0
      go_wp2
      go_ret
      exact ⟨_, by omega, by omega, rfl, HR3.out, HG3.out⟩
  · go_wp2_with fail
    refine (pick B (M + 1) r _ _ (by exact hr1.alloc _) (by omega)).mono ?_
    rintro e w2 ⟨x2, a2, b2, rfl, hr2, hg2, hs2⟩
    have c2 := b2 (by omega)
    have hlt := hr1.lt
    have f0 := fun o => hg2.cell_far ⟨w1.heap.size, o, none⟩ (by simp) (by simp; omega)
    have HG := Lib.hid (hg1.trans ((only_alloc (World.grownBy.refl w1 (some r)) _).trans hg2))
    have HR2 := Lib.hid (hr2.mono (show M + 1 + 1 ≤ M + 3 by omega))
    clear b2 hs2 hg2 hg1 hr1 hr hr2
    have hx : x2 = 0 ∨ x2 = 1 := by omega
    clear a2 c2
    rcases hx with rfl | rfl
    all_goals
      go_wp2
      go_ret
      exact ⟨_, by omega, by omega, rfl, HR2.out, HG.out⟩
theorem l20Top (B M r : Nat) (n : Int) (w : World) (hr : Rd B M w r) (hM : M ≤ 900000) (h0 : 0 < n) (h1 : n ≤ 1000000) :
    Calls Try.prog 43 #[.pointer (some ⟨r, 0, none⟩), .int .i64 n] w (DrawnB B (M + 3) r 0 201 w) := by
  go_enter Try.func43, Try.ntmps43
  go_wp2_with fail
  refine (oddA B M r n _ hr (by omega) h0 h1).mono ?_
  rintro e w1 ⟨b, rfl, hr1, hg1, hs1⟩
  have HS1 := Lib.hid hs1
  clear hs1
  cases b
  · go_wp2_with fail
    refine (pick B (M + 1) r _ _ (by exact hr1.alloc _) (by omega)).mono ?_
    rintro e w2 ⟨x2, a2, b2, rfl, hr2, hg2, hs2⟩
    have c2 := b2 (by omega)
    have hlt := hr1.lt
    have f0 := fun o => hg2.cell_far ⟨w1.heap.size, o, none⟩ (by simp) (by simp; omega)
    have HG := Lib.hid (hg1.trans ((only_alloc (World.grownBy.refl w1 (some r)) _).trans hg2))
    have HS2 := Lib.hid hs2
    have HR2 := Lib.hid hr2
    clear b2 hs2 hg2 hg1 hr1 hr hr2
    have hx : x2 = 0 ∨ x2 = 1 := by omega
    clear a2 c2
    rcases hx with rfl | rfl
    all_goals
      go_wp2_with fail
      refine (pick B (M + 1 + 1) r _ _ HR2.out (by omega)).mono ?_
      rintro e w3 ⟨x3, a3, b3, rfl, hr3, hg3, hs3⟩
      have c3 := b3 (by omega)
      have HG3 := Lib.hid (HG.out.trans hg3)
      have HR3 := Lib.hid (hr3.mono (show M + 1 + 1 + 1 ≤ M + 3 by omega))
      clear b3 hs3 hg3 hr3 f0
      go_wp2
      go_ret
      exact ⟨_, by omega, by omega, rfl, HR3.out, HG3.out⟩
  · go_wp2_with fail
    refine (pick B (M + 1) r _ _ (by exact hr1.alloc _) (by omega)).mono ?_
    rintro e w2 ⟨x2, a2, b2, rfl, hr2, hg2, hs2⟩
    have c2 := b2 (by omega)
    have hlt := hr1.lt
    have f0 := fun o => hg2.cell_far ⟨w1.heap.size, o, none⟩ (by simp) (by simp; omega)
    have HG := Lib.hid (hg1.trans ((only_alloc (World.grownBy.refl w1 (some r)) _).trans hg2))
    have HR2 := Lib.hid (hr2.mono (show M + 1 + 1 ≤ M + 3 by omega))
    clear b2 hs2 hg2 hg1 hr1 hr hr2
    have hx : x2 = 0 ∨ x2 = 1 := by omega
    clear a2 c2
    rcases hx with rfl | rfl
    all_goals
      go_wp2
      go_ret
      exact ⟨_, by omega, by omega, rfl, HR2.out, HG.out⟩
theorem l20Far (B M r : Nat) (n : Int) (w : World) (hr : Rd B M w r) (hM : M ≤ 900000) (h0 : 0 < n) (h1 : n ≤ 1000000) :
    Calls Try.prog 42 #[.pointer (some ⟨r, 0, none⟩), .int .i64 n] w (DrawnB B (M + 4) r (-1) 5001 w) := by
  go_enter Try.func42, Try.ntmps42
  go_wp2_with fail
  refine (oddA B M r n _ hr (by omega) h0 h1).mono ?_
  rintro e w1 ⟨b, rfl, hr1, hg1, hs1⟩
  have HS1 := Lib.hid hs1
  clear hs1
  cases b
  · go_wp2_with fail
    refine (pick B (M + 1) r _ _ hr1 (by omega)).mono ?_
    rintro e w2 ⟨x2, a2, b2, rfl, hr2, hg2, hs2⟩
    have c2 := b2 (by omega)
    have HS2 := Lib.hid hs2
    clear b2 hs2
    go_wp2_with fail
    refine (pick B (M + 1 + 1) r _ _ hr2 (by omega)).mono ?_
    rintro e w3 ⟨x3, a3, b3, rfl, hr3, hg3, hs3⟩
    have c3 := b3 (by omega)
    have HS3 := Lib.hid hs3
    clear b3 hs3
    go_wp2_with fail
    refine (pick B (M + 1 + 1 + 1) r _ _ (by exact (hr3.alloc _).alloc _) (by omega)).mono ?_
    rintro e w4 ⟨x4, a4, b4, rfl, hr4, hg4, hs4⟩
    have c4 := b4 (by omega)
    have hlt := hr3.lt
    have f1 := fun o => hg4.cell_far ⟨w3.heap.size + 1, o, none⟩ (by simp) (by simp; omega)
    have f0 := fun o => hg4.cell_far ⟨w3.heap.size, o, none⟩ (by simp; omega) (by simp; omega)
    have HG := Lib.hid (((hg1.trans hg2).trans hg3).trans (((only_alloc (only_alloc (World.grownBy.refl w3 (some r)) _) _)).trans hg4))
    have HR := Lib.hid (hr4.mono (show M + 1 + 1 + 1 + 1 ≤ M + 4 by omega))
    clear hr hr1 hr2 hr3 hr4 hg1 hg2 hg3 hg4 b4 hs4 HS1 HS2 HS3
    have hx : x4 = 0 ∨ x4 = 1 ∨ x4 = 2 ∨ x4 = 3 ∨ x4 = 4 ∨ x4 = 5 ∨ x4 = 6 ∨ x4 = 7 := by omega
    clear a4 c4
    rcases hx with rfl | rfl | rfl | rfl | rfl | rfl | rfl | rfl
    all_goals
      go_wp2
      go_ret
      refine ⟨_, ?_, ?_, rfl, HR.out, HG.out⟩ <;> omega
  · go_wp2_with fail
    refine (pick B (M + 1) r _ _ (by exact hr1.alloc _) (by omega)).mono ?_
    rintro e w2 ⟨x2, a2, b2, rfl, hr2, hg2, hs2⟩
    have c2 := b2 (by omega)
    have hlt := hr1.lt
    have f0 := fun o => hg2.cell_far ⟨w1.heap.size, o, none⟩ (by simp) (by simp; omega)
    have HG := Lib.hid (hg1.trans ((only_alloc (World.grownBy.refl w1 (some r)) _).trans hg2))
    have HR2 := Lib.hid (hr2.mono (show M + 1 + 1 ≤ M + 4 by omega))
    clear b2 hs2 hg2 hg1 hr1 hr hr2
    have hx : x2 = 0 ∨ x2 = 1 := by omega
    clear a2 c2
    rcases hx with rfl | rfl
    all_goals
      go_wp2
      go_ret
      refine ⟨_, ?_, ?_, rfl, HR2.out, HG.out⟩ <;> omega
theorem below_got {w w1 w2 : World} (hb : Below w.heap.size w w1) (hg : w1.grownBy w2 (some w.heap.size)) : Below w.heap.size w w2 :=
  hb.grown hg hb.size (fun k hk => by injection hk with hk; omega)
/-- What drawing a speed and a deceleration says. -/
def GotS (w : World) (e : Ending) (w' : World) : Prop :=
  ∃ v a : Int, -1 ≤ v ∧ v ≤ 201 ∧ 0 ≤ a ∧ a ≤ 51 ∧ e = .returned (.tuple #[.int .i64 v, .int .i64 a]) ∧ Below w.heap.size w w'
theorem drawStopDistance (w : World) (a : Option Addr) (len cap : Nat) (zs : List Int) (h : Bytes w a len cap zs) :
    Calls Try.prog 14 #[.slice a len cap] w (GotS w) := by
  go_enter Try.func14, Try.ntmps14
  go_wp2_with fail
  refine (open_code w a len cap zs h).mono ?_
  rintro e w1 ⟨rfl, hr1, hb1, hs1⟩
  have HS1 := Lib.hid hs1
  clear hs1
  go_wp2_with fail
  refine (pick _ _ _ _ _ hr1 (by omega)).mono ?_
  rintro e w2 ⟨x2, a2, b2, rfl, hr2, hg2, hs2⟩
  have c2 := b2 (by omega)
  have HS2 := Lib.hid hs2
  clear b2 hs2
  go_wp2_with fail
  refine (l20Rise _ _ _ _ _ hr2 (by omega) (by omega) (by omega)).mono ?_
  rintro e w3 ⟨x3, a3, c3, rfl, hr3, hg3⟩
  go_wp2
  go_ret2
  exact ⟨_, _, by omega, by omega, a3, c3, rfl, below_got hb1 (hg2.trans hg3)⟩
/-- What drawing a speed, a distance, a limit and an acceleration says. -/
def GotN (w : World) (e : Ending) (w' : World) : Prop :=
  ∃ v d t a : Int, -1 ≤ v ∧ v ≤ 201 ∧ -1 ≤ d ∧ d ≤ 5001 ∧ 0 ≤ t ∧ t ≤ 201 ∧ 0 ≤ a ∧ a ≤ 51 ∧ e = .returned (.tuple #[.int .i64 v, .int .i64 d, .int .i64 t, .int .i64 a]) ∧ Below w.heap.size w w'
theorem drawNextSpeed (w : World) (a : Option Addr) (len cap : Nat) (zs : List Int) (h : Bytes w a len cap zs) :
    Calls Try.prog 18 #[.slice a len cap] w (GotN w) := by
  go_enter Try.func18, Try.ntmps18
  go_wp2_with fail
  refine (open_code w a len cap zs h).mono ?_
  rintro e w1 ⟨rfl, hr1, hb1, hs1⟩
  have HS1 := Lib.hid hs1
  clear hs1
  go_wp2_with fail
  refine (pick _ _ _ _ _ hr1 (by omega)).mono ?_
  rintro e w2 ⟨x2, a2, b2, rfl, hr2, hg2, hs2⟩
  have c2 := b2 (by omega)
  have HS2 := Lib.hid hs2
  clear b2 hs2
  go_wp2_with fail
  refine (pick _ _ _ _ _ hr2 (by omega)).mono ?_
  rintro e w3 ⟨x3, a3, b3, rfl, hr3, hg3, hs3⟩
  have c3 := b3 (by omega)
  have HS3 := Lib.hid hs3
  clear b3 hs3
  go_wp2_with fail
  refine (pick _ _ _ _ _ (by exact (hr3.alloc _).alloc _) (by omega)).mono ?_
  rintro e w4 ⟨x4, a4, b4, rfl, hr4, hg4, hs4⟩
  have c4 := b4 (by omega)
  have hlt := hr3.lt
  have f1 := fun o => hg4.cell_far ⟨w3.heap.size + 1, o, none⟩ (by simp) (by simp; omega)
  have f0 := fun o => hg4.cell_far ⟨w3.heap.size, o, none⟩ (by simp; omega) (by simp; omega)
  have HG := Lib.hid ((hg2.trans hg3).trans (((only_alloc (only_alloc (World.grownBy.refl w3 (some w.heap.size)) _) _)).trans hg4))
  have HR := Lib.hid hr4
  have HB := Lib.hid hb1
  clear hr1 hr2 hr3 hr4 hg2 hg3 hg4 b4 hs4 HS1 HS2 HS3 hb1
  have hx : x4 = 0 ∨ x4 = 1 ∨ x4 = 2 ∨ x4 = 3 ∨ x4 = 4 ∨ x4 = 5 := by omega
  clear a4 c4
  rcases hx with rfl | rfl | rfl | rfl | rfl | rfl
  all_goals
    go_wp2_with fail
    refine (l20Far _ _ _ _ _ HR.out (by omega) (by omega) (by omega)).mono ?_
    rintro e w5 ⟨x5, a5, c5, rfl, hr5, hg5⟩
    clear f0 f1
    go_wp2_with fail
    refine (l20Top _ _ _ _ _ hr5 (by omega) (by omega) (by omega)).mono ?_
    rintro e w6 ⟨x6, a6, c6, rfl, hr6, hg6⟩
    go_wp2_with fail
    refine (l20Rise _ _ _ _ _ hr6 (by omega) (by omega) (by omega)).mono ?_
    rintro e w7 ⟨x7, a7, c7, rfl, hr7, hg7⟩
    go_wp2
    refine bodyPost_ret (by simp [results, Try.results18, go_sem]; first | done | rfl) rfl ?_
    exact ⟨_, _, _, _, by omega, by omega, a5, c5, a6, c6, a7, c7, rfl, below_got HB.out (((HG.out.trans hg5).trans hg6).trans hg7)⟩
/-- What drawing a distance, a limit and an acceleration says. -/
def GotP (w : World) (e : Ending) (w' : World) : Prop :=
  ∃ d t a : Int, -1 ≤ d ∧ d ≤ 5001 ∧ 0 ≤ t ∧ t ≤ 201 ∧ 0 ≤ a ∧ a ≤ 51 ∧ e = .returned (.tuple #[.int .i64 d, .int .i64 t, .int .i64 a]) ∧ Below w.heap.size w w'
theorem drawMotionProfile (w : World) (a : Option Addr) (len cap : Nat) (zs : List Int) (h : Bytes w a len cap zs) :
    Calls Try.prog 21 #[.slice a len cap] w (GotP w) := by
  go_enter Try.func21, Try.ntmps21
  go_wp2_with fail
  refine (open_code w a len cap zs h).mono ?_
  rintro e w1 ⟨rfl, hr1, hb1, hs1⟩
  have HS1 := Lib.hid hs1
  clear hs1
  go_wp2_with fail
  refine (l20Far _ _ _ _ _ hr1 (by omega) (by omega) (by omega)).mono ?_
  rintro e w5 ⟨x5, a5, c5, rfl, hr5, hg5⟩
  go_wp2_with fail
  refine (l20Top _ _ _ _ _ hr5 (by omega) (by omega) (by omega)).mono ?_
  rintro e w6 ⟨x6, a6, c6, rfl, hr6, hg6⟩
  go_wp2_with fail
  refine (l20Rise _ _ _ _ _ hr6 (by omega) (by omega) (by omega)).mono ?_
  rintro e w7 ⟨x7, a7, c7, rfl, hr7, hg7⟩
  go_wp2
  go_ret3
  exact ⟨_, _, _, a5, c5, a6, c6, a7, c7, rfl, below_got hb1 ((hg5.trans hg6).trans hg7)⟩
theorem drawProfileTime (w : World) (a : Option Addr) (len cap : Nat) (zs : List Int) (h : Bytes w a len cap zs) :
    Calls Try.prog 26 #[.slice a len cap] w (GotP w) := by
  go_enter Try.func26, Try.ntmps26
  go_wp2_with fail
  refine (drawMotionProfile w a len cap zs h).mono ?_
  rintro e w1 ⟨d, t, c, d0, d1, t0, t1, c0, c1, rfl, hb⟩
  go_wp2
  go_ret3
  exact ⟨_, _, _, d0, d1, t0, t1, c0, c1, rfl, hb⟩
end Go.Proofs.Ytcamnkoiddighaa
