/- The walk of the law FnReachOf: it returns true at every code. -/
import Derived.Test.YtcfiojfegiemoaaDraw3
import Derived.Test.YtcfiojfegiemoaaChain4
import Derived.Deep.QuietTactic
import Derived.BigQuiet
namespace Go.Proofs.Ytcfiojfegiemoaa
open Go.RowKit
attribute [local go_sem ↓] Go.wp_at_zero Go.wp_at_succ
def absI (n : Int) : Int := if n < 0 then -n else n
theorem absL (n : Int) (w : World) (h0 : -1000000 ≤ n) (h1 : n ≤ 1000000) : Calls Try.prog 21 #[.int .i64 n] w fun e w' => e = .returned (.int .i64 (absI n)) ∧ w' = w := by
  by_cases h : n < 0
  · have HE := Lib.hid (show absI n = -n by unfold absI; rw [if_pos h])
    go_enter Try.func21, Try.ntmps21
    go_wp2
    go_ret
    exact ⟨ret_int HE.out.symm, rfl⟩
  · have HE := Lib.hid (show absI n = n by unfold absI; rw [if_neg h])
    go_enter Try.func21, Try.ntmps21
    go_wp2
    go_ret
    exact ⟨ret_int HE.out.symm, rfl⟩
theorem reach_bd {ls lo hi : List Int} (h : okArm ls lo hi) : 0 ≤ nearV ls ∧ nearV ls ≤ farV ls ∧ farV ls ≤ 2000 ∧ (ls.length = 1 → nearV ls = farV ls) ∧ (ls.length = 2 → nearV ls = absI (ls.getD 0 0 - ls.getD 1 0)) := by
  have hs := sumN_bd ls (fun i hi => ⟨(h.2.2.2.2 i hi).1, (h.2.2.2.2 i hi).2.1⟩)
  have h1 := hs ls.length (Nat.le_refl _)
  have hl := h.2.1
  unfold nearV farV
  refine ⟨by omega, by omega, by omega, fun e => ?_, fun e => ?_⟩
  · have g0 := (h.2.2.2.2 0 (by omega)).1
    rw [e]
    simp only [sumN, mostN]
    omega
  · have g0 := (h.2.2.2.2 0 (by omega)).1
    have g1 := (h.2.2.2.2 1 (by omega)).1
    rw [e]
    simp only [sumN, mostN]
    unfold absI
    split <;> omega
set_option maxHeartbeats 2000000 in
theorem walkFnReachOf (w : World) (a : Option Addr) (len cap : Nat) (zs : List Int) (h : Bytes w a len cap zs) :
    Calls Try.prog 5 #[.slice a len cap] w fun e w' => e = .returned (.bool true) ∧ Below w.heap.size w w' := by
  have hle := h.len_le
  obtain ⟨hl, hm⟩ := hle
  unfold maxLen at hm
  by_cases hlen : len ≤ 1048576
  · go_enter Try.func5, Try.ntmps5
    go_wp2_with fail
    refine (drawReachOf w a len cap zs h).mono ?_
    rintro e w1 ⟨⟨xa, xl, xc⟩, ⟨ya, yl, yc⟩, ⟨za, zl, zc⟩, ls, lo, hi, rfl, i1, i2, i3, lx, ly, lz, _, _, _, _, _, _, B1⟩
    simp only at i1 i2 i3 lx ly lz
    have P := AtA.box w1 (.slice xa xl xc) (.slice ya yl yc) (.slice za zl zc) 25
    have Bx := below_box w1 (.cells #[.slice xa xl xc, .slice ya yl yc, .slice za zl zc] 25)
    replace i1 := i1.next Bx
    replace i2 := i2.next Bx
    replace i3 := i3.next Bx
    have HB := Lib.hid (below_call B1 Bx)
    clear B1 Bx h
    by_cases hok : okArm ls lo hi
    · go_wp2_with fail
      refine (implReachOf ⟨xa, xl, xc⟩ ⟨ya, yl, yc⟩ ⟨za, zl, zc⟩ ls lo hi _ i1 i2 i3 (by simp only; omega) (by simp only; omega) (by simp only; omega)).mono ?_
      generalize w1.alloc (.cells #[.slice xa xl xc, .slice ya yl yc, .slice za zl zc] 25) = w2 at *
      rw [reachV_in hok]
      rintro e w3 ⟨rfl, B3⟩
      replace i1 := i1.next B3
      replace i2 := i2.next B3
      replace i3 := i3.next B3
      replace P := P.next B3
      replace HB := Lib.hid (below_call HB.out B3)
      obtain ⟨_, p1, p2, p3, _, _, _⟩ := id P
      clear B3
      go_wp2_with fail
      refine (specReachOf ⟨xa, xl, xc⟩ ⟨ya, yl, yc⟩ ⟨za, zl, zc⟩ ls lo hi _ i1 i2 i3 (by simp only; omega) (by simp only; omega) (by simp only; omega)).mono ?_
      rw [reachV_in hok]
      rintro e w4 ⟨rfl, B4⟩
      replace i1 := i1.next B4
      replace i2 := i2.next B4
      replace i3 := i3.next B4
      replace P := P.next B4
      replace HB := Lib.hid (below_call HB.out B4)
      clear B4 p1 p2 p3
      obtain ⟨_, p1, p2, p3, _, _, _⟩ := id P
      have e0 : (farV ls != farV ls) = false := by simp
      have e1 : (nearV ls != nearV ls) = false := by simp
      go_wp2_with fail
      refine (specArmValidY ⟨xa, xl, xc⟩ ⟨ya, yl, yc⟩ ⟨za, zl, zc⟩ ls lo hi _ i1 i2 i3 hok).mono ?_
      rintro e w5 ⟨rfl, B5⟩
      replace P := P.next B5
      replace HB := Lib.hid (below_call HB.out B5)
      obtain ⟨b1, o1, rfl, lt1, c1⟩ := (i1.next B5).some (by rw [i1.1]; exact hok.1)
      obtain ⟨q1, q2, q3, q4, q5⟩ := reach_bd hok
      have m1 := i1.1
      have HQ := Lib.hid (And.intro q4 q5)
      have HL := Lib.hid (fun i hi => And.intro (hok.2.2.2.2 i hi).1 (hok.2.2.2.2 i hi).2.1)
      have n1 := hok.1
      have n2 := hok.2.1
      rw [← m1] at HQ HL n1 n2
      clear B5 p1 p2 p3 i1 i2 i3 hok q4 q5 m1
      obtain ⟨_, p1, p2, p3, _, _, _⟩ := id P
      generalize farV ls = f at *
      generalize nearV ls = nn at *
      have f1 : decide (0 ≤ nn) = true := decide_eq_true q1
      have f2 : decide (nn ≤ f) = true := decide_eq_true q2
      by_cases k1 : xl = 1
      · subst k1
        obtain rfl : nn = f := HQ.out.1 rfl
        have f3 : (nn == nn) = true := by simp
        clear c1
        go_wp2
        go_quiet (fail)
        go_wp2
        go_ret
        exact ⟨rfl, below_drewN HB.out _⟩
      · have g1 : ((xl : Int) != 1) = true := by simp; omega
        by_cases k2 : xl = 2
        · subst k2
          have d0 := c1 0 (by omega)
          have d1 := c1 1 (by omega)
          obtain ⟨u1, u2⟩ := HL.out 0 (by omega)
          obtain ⟨u3, u4⟩ := HL.out 1 (by omega)
          have hn := HQ.out.2 rfl
          rw [Nat.add_zero] at d0
          clear c1
          generalize ls.getD 0 0 = l0 at *
          generalize ls.getD 1 0 = l1 at *
          have o3 : IntKind.i64.wrap (l0 - l1) = l0 - l1 := IntWalk.i64_in _ (by omega)
          have f3 : (nn == absI (l0 - l1)) = true := by simp [hn]
          clear hn
          go_wp2
          go_quiet ((go_at_call 21; exact Calls.quiet_of_same (absL (l0 - l1) _ (by omega) (by omega))))
          go_wp2
          go_ret
          exact ⟨rfl, below_drewN HB.out _⟩
        · have g2 : ((xl : Int) != 2) = true := by simp; omega
          clear c1
          go_wp2
          go_quiet (fail)
          go_wp2
          go_ret
          exact ⟨rfl, below_drewN HB.out _⟩
    · go_wp2_with fail
      refine (implReachOf ⟨xa, xl, xc⟩ ⟨ya, yl, yc⟩ ⟨za, zl, zc⟩ ls lo hi _ i1 i2 i3 (by simp only; omega) (by simp only; omega) (by simp only; omega)).mono ?_
      generalize w1.alloc (.cells #[.slice xa xl xc, .slice ya yl yc, .slice za zl zc] 25) = w2 at *
      rw [reachV_out hok]
      rintro e w3 ⟨rfl, B3⟩
      replace i1 := i1.next B3
      replace i2 := i2.next B3
      replace i3 := i3.next B3
      replace P := P.next B3
      replace HB := Lib.hid (below_call HB.out B3)
      obtain ⟨_, p1, p2, p3, _, _, _⟩ := id P
      clear B3
      go_wp2_with fail
      refine (specReachOf ⟨xa, xl, xc⟩ ⟨ya, yl, yc⟩ ⟨za, zl, zc⟩ ls lo hi _ i1 i2 i3 (by simp only; omega) (by simp only; omega) (by simp only; omega)).mono ?_
      rw [reachV_out hok]
      rintro e w4 ⟨rfl, B4⟩
      replace i1 := i1.next B4
      replace i2 := i2.next B4
      replace i3 := i3.next B4
      replace P := P.next B4
      replace HB := Lib.hid (below_call HB.out B4)
      clear B4 p1 p2 p3
      obtain ⟨_, p1, p2, p3, _, _, _⟩ := id P
      go_wp2_with fail
      refine (specArmValidN ⟨xa, xl, xc⟩ ⟨ya, yl, yc⟩ ⟨za, zl, zc⟩ ls lo hi _ i1 i2 i3 hok (by simp only; omega) (by simp only; omega) (by simp only; omega)).mono ?_
      rintro e w5 ⟨rfl, B5⟩
      replace HB := Lib.hid (below_call HB.out B5)
      clear B5 p1 p2 p3 i1 i2 i3 hok P
      go_wp2_with fail
      refine (alive _).mono ?_
      rintro e w' ⟨rfl, rfl⟩
      go_wp2
      go_ret
      exact ⟨rfl, HB.out⟩
  · clear h
    go_enter Try.func5, Try.ntmps5
    go_wp2
    go_ret
    exact ⟨rfl, Below.refl _ _⟩
end Go.Proofs.Ytcfiojfegiemoaa
