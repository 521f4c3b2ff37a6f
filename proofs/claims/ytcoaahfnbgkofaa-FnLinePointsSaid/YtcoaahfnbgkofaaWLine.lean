/- The walk of the law FnLinePoints: it returns true at every code. -/
import Derived.Test.YtcoaahfnbgkofaaLn6
import Derived.Test.YtcoaahfnbgkofaaLs6
import Derived.Test.YtcoaahfnbgkofaaDLine
namespace Go.Proofs.Ytcoaahfnbgkofaa
set_option maxRecDepth 100000
open Go.RowKit
attribute [local go_sem ↓] Go.wp_at_zero Go.wp_at_succ
set_option maxHeartbeats 4000000 in
theorem walkFnLinePoints (w : World) (a : Option Addr) (len cap : Nat) (zs : List Int) (h : Bytes w a len cap zs) :
    Calls Try.prog 5 #[.slice a len cap] w fun e w' => e = .returned (.bool true) ∧ Below w.heap.size w w' := by
  have hle := h.len_le
  obtain ⟨hl, hm⟩ := hle
  unfold maxLen at hm
  by_cases hlen : len ≤ 1048576
  · go_enter Try.func5, Try.ntmps5
    go_wp2_with fail
    refine (drawLinePoints w a len cap zs h).mono ?_
    rintro e w1 ⟨ax, ay, bx, b_y, n, rfl, n0, n1, B1⟩
    obtain ⟨PA, PB⟩ := at2 w1 ax ay bx b_y 38
    have HB := Lib.hid (below_call B1 (below_box2 w1 (.cells #[.int .i64 ax, .int .i64 ay] 38) (.cells #[.int .i64 bx, .int .i64 b_y] 38)))
    clear B1 h
    have HLE := Lib.hid (lineV_len ax ay bx b_y n)
    generalize hL : lineV ax ay bx b_y n = L at *
    have HE := Lib.hid hL
    clear hL
    go_upto_region 4 with fail
    generalize hA : w1.heap.size = A at *
    clear hA
    generalize (w1.alloc (.cells #[.int .i64 ax, .int .i64 ay] 38)).alloc (.cells #[.int .i64 bx, .int .i64 b_y] 38) = w2 at *
    obtain ⟨q0, q1, q2⟩ := id PA
    obtain ⟨q3, q4, q5⟩ := id PB
    go_wp2_with fail
    refine (implLinePoints ax ay bx b_y n _).mono ?_
    rintro e w3 ⟨⟨sa, sl, sc⟩, rfl, l3, O3, B3⟩
    rw [HE.out] at l3 O3
    have hl3 : sl ≤ 401 := by simp only at l3; rw [l3]; exact HLE.out
    replace l3 := Lib.hid l3
    simp only at *
    replace PA := PA.next B3
    replace PB := PB.next B3
    replace HB := Lib.hid (below_call HB.out B3)
    clear B3 q0 q1 q2 q3 q4 q5
    obtain ⟨q0, q1, q2⟩ := id PA
    obtain ⟨q3, q4, q5⟩ := id PB
    go_wp2_with fail
    refine (specLinePoints ax ay bx b_y n _).mono ?_
    rintro e w4 ⟨⟨ta, tl, tc⟩, rfl, l4, O4, B4⟩
    rw [HE.out] at O4
    clear l4
    simp only at *
    replace PA := PA.next B4
    replace PB := PB.next B4
    replace O3 := O3.next B4
    replace HB := Lib.hid (below_call HB.out B4)
    clear B4 q0 q1 q2 q3 q4 q5
    go_wp2_with fail
    refine (samePoints sa ta sl tl sc tc L _ O3.ints O4.ints (by omega)).mono ?_
    rintro e w5 ⟨rfl, B5⟩
    replace PA := PA.next B5
    replace PB := PB.next B5
    replace O3 := Lib.hid (O3.next B5).ints
    replace HB := Lib.hid (below_call HB.out B5)
    clear B5 O4
    replace l3 := l3.out
    by_cases hok : okLine ax ay bx b_y n
    · have HE2 := HE.out
      rw [lineV_in hok] at HE2
      rw [← HE2] at l3 O3
      clear HE2 HE
      obtain ⟨m, rfl⟩ : ∃ m : Nat, n = (m : Int) := ⟨n.toNat, by omega⟩
      rw [Int.toNat_natCast] at l3 O3
      rw [lineL_len] at l3
      subst l3
      obtain ⟨b, rfl, hbl, hc⟩ := O3.out.some (by omega)
      obtain ⟨_, _, m1, m2⟩ := hok
      have HC := Lib.hid (fun k (hk : k ≤ m) => (show _ ∧ _ from by have := hc k (by omega); rw [lineL_at ax ay bx b_y m k hk] at this; exact this))
      have HBX := Lib.hid (fun (k : Nat) (hk : k ≤ m) => And.intro (lnC_box (a := ax) (b := bx) (n := (m : Int)) (k := (k : Int)) m1 (by omega) (by omega)) (lnC_box (a := ay) (b := b_y) (n := (m : Int)) (k := (k : Int)) m1 (by omega) (by omega)))
      have HF := Lib.hid (And.intro (And.intro (lnC_first ax bx m) (lnC_first ay b_y m)) (And.intro (lnC_last ax bx m m1) (lnC_last ay b_y m m1)))
      clear hc O3 HLE
      have e0 : ((((m + 1 : Nat) : Int)) == 0) = false := by simp; omega
      go_wp2
      go_loopw [7] (fun i wr => ∃ k : Nat, k ≤ m + 1 ∧ i = .int .i64 (k : Int) ∧ Hid (Below w5.heap.size w5 wr)) (fun i _ => m + 1 - (intOf i).toNat)
      case atStart => exact ⟨0, Nat.zero_le _, rfl, Lib.hid (Below.refl _ _)⟩
      case round =>
        obtain ⟨k, hk, rfl, HW⟩ := hrel
        by_cases hlt : k < m + 1
        · obtain ⟨c0, c1⟩ := HC.out k (by omega)
          obtain ⟨⟨x1, x2⟩, x3, x4⟩ := HBX.out k (by omega)
          have d0 : wr.cell? ⟨b, k * 2, none⟩ = _ := (HW.out.cell (p := ⟨b, k * 2, none⟩) hbl).trans c0
          have d1 : wr.cell? ⟨b, k * 2 + 1, none⟩ = _ := (HW.out.cell (p := ⟨b, k * 2 + 1, none⟩) hbl).trans c1
          generalize lnC ax bx m k = px at *
          generalize lnC ay b_y m k = py at *
          have HW2 := Lib.hid (below_call HW.out (below_box wr (.cells #[.int .i64 px, .int .i64 py] 38)))
          obtain ⟨_, a0, a1⟩ := PA.next HW2.out
          obtain ⟨_, a2, a3⟩ := PB.next HW2.out
          have j1 : (0 : Int) ≤ (k : Int) := by omega
          have j2 : (k : Int) < ((m + 1 : Nat) : Int) := by omega
          obtain ⟨mx, e1⟩ : ∃ mx, (if bx < ax then bx else ax) = mx := ⟨_, rfl⟩
          obtain ⟨ux, e2⟩ : ∃ ux, (if ax < bx then bx else ax) = ux := ⟨_, rfl⟩
          obtain ⟨my, e3⟩ : ∃ my, (if b_y < ay then b_y else ay) = my := ⟨_, rfl⟩
          obtain ⟨uy, e4⟩ : ∃ uy, (if ay < b_y then b_y else ay) = uy := ⟨_, rfl⟩
          have f1 : ¬ px < mx := by rw [← e1]; split <;> omega
          have f2 : ¬ ux < px := by rw [← e2]; split <;> omega
          have f3 : ¬ py < my := by rw [← e3]; split <;> omega
          have f4 : ¬ uy < py := by rw [← e4]; split <;> omega
          clear c0 c1 x1 x2 x3 x4
          go_wp2
          go_roundw
          case rel => exact ⟨k + 1, by omega, by congr 1, HW2⟩
          case measure => simp [intOf]; omega
        · obtain rfl : k = m + 1 := by omega
          have j2 : ¬ (((m + 1 : Nat) : Int) < ((m + 1 : Nat) : Int)) := by omega
          obtain ⟨c0, c1⟩ := HC.out 0 (by omega)
          obtain ⟨c2, c3⟩ := HC.out m (by omega)
          obtain ⟨⟨y1, y2⟩, y3, y4⟩ := HF.out
          simp only [Int.natCast_zero, y1, y2, y3, y4] at c0 c1 c2 c3
          have hbr := Nat.lt_of_lt_of_le hbl HW.out.size
          have d0 := keptCell hbr ((HW.out.cell (p := ⟨b, 0 * 2, none⟩) hbl).trans c0)
          have d1 := keptCell hbr ((HW.out.cell (p := ⟨b, 0 * 2 + 1, none⟩) hbl).trans c1)
          have d2 := keptCell hbr ((HW.out.cell (p := ⟨b, m * 2, none⟩) hbl).trans c2)
          have d3 := keptCell hbr ((HW.out.cell (p := ⟨b, m * 2 + 1, none⟩) hbl).trans c3)
          simp only [Nat.zero_mul, Nat.zero_add] at d0 d1
          obtain ⟨a0, a1⟩ := (PA.next HW.out).kepts
          obtain ⟨a2, a3⟩ := (PB.next HW.out).kepts
          have z1 : (ax == ax) = true := by simp
          have z2 : (ay == ay) = true := by simp
          have z3 : (bx == bx) = true := by simp
          have z4 : (b_y == b_y) = true := by simp
          have z5 : (((m + 1 : Nat) : Int) == (m : Int) + 1) = true := by simp
          have z6 : (0 : Int) < ((m + 1 : Nat) : Int) := by omega
          have z7 : (m : Int) < ((m + 1 : Nat) : Int) := by omega
          have z8 : (0 : Int) ≤ (m : Int) := by omega
          clear c0 c1 c2 c3 y1 y2 y3 y4 PA PB
          go_wp2
          refine wp_region_kept (by kernel_rfl) (by kernel_rfl) ?_
          repeat (go_big_quiet_step (fail))
          refine wpQuiet_nil ?_
          rintro wq ⟨⟨_, Bq⟩, rfl⟩
          go_wp2
          go_ret
          exact ⟨rfl, below_call (below_call HB.out HW.out) Bq⟩
    · have HE2 := HE.out
      rw [lineV_out hok] at HE2
      rw [← HE2] at l3
      clear HE2 HE
      simp only [List.length_nil] at l3
      subst l3
      clear hok O3 HLE
      go_wp2_with fail
      refine (alive _).mono ?_
      rintro e w' ⟨rfl, rfl⟩
      go_wp2
      go_ret
      exact ⟨rfl, HB.out⟩
  · clear h
    go_enter Try.func5, Try.ntmps5
    go_wp2
    go_ret
    exact ⟨rfl, Below.refl _ _⟩
end Go.Proofs.Ytcoaahfnbgkofaa
