/- The program's PathCorners: the steps compared. -/
import Derived.Test.YtkogoflcacameaaIm11b
import Derived.Test.YtkogoflcacameaaPl11
namespace Go.Proofs.Ytkogoflcacameaa
set_option maxRecDepth 100000
open Go.RowKit
attribute [local go_sem ↓] Go.wp_at_zero Go.wp_at_succ
/-- Two steps are equal, also in direction. -/
def evenV (a b c : Int) : Bool := dif b a == dif c b && (decide (a < b) == decide (b < c))
set_option maxHeartbeats 1000000 in
theorem isEvenC (a b c : Int) (w : World) :
    Calls Try.prog 65 #[.int .i64 a, .int .i64 b, .int .i64 c] w fun e w' => e = .returned (.bool (evenV a b c)) ∧ Below w.heap.size w w' := by
  generalize hv : evenV a b c = v
  unfold evenV dif at hv
  obtain ⟨x, hx⟩ : ∃ x, IntKind.i64.wrap (b - a) = x := ⟨_, rfl⟩
  obtain ⟨y, hy⟩ : ∃ y, IntKind.i64.wrap (c - b) = y := ⟨_, rfl⟩
  rw [hx, hy] at hv
  by_cases e : x = y
  · have e0 : (x == y) = true := by simpa using e
    obtain ⟨p, hp⟩ : ∃ p, decide (a < b) = p := ⟨_, rfl⟩
    obtain ⟨q, hq⟩ : ∃ q, decide (b < c) = q := ⟨_, rfl⟩
    rw [e0, hp, hq, Bool.true_and] at hv
    have HV := Lib.hid hv
    clear hv e
    go_enter Try.func65, Try.ntmps65
    go_wp2
    go_ret
    exact ⟨ret_bool HV.out, Below.refl _ _⟩
  · have e0 : (x == y) = false := by simpa using e
    rw [e0, Bool.false_and] at hv
    subst hv
    clear e
    go_enter Try.func65, Try.ntmps65
    go_wp2
    go_ret
    exact ⟨rfl, Below.refl _ _⟩
set_option maxHeartbeats 1000000 in
theorem isStraightC (a b c : C2) (w : World) :
    Calls Try.prog 52 #[pt a.1 a.2, pt b.1 b.2, pt c.1 c.2] w fun e w' => e = .returned (.bool (evenV a.1 b.1 c.1 && evenV a.2 b.2 c.2)) ∧ Below w.heap.size w w' := by
  have HB := Lib.hid (below_box3 w (.cells #[.int .i64 a.1, .int .i64 a.2] 33) (.cells #[.int .i64 b.1, .int .i64 b.2] 33) (.cells #[.int .i64 c.1, .int .i64 c.2] 33))
  have HP := Lib.hid (((AtP.box w a.1 a.2 33).alloc (.cells #[.int .i64 b.1, .int .i64 b.2] 33)).alloc (.cells #[.int .i64 c.1, .int .i64 c.2] 33))
  have Q := (AtP.box (w.alloc (.cells #[.int .i64 a.1, .int .i64 a.2] 33)) b.1 b.2 33).alloc (.cells #[.int .i64 c.1, .int .i64 c.2] 33)
  rw [show (w.alloc (.cells #[.int .i64 a.1, .int .i64 a.2] 33)).heap.size = w.heap.size + 1 by simp] at Q
  have HQ := Lib.hid Q
  have R := AtP.box ((w.alloc (.cells #[.int .i64 a.1, .int .i64 a.2] 33)).alloc (.cells #[.int .i64 b.1, .int .i64 b.2] 33)) c.1 c.2 33
  rw [show ((w.alloc (.cells #[.int .i64 a.1, .int .i64 a.2] 33)).alloc (.cells #[.int .i64 b.1, .int .i64 b.2] 33)).heap.size = w.heap.size + 2 by simp] at R
  have HR := Lib.hid R
  clear Q R
  go_enter Try.func52, Try.ntmps52
  go_upto_region 1 with fail
  generalize ((w.alloc (.cells #[.int .i64 a.1, .int .i64 a.2] 33)).alloc (.cells #[.int .i64 b.1, .int .i64 b.2] 33)).alloc (.cells #[.int .i64 c.1, .int .i64 c.2] 33) = w1 at *
  have p0 := HP.out.c0
  have q0 := HQ.out.c0
  have r0 := HR.out.c0
  go_wp2_with fail
  refine (isEvenC a.1 b.1 c.1 _).mono ?_
  rintro e w2 ⟨rfl, B2⟩
  have HB2 := Lib.hid (below_call HB.out B2)
  have p1 := (HP.out.next B2).c1
  have q1 := (HQ.out.next B2).c1
  have r1 := (HR.out.next B2).c1
  clear B2 p0 q0 r0
  cases hv : evenV a.1 b.1 c.1 with
  | false =>
    have HV := Lib.hid hv
    clear hv
    go_wp2
    go_ret
    exact ⟨ret_bool (by rw [HV.out]; rfl), HB2.out⟩
  | true =>
    have HV := Lib.hid hv
    clear hv
    go_wp2_with fail
    refine (isEvenC a.2 b.2 c.2 _).mono ?_
    rintro e w3 ⟨rfl, B3⟩
    have HB3 := Lib.hid (below_call HB2.out B3)
    clear B3 p1 q1 r1
    go_wp2
    go_ret
    exact ⟨ret_bool (by rw [HV.out]; rfl), HB3.out⟩
end Go.Proofs.Ytkogoflcacameaa
