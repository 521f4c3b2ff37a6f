/- The document's functions on polygons: calls joined by '&&'. -/
import Derived.Test.YtkmopgdnaohcdaaZbDh
namespace Go.Proofs.Ytkmopgdnaohcdaa
set_option maxRecDepth 100000
open Go.RowKit
attribute [local go_sem ↓] Go.wp_at_zero Go.wp_at_succ
theorem specPointValidC (p : P2) (w : World) : Calls Try.prog 27 #[pt p.1 p.2] w fun e w' => e = .returned (.bool (decide (okQ p))) ∧ Below w.heap.size w w' := specPointValid p.1 p.2 w
set_option maxHeartbeats 1000000 in
theorem specInsideConvex (a : Option Addr) (len cap : Nat) (ps : List P2) (p : P2) (w : World) (hp_ps : PL w a len ps) (hl_ps : len ≤ 9223372036854775807) :
    Calls Try.prog 26 #[.slice a len cap, pt p.1 p.2] w fun e w' => e = .returned (.bool (decide (okCvx ps ∧ okQ p ∧ Ins ps p))) ∧ Below w.heap.size w w' := by
  have HB := Lib.hid (below_box w (.cells #[.int .i64 p.1, .int .i64 p.2] 28))
  have K0 := AtP.box w p.1 p.2 28
  have HK0 := Lib.hid K0
  have HP_ps := Lib.hid (hp_ps.next HB.out)
  have HLE_ps := Lib.hid hp_ps.1
  clear K0 hp_ps
  have HC0 := Lib.hid (fun (u : World) (hu : Below (w.alloc (.cells #[.int .i64 p.1, .int .i64 p.2] 28)).heap.size (w.alloc (.cells #[.int .i64 p.1, .int .i64 p.2] 28)) u) => specConvexValid a len cap ps u (HP_ps.out.next hu) hl_ps)
  by_cases k0 : okCvx ps
  rotate_left
  · have HV := Lib.hid (show false = decide (okCvx ps ∧ okQ p ∧ Ins ps p) from (decide_eq_false fun h => k0 (by obtain ⟨z0, z1, z2⟩ := h; exact z0)).symm)
    rw [decide_eq_false k0] at HC0
    generalize decide (okCvx ps ∧ okQ p ∧ Ins ps p) = rr at *
    clear k0
    go_enter Try.func26, Try.ntmps26
    go_wp2_with fail
    generalize (w.alloc (.cells #[.int .i64 p.1, .int .i64 p.2] 28)) = w0 at *
    have HW0 := Lib.hid (Below.refl w0.heap.size w0)
    refine ((HC0.out _ HW0.out)).mono ?_
    rintro e w1 ⟨rfl, B⟩
    have HW1 := Lib.hid (below_call HW0.out B)
    obtain ⟨_, a0, b0⟩ := HK0.out.next HW1.out
    clear B
    go_wp2
    go_ret
    exact ⟨ret_bool HV.out, below_call HB.out HW1.out⟩
  rw [decide_eq_true k0] at HC0
  have HC1 := Lib.hid (fun (u : World) (hu : Below (w.alloc (.cells #[.int .i64 p.1, .int .i64 p.2] 28)).heap.size (w.alloc (.cells #[.int .i64 p.1, .int .i64 p.2] 28)) u) => specPointValidC p u)
  by_cases k1 : okQ p
  rotate_left
  · have HV := Lib.hid (show false = decide (okCvx ps ∧ okQ p ∧ Ins ps p) from (decide_eq_false fun h => k1 (by obtain ⟨z0, z1, z2⟩ := h; exact z1)).symm)
    rw [decide_eq_false k1] at HC1
    generalize decide (okCvx ps ∧ okQ p ∧ Ins ps p) = rr at *
    clear k0 k1
    go_enter Try.func26, Try.ntmps26
    go_wp2_with fail
    generalize (w.alloc (.cells #[.int .i64 p.1, .int .i64 p.2] 28)) = w0 at *
    have HW0 := Lib.hid (Below.refl w0.heap.size w0)
    refine ((HC0.out _ HW0.out)).mono ?_
    rintro e w1 ⟨rfl, B⟩
    have HW1 := Lib.hid (below_call HW0.out B)
    obtain ⟨_, a0, b0⟩ := HK0.out.next HW1.out
    clear B
    go_wp2_with fail
    refine ((HC1.out _ HW1.out)).mono ?_
    rintro e w2 ⟨rfl, B⟩
    have HW2 := Lib.hid (below_call HW1.out B)
    clear a0 b0
    obtain ⟨_, a0, b0⟩ := HK0.out.next HW2.out
    clear B
    go_wp2
    go_ret
    exact ⟨ret_bool HV.out, below_call HB.out HW2.out⟩
  rw [decide_eq_true k1] at HC1
  have HC2 := Lib.hid (fun (u : World) (hu : Below (w.alloc (.cells #[.int .i64 p.1, .int .i64 p.2] 28)).heap.size (w.alloc (.cells #[.int .i64 p.1, .int .i64 p.2] 28)) u) => l8InsideC a len cap ps p u (HP_ps.out.next hu) (by have := HLE_ps.out; have := k0.2.1; omega) k0.2.2.1 k1)
  have HV := Lib.hid (show decide (Ins ps p) = decide (okCvx ps ∧ okQ p ∧ Ins ps p) from Bool.eq_iff_iff.2 (by simp only [decide_eq_true_eq]; exact ⟨fun h => ⟨k0, k1, h⟩, fun h => by obtain ⟨z0, z1, z2⟩ := h; exact z2⟩))
  generalize decide (Ins ps p) = bb at *
  generalize decide (okCvx ps ∧ okQ p ∧ Ins ps p) = rr at *
  clear k0 k1
  go_enter Try.func26, Try.ntmps26
  go_wp2_with fail
  generalize (w.alloc (.cells #[.int .i64 p.1, .int .i64 p.2] 28)) = w0 at *
  have HW0 := Lib.hid (Below.refl w0.heap.size w0)
  refine ((HC0.out _ HW0.out)).mono ?_
  rintro e w1 ⟨rfl, B⟩
  have HW1 := Lib.hid (below_call HW0.out B)
  obtain ⟨_, a0, b0⟩ := HK0.out.next HW1.out
  clear B
  go_wp2_with fail
  refine ((HC1.out _ HW1.out)).mono ?_
  rintro e w2 ⟨rfl, B⟩
  have HW2 := Lib.hid (below_call HW1.out B)
  clear a0 b0
  obtain ⟨_, a0, b0⟩ := HK0.out.next HW2.out
  clear B
  go_wp2_with fail
  refine ((HC2.out _ HW2.out)).mono ?_
  rintro e w3 ⟨rfl, B⟩
  have HW3 := Lib.hid (below_call HW2.out B)
  clear a0 b0
  obtain ⟨_, a0, b0⟩ := HK0.out.next HW3.out
  clear B
  go_wp2
  go_ret
  exact ⟨ret_bool HV.out, below_call HB.out HW3.out⟩
set_option maxHeartbeats 1000000 in
theorem specSegmentsMeet (p : P2) (q : P2) (r : P2) (s : P2) (w : World)  :
    Calls Try.prog 32 #[pt p.1 p.2, pt q.1 q.2, pt r.1 r.2, pt s.1 s.2] w fun e w' => e = .returned (.bool (decide (okQ p ∧ okQ q ∧ okQ r ∧ okQ s ∧ Meet p q r s))) ∧ Below w.heap.size w w' := by
  have HB := Lib.hid (below_box4 w (.cells #[.int .i64 p.1, .int .i64 p.2] 28) (.cells #[.int .i64 q.1, .int .i64 q.2] 28) (.cells #[.int .i64 r.1, .int .i64 r.2] 28) (.cells #[.int .i64 s.1, .int .i64 s.2] 28))
  have K0 := (((AtP.box w p.1 p.2 28).next (below_box _ (.cells #[.int .i64 q.1, .int .i64 q.2] 28))).next (below_box _ (.cells #[.int .i64 r.1, .int .i64 r.2] 28))).next (below_box _ (.cells #[.int .i64 s.1, .int .i64 s.2] 28))
  have K1 := ((AtP.box (w.alloc (.cells #[.int .i64 p.1, .int .i64 p.2] 28)) q.1 q.2 28).next (below_box _ (.cells #[.int .i64 r.1, .int .i64 r.2] 28))).next (below_box _ (.cells #[.int .i64 s.1, .int .i64 s.2] 28))
  have K2 := (AtP.box ((w.alloc (.cells #[.int .i64 p.1, .int .i64 p.2] 28)).alloc (.cells #[.int .i64 q.1, .int .i64 q.2] 28)) r.1 r.2 28).next (below_box _ (.cells #[.int .i64 s.1, .int .i64 s.2] 28))
  have K3 := AtP.box (((w.alloc (.cells #[.int .i64 p.1, .int .i64 p.2] 28)).alloc (.cells #[.int .i64 q.1, .int .i64 q.2] 28)).alloc (.cells #[.int .i64 r.1, .int .i64 r.2] 28)) s.1 s.2 28
  simp only [World.size_alloc] at K1 K2 K3
  have HK0 := Lib.hid K0
  have HK1 := Lib.hid K1
  have HK2 := Lib.hid K2
  have HK3 := Lib.hid K3
  clear K0 K1 K2 K3
  have HC0 := Lib.hid (fun (u : World) (hu : Below ((((w.alloc (.cells #[.int .i64 p.1, .int .i64 p.2] 28)).alloc (.cells #[.int .i64 q.1, .int .i64 q.2] 28)).alloc (.cells #[.int .i64 r.1, .int .i64 r.2] 28)).alloc (.cells #[.int .i64 s.1, .int .i64 s.2] 28)).heap.size ((((w.alloc (.cells #[.int .i64 p.1, .int .i64 p.2] 28)).alloc (.cells #[.int .i64 q.1, .int .i64 q.2] 28)).alloc (.cells #[.int .i64 r.1, .int .i64 r.2] 28)).alloc (.cells #[.int .i64 s.1, .int .i64 s.2] 28)) u) => specPointValidC p u)
  by_cases k0 : okQ p
  rotate_left
  · have HV := Lib.hid (show false = decide (okQ p ∧ okQ q ∧ okQ r ∧ okQ s ∧ Meet p q r s) from (decide_eq_false fun h => k0 (by obtain ⟨z0, z1, z2, z3, z4⟩ := h; exact z0)).symm)
    rw [decide_eq_false k0] at HC0
    generalize decide (okQ p ∧ okQ q ∧ okQ r ∧ okQ s ∧ Meet p q r s) = rr at *
    clear k0
    go_enter Try.func32, Try.ntmps32
    go_wp2_with fail
    generalize ((((w.alloc (.cells #[.int .i64 p.1, .int .i64 p.2] 28)).alloc (.cells #[.int .i64 q.1, .int .i64 q.2] 28)).alloc (.cells #[.int .i64 r.1, .int .i64 r.2] 28)).alloc (.cells #[.int .i64 s.1, .int .i64 s.2] 28)) = w0 at *
    have HW0 := Lib.hid (Below.refl w0.heap.size w0)
    refine ((HC0.out _ HW0.out)).mono ?_
    rintro e w1 ⟨rfl, B⟩
    have HW1 := Lib.hid (below_call HW0.out B)
    obtain ⟨_, a0, b0⟩ := HK0.out.next HW1.out
    obtain ⟨_, a1, b1⟩ := HK1.out.next HW1.out
    obtain ⟨_, a2, b2⟩ := HK2.out.next HW1.out
    obtain ⟨_, a3, b3⟩ := HK3.out.next HW1.out
    clear B
    go_wp2
    go_ret
    exact ⟨ret_bool HV.out, below_call HB.out HW1.out⟩
  rw [decide_eq_true k0] at HC0
  have HC1 := Lib.hid (fun (u : World) (hu : Below ((((w.alloc (.cells #[.int .i64 p.1, .int .i64 p.2] 28)).alloc (.cells #[.int .i64 q.1, .int .i64 q.2] 28)).alloc (.cells #[.int .i64 r.1, .int .i64 r.2] 28)).alloc (.cells #[.int .i64 s.1, .int .i64 s.2] 28)).heap.size ((((w.alloc (.cells #[.int .i64 p.1, .int .i64 p.2] 28)).alloc (.cells #[.int .i64 q.1, .int .i64 q.2] 28)).alloc (.cells #[.int .i64 r.1, .int .i64 r.2] 28)).alloc (.cells #[.int .i64 s.1, .int .i64 s.2] 28)) u) => specPointValidC q u)
  by_cases k1 : okQ q
  rotate_left
  · have HV := Lib.hid (show false = decide (okQ p ∧ okQ q ∧ okQ r ∧ okQ s ∧ Meet p q r s) from (decide_eq_false fun h => k1 (by obtain ⟨z0, z1, z2, z3, z4⟩ := h; exact z1)).symm)
    rw [decide_eq_false k1] at HC1
    generalize decide (okQ p ∧ okQ q ∧ okQ r ∧ okQ s ∧ Meet p q r s) = rr at *
    clear k0 k1
    go_enter Try.func32, Try.ntmps32
    go_wp2_with fail
    generalize ((((w.alloc (.cells #[.int .i64 p.1, .int .i64 p.2] 28)).alloc (.cells #[.int .i64 q.1, .int .i64 q.2] 28)).alloc (.cells #[.int .i64 r.1, .int .i64 r.2] 28)).alloc (.cells #[.int .i64 s.1, .int .i64 s.2] 28)) = w0 at *
    have HW0 := Lib.hid (Below.refl w0.heap.size w0)
    refine ((HC0.out _ HW0.out)).mono ?_
    rintro e w1 ⟨rfl, B⟩
    have HW1 := Lib.hid (below_call HW0.out B)
    obtain ⟨_, a0, b0⟩ := HK0.out.next HW1.out
    obtain ⟨_, a1, b1⟩ := HK1.out.next HW1.out
    obtain ⟨_, a2, b2⟩ := HK2.out.next HW1.out
    obtain ⟨_, a3, b3⟩ := HK3.out.next HW1.out
    clear B
    go_wp2_with fail
    refine ((HC1.out _ HW1.out)).mono ?_
    rintro e w2 ⟨rfl, B⟩
    have HW2 := Lib.hid (below_call HW1.out B)
    clear a0 b0
    obtain ⟨_, a0, b0⟩ := HK0.out.next HW2.out
    clear a1 b1
    obtain ⟨_, a1, b1⟩ := HK1.out.next HW2.out
    clear a2 b2
    obtain ⟨_, a2, b2⟩ := HK2.out.next HW2.out
    clear a3 b3
    obtain ⟨_, a3, b3⟩ := HK3.out.next HW2.out
    clear B
    go_wp2
    go_ret
    exact ⟨ret_bool HV.out, below_call HB.out HW2.out⟩
  rw [decide_eq_true k1] at HC1
  have HC2 := Lib.hid (fun (u : World) (hu : Below ((((w.alloc (.cells #[.int .i64 p.1, .int .i64 p.2] 28)).alloc (.cells #[.int .i64 q.1, .int .i64 q.2] 28)).alloc (.cells #[.int .i64 r.1, .int .i64 r.2] 28)).alloc (.cells #[.int .i64 s.1, .int .i64 s.2] 28)).heap.size ((((w.alloc (.cells #[.int .i64 p.1, .int .i64 p.2] 28)).alloc (.cells #[.int .i64 q.1, .int .i64 q.2] 28)).alloc (.cells #[.int .i64 r.1, .int .i64 r.2] 28)).alloc (.cells #[.int .i64 s.1, .int .i64 s.2] 28)) u) => specPointValidC r u)
  by_cases k2 : okQ r
  rotate_left
  · have HV := Lib.hid (show false = decide (okQ p ∧ okQ q ∧ okQ r ∧ okQ s ∧ Meet p q r s) from (decide_eq_false fun h => k2 (by obtain ⟨z0, z1, z2, z3, z4⟩ := h; exact z2)).symm)
    rw [decide_eq_false k2] at HC2
    generalize decide (okQ p ∧ okQ q ∧ okQ r ∧ okQ s ∧ Meet p q r s) = rr at *
    clear k0 k1 k2
    go_enter Try.func32, Try.ntmps32
    go_wp2_with fail
    generalize ((((w.alloc (.cells #[.int .i64 p.1, .int .i64 p.2] 28)).alloc (.cells #[.int .i64 q.1, .int .i64 q.2] 28)).alloc (.cells #[.int .i64 r.1, .int .i64 r.2] 28)).alloc (.cells #[.int .i64 s.1, .int .i64 s.2] 28)) = w0 at *
    have HW0 := Lib.hid (Below.refl w0.heap.size w0)
    refine ((HC0.out _ HW0.out)).mono ?_
    rintro e w1 ⟨rfl, B⟩
    have HW1 := Lib.hid (below_call HW0.out B)
    obtain ⟨_, a0, b0⟩ := HK0.out.next HW1.out
    obtain ⟨_, a1, b1⟩ := HK1.out.next HW1.out
    obtain ⟨_, a2, b2⟩ := HK2.out.next HW1.out
    obtain ⟨_, a3, b3⟩ := HK3.out.next HW1.out
    clear B
    go_wp2_with fail
    refine ((HC1.out _ HW1.out)).mono ?_
    rintro e w2 ⟨rfl, B⟩
    have HW2 := Lib.hid (below_call HW1.out B)
    clear a0 b0
    obtain ⟨_, a0, b0⟩ := HK0.out.next HW2.out
    clear a1 b1
    obtain ⟨_, a1, b1⟩ := HK1.out.next HW2.out
    clear a2 b2
    obtain ⟨_, a2, b2⟩ := HK2.out.next HW2.out
    clear a3 b3
    obtain ⟨_, a3, b3⟩ := HK3.out.next HW2.out
    clear B
    go_wp2_with fail
    refine ((HC2.out _ HW2.out)).mono ?_
    rintro e w3 ⟨rfl, B⟩
    have HW3 := Lib.hid (below_call HW2.out B)
    clear a0 b0
    obtain ⟨_, a0, b0⟩ := HK0.out.next HW3.out
    clear a1 b1
    obtain ⟨_, a1, b1⟩ := HK1.out.next HW3.out
    clear a2 b2
    obtain ⟨_, a2, b2⟩ := HK2.out.next HW3.out
    clear a3 b3
    obtain ⟨_, a3, b3⟩ := HK3.out.next HW3.out
    clear B
    go_wp2
    go_ret
    exact ⟨ret_bool HV.out, below_call HB.out HW3.out⟩
  rw [decide_eq_true k2] at HC2
  have HC3 := Lib.hid (fun (u : World) (hu : Below ((((w.alloc (.cells #[.int .i64 p.1, .int .i64 p.2] 28)).alloc (.cells #[.int .i64 q.1, .int .i64 q.2] 28)).alloc (.cells #[.int .i64 r.1, .int .i64 r.2] 28)).alloc (.cells #[.int .i64 s.1, .int .i64 s.2] 28)).heap.size ((((w.alloc (.cells #[.int .i64 p.1, .int .i64 p.2] 28)).alloc (.cells #[.int .i64 q.1, .int .i64 q.2] 28)).alloc (.cells #[.int .i64 r.1, .int .i64 r.2] 28)).alloc (.cells #[.int .i64 s.1, .int .i64 s.2] 28)) u) => specPointValidC s u)
  by_cases k3 : okQ s
  rotate_left
  · have HV := Lib.hid (show false = decide (okQ p ∧ okQ q ∧ okQ r ∧ okQ s ∧ Meet p q r s) from (decide_eq_false fun h => k3 (by obtain ⟨z0, z1, z2, z3, z4⟩ := h; exact z3)).symm)
    rw [decide_eq_false k3] at HC3
    generalize decide (okQ p ∧ okQ q ∧ okQ r ∧ okQ s ∧ Meet p q r s) = rr at *
    clear k0 k1 k2 k3
    go_enter Try.func32, Try.ntmps32
    go_wp2_with fail
    generalize ((((w.alloc (.cells #[.int .i64 p.1, .int .i64 p.2] 28)).alloc (.cells #[.int .i64 q.1, .int .i64 q.2] 28)).alloc (.cells #[.int .i64 r.1, .int .i64 r.2] 28)).alloc (.cells #[.int .i64 s.1, .int .i64 s.2] 28)) = w0 at *
    have HW0 := Lib.hid (Below.refl w0.heap.size w0)
    refine ((HC0.out _ HW0.out)).mono ?_
    rintro e w1 ⟨rfl, B⟩
    have HW1 := Lib.hid (below_call HW0.out B)
    obtain ⟨_, a0, b0⟩ := HK0.out.next HW1.out
    obtain ⟨_, a1, b1⟩ := HK1.out.next HW1.out
    obtain ⟨_, a2, b2⟩ := HK2.out.next HW1.out
    obtain ⟨_, a3, b3⟩ := HK3.out.next HW1.out
    clear B
    go_wp2_with fail
    refine ((HC1.out _ HW1.out)).mono ?_
    rintro e w2 ⟨rfl, B⟩
    have HW2 := Lib.hid (below_call HW1.out B)
    clear a0 b0
    obtain ⟨_, a0, b0⟩ := HK0.out.next HW2.out
    clear a1 b1
    obtain ⟨_, a1, b1⟩ := HK1.out.next HW2.out
    clear a2 b2
    obtain ⟨_, a2, b2⟩ := HK2.out.next HW2.out
    clear a3 b3
    obtain ⟨_, a3, b3⟩ := HK3.out.next HW2.out
    clear B
    go_wp2_with fail
    refine ((HC2.out _ HW2.out)).mono ?_
    rintro e w3 ⟨rfl, B⟩
    have HW3 := Lib.hid (below_call HW2.out B)
    clear a0 b0
    obtain ⟨_, a0, b0⟩ := HK0.out.next HW3.out
    clear a1 b1
    obtain ⟨_, a1, b1⟩ := HK1.out.next HW3.out
    clear a2 b2
    obtain ⟨_, a2, b2⟩ := HK2.out.next HW3.out
    clear a3 b3
    obtain ⟨_, a3, b3⟩ := HK3.out.next HW3.out
    clear B
    go_wp2_with fail
    refine ((HC3.out _ HW3.out)).mono ?_
    rintro e w4 ⟨rfl, B⟩
    have HW4 := Lib.hid (below_call HW3.out B)
    clear a0 b0
    obtain ⟨_, a0, b0⟩ := HK0.out.next HW4.out
    clear a1 b1
    obtain ⟨_, a1, b1⟩ := HK1.out.next HW4.out
    clear a2 b2
    obtain ⟨_, a2, b2⟩ := HK2.out.next HW4.out
    clear a3 b3
    obtain ⟨_, a3, b3⟩ := HK3.out.next HW4.out
    clear B
    go_wp2
    go_ret
    exact ⟨ret_bool HV.out, below_call HB.out HW4.out⟩
  rw [decide_eq_true k3] at HC3
  have HC4 := Lib.hid (fun (u : World) (hu : Below ((((w.alloc (.cells #[.int .i64 p.1, .int .i64 p.2] 28)).alloc (.cells #[.int .i64 q.1, .int .i64 q.2] 28)).alloc (.cells #[.int .i64 r.1, .int .i64 r.2] 28)).alloc (.cells #[.int .i64 s.1, .int .i64 s.2] 28)).heap.size ((((w.alloc (.cells #[.int .i64 p.1, .int .i64 p.2] 28)).alloc (.cells #[.int .i64 q.1, .int .i64 q.2] 28)).alloc (.cells #[.int .i64 r.1, .int .i64 r.2] 28)).alloc (.cells #[.int .i64 s.1, .int .i64 s.2] 28)) u) => l8MeetC p q r s u k0 k1 k2 k3)
  have HV := Lib.hid (show decide (Meet p q r s) = decide (okQ p ∧ okQ q ∧ okQ r ∧ okQ s ∧ Meet p q r s) from Bool.eq_iff_iff.2 (by simp only [decide_eq_true_eq]; exact ⟨fun h => ⟨k0, k1, k2, k3, h⟩, fun h => by obtain ⟨z0, z1, z2, z3, z4⟩ := h; exact z4⟩))
  generalize decide (Meet p q r s) = bb at *
  generalize decide (okQ p ∧ okQ q ∧ okQ r ∧ okQ s ∧ Meet p q r s) = rr at *
  clear k0 k1 k2 k3
  go_enter Try.func32, Try.ntmps32
  go_wp2_with fail
  generalize ((((w.alloc (.cells #[.int .i64 p.1, .int .i64 p.2] 28)).alloc (.cells #[.int .i64 q.1, .int .i64 q.2] 28)).alloc (.cells #[.int .i64 r.1, .int .i64 r.2] 28)).alloc (.cells #[.int .i64 s.1, .int .i64 s.2] 28)) = w0 at *
  have HW0 := Lib.hid (Below.refl w0.heap.size w0)
  refine ((HC0.out _ HW0.out)).mono ?_
  rintro e w1 ⟨rfl, B⟩
  have HW1 := Lib.hid (below_call HW0.out B)
  obtain ⟨_, a0, b0⟩ := HK0.out.next HW1.out
  obtain ⟨_, a1, b1⟩ := HK1.out.next HW1.out
  obtain ⟨_, a2, b2⟩ := HK2.out.next HW1.out
  obtain ⟨_, a3, b3⟩ := HK3.out.next HW1.out
  clear B
  go_wp2_with fail
  refine ((HC1.out _ HW1.out)).mono ?_
  rintro e w2 ⟨rfl, B⟩
  have HW2 := Lib.hid (below_call HW1.out B)
  clear a0 b0
  obtain ⟨_, a0, b0⟩ := HK0.out.next HW2.out
  clear a1 b1
  obtain ⟨_, a1, b1⟩ := HK1.out.next HW2.out
  clear a2 b2
  obtain ⟨_, a2, b2⟩ := HK2.out.next HW2.out
  clear a3 b3
  obtain ⟨_, a3, b3⟩ := HK3.out.next HW2.out
  clear B
  go_wp2_with fail
  refine ((HC2.out _ HW2.out)).mono ?_
  rintro e w3 ⟨rfl, B⟩
  have HW3 := Lib.hid (below_call HW2.out B)
  clear a0 b0
  obtain ⟨_, a0, b0⟩ := HK0.out.next HW3.out
  clear a1 b1
  obtain ⟨_, a1, b1⟩ := HK1.out.next HW3.out
  clear a2 b2
  obtain ⟨_, a2, b2⟩ := HK2.out.next HW3.out
  clear a3 b3
  obtain ⟨_, a3, b3⟩ := HK3.out.next HW3.out
  clear B
  go_wp2_with fail
  refine ((HC3.out _ HW3.out)).mono ?_
  rintro e w4 ⟨rfl, B⟩
  have HW4 := Lib.hid (below_call HW3.out B)
  clear a0 b0
  obtain ⟨_, a0, b0⟩ := HK0.out.next HW4.out
  clear a1 b1
  obtain ⟨_, a1, b1⟩ := HK1.out.next HW4.out
  clear a2 b2
  obtain ⟨_, a2, b2⟩ := HK2.out.next HW4.out
  clear a3 b3
  obtain ⟨_, a3, b3⟩ := HK3.out.next HW4.out
  clear B
  go_wp2_with fail
  refine ((HC4.out _ HW4.out)).mono ?_
  rintro e w5 ⟨rfl, B⟩
  have HW5 := Lib.hid (below_call HW4.out B)
  clear a0 b0
  obtain ⟨_, a0, b0⟩ := HK0.out.next HW5.out
  clear a1 b1
  obtain ⟨_, a1, b1⟩ := HK1.out.next HW5.out
  clear a2 b2
  obtain ⟨_, a2, b2⟩ := HK2.out.next HW5.out
  clear a3 b3
  obtain ⟨_, a3, b3⟩ := HK3.out.next HW5.out
  clear B
  go_wp2
  go_ret
  exact ⟨ret_bool HV.out, below_call HB.out HW5.out⟩
set_option maxHeartbeats 1000000 in
theorem specSegmentHits (a : Option Addr) (len cap : Nat) (ps : List P2) (p : P2) (q : P2) (w : World) (hp_ps : PL w a len ps) (hl_ps : len ≤ 9223372036854775807) :
    Calls Try.prog 36 #[.slice a len cap, pt p.1 p.2, pt q.1 q.2] w fun e w' => e = .returned (.bool (decide (okCvx ps ∧ okQ p ∧ okQ q ∧ Hit ps p q))) ∧ Below w.heap.size w w' := by
  have HB := Lib.hid (below_box2 w (.cells #[.int .i64 p.1, .int .i64 p.2] 28) (.cells #[.int .i64 q.1, .int .i64 q.2] 28))
  have K0 := (AtP.box w p.1 p.2 28).next (below_box _ (.cells #[.int .i64 q.1, .int .i64 q.2] 28))
  have K1 := AtP.box (w.alloc (.cells #[.int .i64 p.1, .int .i64 p.2] 28)) q.1 q.2 28
  simp only [World.size_alloc] at K1
  have HK0 := Lib.hid K0
  have HK1 := Lib.hid K1
  have HP_ps := Lib.hid (hp_ps.next HB.out)
  have HLE_ps := Lib.hid hp_ps.1
  clear K0 K1 hp_ps
  have HC0 := Lib.hid (fun (u : World) (hu : Below ((w.alloc (.cells #[.int .i64 p.1, .int .i64 p.2] 28)).alloc (.cells #[.int .i64 q.1, .int .i64 q.2] 28)).heap.size ((w.alloc (.cells #[.int .i64 p.1, .int .i64 p.2] 28)).alloc (.cells #[.int .i64 q.1, .int .i64 q.2] 28)) u) => specConvexValid a len cap ps u (HP_ps.out.next hu) hl_ps)
  by_cases k0 : okCvx ps
  rotate_left
  · have HV := Lib.hid (show false = decide (okCvx ps ∧ okQ p ∧ okQ q ∧ Hit ps p q) from (decide_eq_false fun h => k0 (by obtain ⟨z0, z1, z2, z3⟩ := h; exact z0)).symm)
    rw [decide_eq_false k0] at HC0
    generalize decide (okCvx ps ∧ okQ p ∧ okQ q ∧ Hit ps p q) = rr at *
    clear k0
    go_enter Try.func36, Try.ntmps36
    go_wp2_with fail
    generalize ((w.alloc (.cells #[.int .i64 p.1, .int .i64 p.2] 28)).alloc (.cells #[.int .i64 q.1, .int .i64 q.2] 28)) = w0 at *
    have HW0 := Lib.hid (Below.refl w0.heap.size w0)
    refine ((HC0.out _ HW0.out)).mono ?_
    rintro e w1 ⟨rfl, B⟩
    have HW1 := Lib.hid (below_call HW0.out B)
    obtain ⟨_, a0, b0⟩ := HK0.out.next HW1.out
    obtain ⟨_, a1, b1⟩ := HK1.out.next HW1.out
    clear B
    go_wp2
    go_ret
    exact ⟨ret_bool HV.out, below_call HB.out HW1.out⟩
  rw [decide_eq_true k0] at HC0
  have HC1 := Lib.hid (fun (u : World) (hu : Below ((w.alloc (.cells #[.int .i64 p.1, .int .i64 p.2] 28)).alloc (.cells #[.int .i64 q.1, .int .i64 q.2] 28)).heap.size ((w.alloc (.cells #[.int .i64 p.1, .int .i64 p.2] 28)).alloc (.cells #[.int .i64 q.1, .int .i64 q.2] 28)) u) => specPointValidC p u)
  by_cases k1 : okQ p
  rotate_left
  · have HV := Lib.hid (show false = decide (okCvx ps ∧ okQ p ∧ okQ q ∧ Hit ps p q) from (decide_eq_false fun h => k1 (by obtain ⟨z0, z1, z2, z3⟩ := h; exact z1)).symm)
    rw [decide_eq_false k1] at HC1
    generalize decide (okCvx ps ∧ okQ p ∧ okQ q ∧ Hit ps p q) = rr at *
    clear k0 k1
    go_enter Try.func36, Try.ntmps36
    go_wp2_with fail
    generalize ((w.alloc (.cells #[.int .i64 p.1, .int .i64 p.2] 28)).alloc (.cells #[.int .i64 q.1, .int .i64 q.2] 28)) = w0 at *
    have HW0 := Lib.hid (Below.refl w0.heap.size w0)
    refine ((HC0.out _ HW0.out)).mono ?_
    rintro e w1 ⟨rfl, B⟩
    have HW1 := Lib.hid (below_call HW0.out B)
    obtain ⟨_, a0, b0⟩ := HK0.out.next HW1.out
    obtain ⟨_, a1, b1⟩ := HK1.out.next HW1.out
    clear B
    go_wp2_with fail
    refine ((HC1.out _ HW1.out)).mono ?_
    rintro e w2 ⟨rfl, B⟩
    have HW2 := Lib.hid (below_call HW1.out B)
    clear a0 b0
    obtain ⟨_, a0, b0⟩ := HK0.out.next HW2.out
    clear a1 b1
    obtain ⟨_, a1, b1⟩ := HK1.out.next HW2.out
    clear B
    go_wp2
    go_ret
    exact ⟨ret_bool HV.out, below_call HB.out HW2.out⟩
  rw [decide_eq_true k1] at HC1
  have HC2 := Lib.hid (fun (u : World) (hu : Below ((w.alloc (.cells #[.int .i64 p.1, .int .i64 p.2] 28)).alloc (.cells #[.int .i64 q.1, .int .i64 q.2] 28)).heap.size ((w.alloc (.cells #[.int .i64 p.1, .int .i64 p.2] 28)).alloc (.cells #[.int .i64 q.1, .int .i64 q.2] 28)) u) => specPointValidC q u)
  by_cases k2 : okQ q
  rotate_left
  · have HV := Lib.hid (show false = decide (okCvx ps ∧ okQ p ∧ okQ q ∧ Hit ps p q) from (decide_eq_false fun h => k2 (by obtain ⟨z0, z1, z2, z3⟩ := h; exact z2)).symm)
    rw [decide_eq_false k2] at HC2
    generalize decide (okCvx ps ∧ okQ p ∧ okQ q ∧ Hit ps p q) = rr at *
    clear k0 k1 k2
    go_enter Try.func36, Try.ntmps36
    go_wp2_with fail
    generalize ((w.alloc (.cells #[.int .i64 p.1, .int .i64 p.2] 28)).alloc (.cells #[.int .i64 q.1, .int .i64 q.2] 28)) = w0 at *
    have HW0 := Lib.hid (Below.refl w0.heap.size w0)
    refine ((HC0.out _ HW0.out)).mono ?_
    rintro e w1 ⟨rfl, B⟩
    have HW1 := Lib.hid (below_call HW0.out B)
    obtain ⟨_, a0, b0⟩ := HK0.out.next HW1.out
    obtain ⟨_, a1, b1⟩ := HK1.out.next HW1.out
    clear B
    go_wp2_with fail
    refine ((HC1.out _ HW1.out)).mono ?_
    rintro e w2 ⟨rfl, B⟩
    have HW2 := Lib.hid (below_call HW1.out B)
    clear a0 b0
    obtain ⟨_, a0, b0⟩ := HK0.out.next HW2.out
    clear a1 b1
    obtain ⟨_, a1, b1⟩ := HK1.out.next HW2.out
    clear B
    go_wp2_with fail
    refine ((HC2.out _ HW2.out)).mono ?_
    rintro e w3 ⟨rfl, B⟩
    have HW3 := Lib.hid (below_call HW2.out B)
    clear a0 b0
    obtain ⟨_, a0, b0⟩ := HK0.out.next HW3.out
    clear a1 b1
    obtain ⟨_, a1, b1⟩ := HK1.out.next HW3.out
    clear B
    go_wp2
    go_ret
    exact ⟨ret_bool HV.out, below_call HB.out HW3.out⟩
  rw [decide_eq_true k2] at HC2
  have HC3 := Lib.hid (fun (u : World) (hu : Below ((w.alloc (.cells #[.int .i64 p.1, .int .i64 p.2] 28)).alloc (.cells #[.int .i64 q.1, .int .i64 q.2] 28)).heap.size ((w.alloc (.cells #[.int .i64 p.1, .int .i64 p.2] 28)).alloc (.cells #[.int .i64 q.1, .int .i64 q.2] 28)) u) => l8HitC a len cap ps p q u (HP_ps.out.next hu) (by have := HLE_ps.out; have := k0.2.1; omega) k0.2.2.1 k1 k2)
  have HV := Lib.hid (show decide (Hit ps p q) = decide (okCvx ps ∧ okQ p ∧ okQ q ∧ Hit ps p q) from Bool.eq_iff_iff.2 (by simp only [decide_eq_true_eq]; exact ⟨fun h => ⟨k0, k1, k2, h⟩, fun h => by obtain ⟨z0, z1, z2, z3⟩ := h; exact z3⟩))
  generalize decide (Hit ps p q) = bb at *
  generalize decide (okCvx ps ∧ okQ p ∧ okQ q ∧ Hit ps p q) = rr at *
  clear k0 k1 k2
  go_enter Try.func36, Try.ntmps36
  go_wp2_with fail
  generalize ((w.alloc (.cells #[.int .i64 p.1, .int .i64 p.2] 28)).alloc (.cells #[.int .i64 q.1, .int .i64 q.2] 28)) = w0 at *
  have HW0 := Lib.hid (Below.refl w0.heap.size w0)
  refine ((HC0.out _ HW0.out)).mono ?_
  rintro e w1 ⟨rfl, B⟩
  have HW1 := Lib.hid (below_call HW0.out B)
  obtain ⟨_, a0, b0⟩ := HK0.out.next HW1.out
  obtain ⟨_, a1, b1⟩ := HK1.out.next HW1.out
  clear B
  go_wp2_with fail
  refine ((HC1.out _ HW1.out)).mono ?_
  rintro e w2 ⟨rfl, B⟩
  have HW2 := Lib.hid (below_call HW1.out B)
  clear a0 b0
  obtain ⟨_, a0, b0⟩ := HK0.out.next HW2.out
  clear a1 b1
  obtain ⟨_, a1, b1⟩ := HK1.out.next HW2.out
  clear B
  go_wp2_with fail
  refine ((HC2.out _ HW2.out)).mono ?_
  rintro e w3 ⟨rfl, B⟩
  have HW3 := Lib.hid (below_call HW2.out B)
  clear a0 b0
  obtain ⟨_, a0, b0⟩ := HK0.out.next HW3.out
  clear a1 b1
  obtain ⟨_, a1, b1⟩ := HK1.out.next HW3.out
  clear B
  go_wp2_with fail
  refine ((HC3.out _ HW3.out)).mono ?_
  rintro e w4 ⟨rfl, B⟩
  have HW4 := Lib.hid (below_call HW3.out B)
  clear a0 b0
  obtain ⟨_, a0, b0⟩ := HK0.out.next HW4.out
  clear a1 b1
  obtain ⟨_, a1, b1⟩ := HK1.out.next HW4.out
  clear B
  go_wp2
  go_ret
  exact ⟨ret_bool HV.out, below_call HB.out HW4.out⟩
end Go.Proofs.Ytkmopgdnaohcdaa
