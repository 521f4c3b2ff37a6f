/- The program's functions on polygons: calls joined by '&&'. -/
import Derived.Test.YtkmopgdnaohcdaaZbSk
namespace Go.Proofs.Ytkmopgdnaohcdaa
set_option maxRecDepth 100000
open Go.RowKit
attribute [local go_sem ↓] Go.wp_at_zero Go.wp_at_succ
noncomputable instance (ps qs : List P2) : Decidable (CMeet ps qs) := Classical.propDecidable _
theorem validC (p : P2) (w : World) : Calls Try.prog 61 #[pt p.1 p.2] w fun e w' => e = .returned (.bool (decide (okQ p))) ∧ Below w.heap.size w w' := by
  by_cases h : okQ p
  · rw [decide_eq_true h]; exact validY p.1 p.2 w h
  · rw [decide_eq_false h]; exact validN p.1 p.2 w h
set_option maxHeartbeats 1000000 in
theorem implInsideConvex (a : Option Addr) (len cap : Nat) (ps : List P2) (p : P2) (w : World) (hp_ps : PL w a len ps) (hl_ps : len ≤ 9223372036854775807) :
    Calls Try.prog 25 #[.slice a len cap, pt p.1 p.2] w fun e w' => e = .returned (.bool (decide (okCvx ps ∧ okQ p ∧ Ins ps p))) ∧ Below w.heap.size w w' := by
  have HB := Lib.hid (below_box w (.cells #[.int .i64 p.1, .int .i64 p.2] 28))
  have K0 := AtP.box w p.1 p.2 28
  have HK0 := Lib.hid K0
  have HP_ps := Lib.hid (hp_ps.next HB.out)
  have HLE_ps := Lib.hid hp_ps.1
  clear K0 hp_ps
  have HC0 := Lib.hid (fun (u : World) (hu : Below (w.alloc (.cells #[.int .i64 p.1, .int .i64 p.2] 28)).heap.size (w.alloc (.cells #[.int .i64 p.1, .int .i64 p.2] 28)) u) => implConvexValid a len cap ps u (HP_ps.out.next hu) hl_ps)
  by_cases k0 : okCvx ps
  rotate_left
  · have HV := Lib.hid (show false = decide (okCvx ps ∧ okQ p ∧ Ins ps p) from (decide_eq_false fun h => k0 (by obtain ⟨z0, z1, z2⟩ := h; exact z0)).symm)
    rw [decide_eq_false k0] at HC0
    generalize decide (okCvx ps ∧ okQ p ∧ Ins ps p) = rr at *
    clear k0
    go_enter Try.func25, Try.ntmps25
    go_wp2_with fail
    generalize (w.alloc (.cells #[.int .i64 p.1, .int .i64 p.2] 28)) = w0 at *
    have HW0 := Lib.hid (Below.refl w0.heap.size w0)
    refine ((HC0.out _ HW0.out)).mono ?_
    rintro e w1 ⟨rfl, B⟩
    have HW1 := Lib.hid (below_call HW0.out B)
    obtain ⟨_, a0, b0⟩ := HK0.out.next HW1.out
    clear B
    go_wp2
    go_ret
    exact ⟨ret_bool HV.out, below_call HB.out HW1.out⟩
  rw [decide_eq_true k0] at HC0
  have HC1 := Lib.hid (fun (u : World) (hu : Below (w.alloc (.cells #[.int .i64 p.1, .int .i64 p.2] 28)).heap.size (w.alloc (.cells #[.int .i64 p.1, .int .i64 p.2] 28)) u) => validC p u)
  by_cases k1 : okQ p
  rotate_left
  · have HV := Lib.hid (show false = decide (okCvx ps ∧ okQ p ∧ Ins ps p) from (decide_eq_false fun h => k1 (by obtain ⟨z0, z1, z2⟩ := h; exact z1)).symm)
    rw [decide_eq_false k1] at HC1
    generalize decide (okCvx ps ∧ okQ p ∧ Ins ps p) = rr at *
    clear k0 k1
    go_enter Try.func25, Try.ntmps25
    go_wp2_with fail
    generalize (w.alloc (.cells #[.int .i64 p.1, .int .i64 p.2] 28)) = w0 at *
    have HW0 := Lib.hid (Below.refl w0.heap.size w0)
    refine ((HC0.out _ HW0.out)).mono ?_
    rintro e w1 ⟨rfl, B⟩
    have HW1 := Lib.hid (below_call HW0.out B)
    obtain ⟨_, a0, b0⟩ := HK0.out.next HW1.out
    clear B
    go_wp2_with fail
    refine ((HC1.out _ HW1.out)).mono ?_
    rintro e w2 ⟨rfl, B⟩
    have HW2 := Lib.hid (below_call HW1.out B)
    clear a0 b0
    obtain ⟨_, a0, b0⟩ := HK0.out.next HW2.out
    clear B
    go_wp2
    go_ret
    exact ⟨ret_bool HV.out, below_call HB.out HW2.out⟩
  rw [decide_eq_true k1] at HC1
  have HC2 := Lib.hid (fun (u : World) (hu : Below (w.alloc (.cells #[.int .i64 p.1, .int .i64 p.2] 28)).heap.size (w.alloc (.cells #[.int .i64 p.1, .int .i64 p.2] 28)) u) => containsC a len cap ps p u (HP_ps.out.next hu) (by have := HLE_ps.out; have := k0.2.1; omega))
  have HV := Lib.hid (show decide (conV ps p) = decide (okCvx ps ∧ okQ p ∧ Ins ps p) from Bool.eq_iff_iff.2 (by simp only [decide_eq_true_eq]; exact ⟨fun h => ⟨k0, k1, (conV_iff k0.2.2.1 k1).1 h⟩, fun h => by obtain ⟨z0, z1, z2⟩ := h; exact (conV_iff z0.2.2.1 z1).2 z2⟩))
  generalize decide (conV ps p) = bb at *
  generalize decide (okCvx ps ∧ okQ p ∧ Ins ps p) = rr at *
  clear k0 k1
  go_enter Try.func25, Try.ntmps25
  go_wp2_with fail
  generalize (w.alloc (.cells #[.int .i64 p.1, .int .i64 p.2] 28)) = w0 at *
  have HW0 := Lib.hid (Below.refl w0.heap.size w0)
  refine ((HC0.out _ HW0.out)).mono ?_
  rintro e w1 ⟨rfl, B⟩
  have HW1 := Lib.hid (below_call HW0.out B)
  obtain ⟨_, a0, b0⟩ := HK0.out.next HW1.out
  clear B
  go_wp2_with fail
  refine ((HC1.out _ HW1.out)).mono ?_
  rintro e w2 ⟨rfl, B⟩
  have HW2 := Lib.hid (below_call HW1.out B)
  clear a0 b0
  obtain ⟨_, a0, b0⟩ := HK0.out.next HW2.out
  clear B
  go_wp2_with fail
  refine ((HC2.out _ HW2.out)).mono ?_
  rintro e w3 ⟨rfl, B⟩
  have HW3 := Lib.hid (below_call HW2.out B)
  clear a0 b0
  obtain ⟨_, a0, b0⟩ := HK0.out.next HW3.out
  clear B
  go_wp2
  go_ret
  exact ⟨ret_bool HV.out, below_call HB.out HW3.out⟩
set_option maxHeartbeats 1000000 in
theorem implSegmentsMeet (p : P2) (q : P2) (r : P2) (s : P2) (w : World)  :
    Calls Try.prog 31 #[pt p.1 p.2, pt q.1 q.2, pt r.1 r.2, pt s.1 s.2] w fun e w' => e = .returned (.bool (decide (okQ p ∧ okQ q ∧ okQ r ∧ okQ s ∧ Meet p q r s))) ∧ Below w.heap.size w w' := by
  have HB := Lib.hid (below_box4 w (.cells #[.int .i64 p.1, .int .i64 p.2] 28) (.cells #[.int .i64 q.1, .int .i64 q.2] 28) (.cells #[.int .i64 r.1, .int .i64 r.2] 28) (.cells #[.int .i64 s.1, .int .i64 s.2] 28))
  have K0 := (((AtP.box w p.1 p.2 28).next (below_box _ (.cells #[.int .i64 q.1, .int .i64 q.2] 28))).next (below_box _ (.cells #[.int .i64 r.1, .int .i64 r.2] 28))).next (below_box _ (.cells #[.int .i64 s.1, .int .i64 s.2] 28))
  have K1 := ((AtP.box (w.alloc (.cells #[.int .i64 p.1, .int .i64 p.2] 28)) q.1 q.2 28).next (below_box _ (.cells #[.int .i64 r.1, .int .i64 r.2] 28))).next (below_box _ (.cells #[.int .i64 s.1, .int .i64 s.2] 28))
  have K2 := (AtP.box ((w.alloc (.cells #[.int .i64 p.1, .int .i64 p.2] 28)).alloc (.cells #[.int .i64 q.1, .int .i64 q.2] 28)) r.1 r.2 28).next (below_box _ (.cells #[.int .i64 s.1, .int .i64 s.2] 28))
  have K3 := AtP.box (((w.alloc (.cells #[.int .i64 p.1, .int .i64 p.2] 28)).alloc (.cells #[.int .i64 q.1, .int .i64 q.2] 28)).alloc (.cells #[.int .i64 r.1, .int .i64 r.2] 28)) s.1 s.2 28
  simp only [World.size_alloc] at K1 K2 K3
  have HK0 := Lib.hid K0
  have HK1 := Lib.hid K1
  have HK2 := Lib.hid K2
  have HK3 := Lib.hid K3
  clear K0 K1 K2 K3
  have HC0 := Lib.hid (fun (u : World) (hu : Below ((((w.alloc (.cells #[.int .i64 p.1, .int .i64 p.2] 28)).alloc (.cells #[.int .i64 q.1, .int .i64 q.2] 28)).alloc (.cells #[.int .i64 r.1, .int .i64 r.2] 28)).alloc (.cells #[.int .i64 s.1, .int .i64 s.2] 28)).heap.size ((((w.alloc (.cells #[.int .i64 p.1, .int .i64 p.2] 28)).alloc (.cells #[.int .i64 q.1, .int .i64 q.2] 28)).alloc (.cells #[.int .i64 r.1, .int .i64 r.2] 28)).alloc (.cells #[.int .i64 s.1, .int .i64 s.2] 28)) u) => validC p u)
  by_cases k0 : okQ p
  rotate_left
  · have HV := Lib.hid (show false = decide (okQ p ∧ okQ q ∧ okQ r ∧ okQ s ∧ Meet p q r s) from (decide_eq_false fun h => k0 (by obtain ⟨z0, z1, z2, z3, z4⟩ := h; exact z0)).symm)
    rw [decide_eq_false k0] at HC0
    generalize decide (okQ p ∧ okQ q ∧ okQ r ∧ okQ s ∧ Meet p q r s) = rr at *
    clear k0
    go_enter Try.func31, Try.ntmps31
    go_wp2_with fail
    generalize ((((w.alloc (.cells #[.int .i64 p.1, .int .i64 p.2] 28)).alloc (.cells #[.int .i64 q.1, .int .i64 q.2] 28)).alloc (.cells #[.int .i64 r.1, .int .i64 r.2] 28)).alloc (.cells #[.int .i64 s.1, .int .i64 s.2] 28)) = w0 at *
    have HW0 := Lib.hid (Below.refl w0.heap.size w0)
    refine ((HC0.out _ HW0.out)).mono ?_
    rintro e w1 ⟨rfl, B⟩
    have HW1 := Lib.hid (below_call HW0.out B)
    obtain ⟨_, a0, b0⟩ := HK0.out.next HW1.out
    obtain ⟨_, a1, b1⟩ := HK1.out.next HW1.out
    obtain ⟨_, a2, b2⟩ := HK2.out.next HW1.out
    obtain ⟨_, a3, b3⟩ := HK3.out.next HW1.out
    clear B
    go_wp2
    go_ret
    exact ⟨ret_bool HV.out, below_call HB.out HW1.out⟩
  rw [decide_eq_true k0] at HC0
  have HC1 := Lib.hid (fun (u : World) (hu : Below ((((w.alloc (.cells #[.int .i64 p.1, .int .i64 p.2] 28)).alloc (.cells #[.int .i64 q.1, .int .i64 q.2] 28)).alloc (.cells #[.int .i64 r.1, .int .i64 r.2] 28)).alloc (.cells #[.int .i64 s.1, .int .i64 s.2] 28)).heap.size ((((w.alloc (.cells #[.int .i64 p.1, .int .i64 p.2] 28)).alloc (.cells #[.int .i64 q.1, .int .i64 q.2] 28)).alloc (.cells #[.int .i64 r.1, .int .i64 r.2] 28)).alloc (.cells #[.int .i64 s.1, .int .i64 s.2] 28)) u) => validC q u)
  by_cases k1 : okQ q
  rotate_left
  · have HV := Lib.hid (show false = decide (okQ p ∧ okQ q ∧ okQ r ∧ okQ s ∧ Meet p q r s) from (decide_eq_false fun h => k1 (by obtain ⟨z0, z1, z2, z3, z4⟩ := h; exact z1)).symm)
    rw [decide_eq_false k1] at HC1
    generalize decide (okQ p ∧ okQ q ∧ okQ r ∧ okQ s ∧ Meet p q r s) = rr at *
    clear k0 k1
    go_enter Try.func31, Try.ntmps31
    go_wp2_with fail
    generalize ((((w.alloc (.cells #[.int .i64 p.1, .int .i64 p.2] 28)).alloc (.cells #[.int .i64 q.1, .int .i64 q.2] 28)).alloc (.cells #[.int .i64 r.1, .int .i64 r.2] 28)).alloc (.cells #[.int .i64 s.1, .int .i64 s.2] 28)) = w0 at *
    have HW0 := Lib.hid (Below.refl w0.heap.size w0)
    refine ((HC0.out _ HW0.out)).mono ?_
    rintro e w1 ⟨rfl, B⟩
    have HW1 := Lib.hid (below_call HW0.out B)
    obtain ⟨_, a0, b0⟩ := HK0.out.next HW1.out
    obtain ⟨_, a1, b1⟩ := HK1.out.next HW1.out
    obtain ⟨_, a2, b2⟩ := HK2.out.next HW1.out
    obtain ⟨_, a3, b3⟩ := HK3.out.next HW1.out
    clear B
    go_wp2_with fail
    refine ((HC1.out _ HW1.out)).mono ?_
    rintro e w2 ⟨rfl, B⟩
    have HW2 := Lib.hid (below_call HW1.out B)
    clear a0 b0
    obtain ⟨_, a0, b0⟩ := HK0.out.next HW2.out
    clear a1 b1
    obtain ⟨_, a1, b1⟩ := HK1.out.next HW2.out
    clear a2 b2
    obtain ⟨_, a2, b2⟩ := HK2.out.next HW2.out
    clear a3 b3
    obtain ⟨_, a3, b3⟩ := HK3.out.next HW2.out
    clear B
    go_wp2
    go_ret
    exact ⟨ret_bool HV.out, below_call HB.out HW2.out⟩
  rw [decide_eq_true k1] at HC1
  have HC2 := Lib.hid (fun (u : World) (hu : Below ((((w.alloc (.cells #[.int .i64 p.1, .int .i64 p.2] 28)).alloc (.cells #[.int .i64 q.1, .int .i64 q.2] 28)).alloc (.cells #[.int .i64 r.1, .int .i64 r.2] 28)).alloc (.cells #[.int .i64 s.1, .int .i64 s.2] 28)).heap.size ((((w.alloc (.cells #[.int .i64 p.1, .int .i64 p.2] 28)).alloc (.cells #[.int .i64 q.1, .int .i64 q.2] 28)).alloc (.cells #[.int .i64 r.1, .int .i64 r.2] 28)).alloc (.cells #[.int .i64 s.1, .int .i64 s.2] 28)) u) => validC r u)
  by_cases k2 : okQ r
  rotate_left
  · have HV := Lib.hid (show false = decide (okQ p ∧ okQ q ∧ okQ r ∧ okQ s ∧ Meet p q r s) from (decide_eq_false fun h => k2 (by obtain ⟨z0, z1, z2, z3, z4⟩ := h; exact z2)).symm)
    rw [decide_eq_false k2] at HC2
    generalize decide (okQ p ∧ okQ q ∧ okQ r ∧ okQ s ∧ Meet p q r s) = rr at *
    clear k0 k1 k2
    go_enter Try.func31, Try.ntmps31
    go_wp2_with fail
    generalize ((((w.alloc (.cells #[.int .i64 p.1, .int .i64 p.2] 28)).alloc (.cells #[.int .i64 q.1, .int .i64 q.2] 28)).alloc (.cells #[.int .i64 r.1, .int .i64 r.2] 28)).alloc (.cells #[.int .i64 s.1, .int .i64 s.2] 28)) = w0 at *
    have HW0 := Lib.hid (Below.refl w0.heap.size w0)
    refine ((HC0.out _ HW0.out)).mono ?_
    rintro e w1 ⟨rfl, B⟩
    have HW1 := Lib.hid (below_call HW0.out B)
    obtain ⟨_, a0, b0⟩ := HK0.out.next HW1.out
    obtain ⟨_, a1, b1⟩ := HK1.out.next HW1.out
    obtain ⟨_, a2, b2⟩ := HK2.out.next HW1.out
    obtain ⟨_, a3, b3⟩ := HK3.out.next HW1.out
    clear B
    go_wp2_with fail
    refine ((HC1.out _ HW1.out)).mono ?_
    rintro e w2 ⟨rfl, B⟩
    have HW2 := Lib.hid (below_call HW1.out B)
    clear a0 b0
    obtain ⟨_, a0, b0⟩ := HK0.out.next HW2.out
    clear a1 b1
    obtain ⟨_, a1, b1⟩ := HK1.out.next HW2.out
    clear a2 b2
    obtain ⟨_, a2, b2⟩ := HK2.out.next HW2.out
    clear a3 b3
    obtain ⟨_, a3, b3⟩ := HK3.out.next HW2.out
    clear B
    go_wp2_with fail
    refine ((HC2.out _ HW2.out)).mono ?_
    rintro e w3 ⟨rfl, B⟩
    have HW3 := Lib.hid (below_call HW2.out B)
    clear a0 b0
    obtain ⟨_, a0, b0⟩ := HK0.out.next HW3.out
    clear a1 b1
    obtain ⟨_, a1, b1⟩ := HK1.out.next HW3.out
    clear a2 b2
    obtain ⟨_, a2, b2⟩ := HK2.out.next HW3.out
    clear a3 b3
    obtain ⟨_, a3, b3⟩ := HK3.out.next HW3.out
    clear B
    go_wp2
    go_ret
    exact ⟨ret_bool HV.out, below_call HB.out HW3.out⟩
  rw [decide_eq_true k2] at HC2
  have HC3 := Lib.hid (fun (u : World) (hu : Below ((((w.alloc (.cells #[.int .i64 p.1, .int .i64 p.2] 28)).alloc (.cells #[.int .i64 q.1, .int .i64 q.2] 28)).alloc (.cells #[.int .i64 r.1, .int .i64 r.2] 28)).alloc (.cells #[.int .i64 s.1, .int .i64 s.2] 28)).heap.size ((((w.alloc (.cells #[.int .i64 p.1, .int .i64 p.2] 28)).alloc (.cells #[.int .i64 q.1, .int .i64 q.2] 28)).alloc (.cells #[.int .i64 r.1, .int .i64 r.2] 28)).alloc (.cells #[.int .i64 s.1, .int .i64 s.2] 28)) u) => validC s u)
  by_cases k3 : okQ s
  rotate_left
  · have HV := Lib.hid (show false = decide (okQ p ∧ okQ q ∧ okQ r ∧ okQ s ∧ Meet p q r s) from (decide_eq_false fun h => k3 (by obtain ⟨z0, z1, z2, z3, z4⟩ := h; exact z3)).symm)
    rw [decide_eq_false k3] at HC3
    generalize decide (okQ p ∧ okQ q ∧ okQ r ∧ okQ s ∧ Meet p q r s) = rr at *
    clear k0 k1 k2 k3
    go_enter Try.func31, Try.ntmps31
    go_wp2_with fail
    generalize ((((w.alloc (.cells #[.int .i64 p.1, .int .i64 p.2] 28)).alloc (.cells #[.int .i64 q.1, .int .i64 q.2] 28)).alloc (.cells #[.int .i64 r.1, .int .i64 r.2] 28)).alloc (.cells #[.int .i64 s.1, .int .i64 s.2] 28)) = w0 at *
    have HW0 := Lib.hid (Below.refl w0.heap.size w0)
    refine ((HC0.out _ HW0.out)).mono ?_
    rintro e w1 ⟨rfl, B⟩
    have HW1 := Lib.hid (below_call HW0.out B)
    obtain ⟨_, a0, b0⟩ := HK0.out.next HW1.out
    obtain ⟨_, a1, b1⟩ := HK1.out.next HW1.out
    obtain ⟨_, a2, b2⟩ := HK2.out.next HW1.out
    obtain ⟨_, a3, b3⟩ := HK3.out.next HW1.out
    clear B
    go_wp2_with fail
    refine ((HC1.out _ HW1.out)).mono ?_
    rintro e w2 ⟨rfl, B⟩
    have HW2 := Lib.hid (below_call HW1.out B)
    clear a0 b0
    obtain ⟨_, a0, b0⟩ := HK0.out.next HW2.out
    clear a1 b1
    obtain ⟨_, a1, b1⟩ := HK1.out.next HW2.out
    clear a2 b2
    obtain ⟨_, a2, b2⟩ := HK2.out.next HW2.out
    clear a3 b3
    obtain ⟨_, a3, b3⟩ := HK3.out.next HW2.out
    clear B
    go_wp2_with fail
    refine ((HC2.out _ HW2.out)).mono ?_
    rintro e w3 ⟨rfl, B⟩
    have HW3 := Lib.hid (below_call HW2.out B)
    clear a0 b0
    obtain ⟨_, a0, b0⟩ := HK0.out.next HW3.out
    clear a1 b1
    obtain ⟨_, a1, b1⟩ := HK1.out.next HW3.out
    clear a2 b2
    obtain ⟨_, a2, b2⟩ := HK2.out.next HW3.out
    clear a3 b3
    obtain ⟨_, a3, b3⟩ := HK3.out.next HW3.out
    clear B
    go_wp2_with fail
    refine ((HC3.out _ HW3.out)).mono ?_
    rintro e w4 ⟨rfl, B⟩
    have HW4 := Lib.hid (below_call HW3.out B)
    clear a0 b0
    obtain ⟨_, a0, b0⟩ := HK0.out.next HW4.out
    clear a1 b1
    obtain ⟨_, a1, b1⟩ := HK1.out.next HW4.out
    clear a2 b2
    obtain ⟨_, a2, b2⟩ := HK2.out.next HW4.out
    clear a3 b3
    obtain ⟨_, a3, b3⟩ := HK3.out.next HW4.out
    clear B
    go_wp2
    go_ret
    exact ⟨ret_bool HV.out, below_call HB.out HW4.out⟩
  rw [decide_eq_true k3] at HC3
  have HC4 := Lib.hid (fun (u : World) (hu : Below ((((w.alloc (.cells #[.int .i64 p.1, .int .i64 p.2] 28)).alloc (.cells #[.int .i64 q.1, .int .i64 q.2] 28)).alloc (.cells #[.int .i64 r.1, .int .i64 r.2] 28)).alloc (.cells #[.int .i64 s.1, .int .i64 s.2] 28)).heap.size ((((w.alloc (.cells #[.int .i64 p.1, .int .i64 p.2] 28)).alloc (.cells #[.int .i64 q.1, .int .i64 q.2] 28)).alloc (.cells #[.int .i64 r.1, .int .i64 r.2] 28)).alloc (.cells #[.int .i64 s.1, .int .i64 s.2] 28)) u) => segC p q r s u)
  have HV := Lib.hid (show decide (smV p q r s) = decide (okQ p ∧ okQ q ∧ okQ r ∧ okQ s ∧ Meet p q r s) from Bool.eq_iff_iff.2 (by simp only [decide_eq_true_eq]; exact ⟨fun h => ⟨k0, k1, k2, k3, (smV_iff k0 k1 k2 k3).1 h⟩, fun h => by obtain ⟨z0, z1, z2, z3, z4⟩ := h; exact (smV_iff z0 z1 z2 z3).2 z4⟩))
  generalize decide (smV p q r s) = bb at *
  generalize decide (okQ p ∧ okQ q ∧ okQ r ∧ okQ s ∧ Meet p q r s) = rr at *
  clear k0 k1 k2 k3
  go_enter Try.func31, Try.ntmps31
  go_wp2_with fail
  generalize ((((w.alloc (.cells #[.int .i64 p.1, .int .i64 p.2] 28)).alloc (.cells #[.int .i64 q.1, .int .i64 q.2] 28)).alloc (.cells #[.int .i64 r.1, .int .i64 r.2] 28)).alloc (.cells #[.int .i64 s.1, .int .i64 s.2] 28)) = w0 at *
  have HW0 := Lib.hid (Below.refl w0.heap.size w0)
  refine ((HC0.out _ HW0.out)).mono ?_
  rintro e w1 ⟨rfl, B⟩
  have HW1 := Lib.hid (below_call HW0.out B)
  obtain ⟨_, a0, b0⟩ := HK0.out.next HW1.out
  obtain ⟨_, a1, b1⟩ := HK1.out.next HW1.out
  obtain ⟨_, a2, b2⟩ := HK2.out.next HW1.out
  obtain ⟨_, a3, b3⟩ := HK3.out.next HW1.out
  clear B
  go_wp2_with fail
  refine ((HC1.out _ HW1.out)).mono ?_
  rintro e w2 ⟨rfl, B⟩
  have HW2 := Lib.hid (below_call HW1.out B)
  clear a0 b0
  obtain ⟨_, a0, b0⟩ := HK0.out.next HW2.out
  clear a1 b1
  obtain ⟨_, a1, b1⟩ := HK1.out.next HW2.out
  clear a2 b2
  obtain ⟨_, a2, b2⟩ := HK2.out.next HW2.out
  clear a3 b3
  obtain ⟨_, a3, b3⟩ := HK3.out.next HW2.out
  clear B
  go_wp2_with fail
  refine ((HC2.out _ HW2.out)).mono ?_
  rintro e w3 ⟨rfl, B⟩
  have HW3 := Lib.hid (below_call HW2.out B)
  clear a0 b0
  obtain ⟨_, a0, b0⟩ := HK0.out.next HW3.out
  clear a1 b1
  obtain ⟨_, a1, b1⟩ := HK1.out.next HW3.out
  clear a2 b2
  obtain ⟨_, a2, b2⟩ := HK2.out.next HW3.out
  clear a3 b3
  obtain ⟨_, a3, b3⟩ := HK3.out.next HW3.out
  clear B
  go_wp2_with fail
  refine ((HC3.out _ HW3.out)).mono ?_
  rintro e w4 ⟨rfl, B⟩
  have HW4 := Lib.hid (below_call HW3.out B)
  clear a0 b0
  obtain ⟨_, a0, b0⟩ := HK0.out.next HW4.out
  clear a1 b1
  obtain ⟨_, a1, b1⟩ := HK1.out.next HW4.out
  clear a2 b2
  obtain ⟨_, a2, b2⟩ := HK2.out.next HW4.out
  clear a3 b3
  obtain ⟨_, a3, b3⟩ := HK3.out.next HW4.out
  clear B
  go_wp2_with fail
  refine ((HC4.out _ HW4.out)).mono ?_
  rintro e w5 ⟨rfl, B⟩
  have HW5 := Lib.hid (below_call HW4.out B)
  clear a0 b0
  obtain ⟨_, a0, b0⟩ := HK0.out.next HW5.out
  clear a1 b1
  obtain ⟨_, a1, b1⟩ := HK1.out.next HW5.out
  clear a2 b2
  obtain ⟨_, a2, b2⟩ := HK2.out.next HW5.out
  clear a3 b3
  obtain ⟨_, a3, b3⟩ := HK3.out.next HW5.out
  clear B
  go_wp2
  go_ret
  exact ⟨ret_bool HV.out, below_call HB.out HW5.out⟩
set_option maxHeartbeats 1000000 in
theorem implSegmentHits (a : Option Addr) (len cap : Nat) (ps : List P2) (p : P2) (q : P2) (w : World) (hp_ps : PL w a len ps) (hl_ps : len ≤ 9223372036854775807) :
    Calls Try.prog 35 #[.slice a len cap, pt p.1 p.2, pt q.1 q.2] w fun e w' => e = .returned (.bool (decide (okCvx ps ∧ okQ p ∧ okQ q ∧ Hit ps p q))) ∧ Below w.heap.size w w' := by
  have HB := Lib.hid (below_box2 w (.cells #[.int .i64 p.1, .int .i64 p.2] 28) (.cells #[.int .i64 q.1, .int .i64 q.2] 28))
  have K0 := (AtP.box w p.1 p.2 28).next (below_box _ (.cells #[.int .i64 q.1, .int .i64 q.2] 28))
  have K1 := AtP.box (w.alloc (.cells #[.int .i64 p.1, .int .i64 p.2] 28)) q.1 q.2 28
  simp only [World.size_alloc] at K1
  have HK0 := Lib.hid K0
  have HK1 := Lib.hid K1
  have HP_ps := Lib.hid (hp_ps.next HB.out)
  have HLE_ps := Lib.hid hp_ps.1
  clear K0 K1 hp_ps
  have HC0 := Lib.hid (fun (u : World) (hu : Below ((w.alloc (.cells #[.int .i64 p.1, .int .i64 p.2] 28)).alloc (.cells #[.int .i64 q.1, .int .i64 q.2] 28)).heap.size ((w.alloc (.cells #[.int .i64 p.1, .int .i64 p.2] 28)).alloc (.cells #[.int .i64 q.1, .int .i64 q.2] 28)) u) => implConvexValid a len cap ps u (HP_ps.out.next hu) hl_ps)
  by_cases k0 : okCvx ps
  rotate_left
  · have HV := Lib.hid (show false = decide (okCvx ps ∧ okQ p ∧ okQ q ∧ Hit ps p q) from (decide_eq_false fun h => k0 (by obtain ⟨z0, z1, z2, z3⟩ := h; exact z0)).symm)
    rw [decide_eq_false k0] at HC0
    generalize decide (okCvx ps ∧ okQ p ∧ okQ q ∧ Hit ps p q) = rr at *
    clear k0
    go_enter Try.func35, Try.ntmps35
    go_wp2_with fail
    generalize ((w.alloc (.cells #[.int .i64 p.1, .int .i64 p.2] 28)).alloc (.cells #[.int .i64 q.1, .int .i64 q.2] 28)) = w0 at *
    have HW0 := Lib.hid (Below.refl w0.heap.size w0)
    refine ((HC0.out _ HW0.out)).mono ?_
    rintro e w1 ⟨rfl, B⟩
    have HW1 := Lib.hid (below_call HW0.out B)
    obtain ⟨_, a0, b0⟩ := HK0.out.next HW1.out
    obtain ⟨_, a1, b1⟩ := HK1.out.next HW1.out
    clear B
    go_wp2
    go_ret
    exact ⟨ret_bool HV.out, below_call HB.out HW1.out⟩
  rw [decide_eq_true k0] at HC0
  have HC1 := Lib.hid (fun (u : World) (hu : Below ((w.alloc (.cells #[.int .i64 p.1, .int .i64 p.2] 28)).alloc (.cells #[.int .i64 q.1, .int .i64 q.2] 28)).heap.size ((w.alloc (.cells #[.int .i64 p.1, .int .i64 p.2] 28)).alloc (.cells #[.int .i64 q.1, .int .i64 q.2] 28)) u) => validC p u)
  by_cases k1 : okQ p
  rotate_left
  · have HV := Lib.hid (show false = decide (okCvx ps ∧ okQ p ∧ okQ q ∧ Hit ps p q) from (decide_eq_false fun h => k1 (by obtain ⟨z0, z1, z2, z3⟩ := h; exact z1)).symm)
    rw [decide_eq_false k1] at HC1
    generalize decide (okCvx ps ∧ okQ p ∧ okQ q ∧ Hit ps p q) = rr at *
    clear k0 k1
    go_enter Try.func35, Try.ntmps35
    go_wp2_with fail
    generalize ((w.alloc (.cells #[.int .i64 p.1, .int .i64 p.2] 28)).alloc (.cells #[.int .i64 q.1, .int .i64 q.2] 28)) = w0 at *
    have HW0 := Lib.hid (Below.refl w0.heap.size w0)
    refine ((HC0.out _ HW0.out)).mono ?_
    rintro e w1 ⟨rfl, B⟩
    have HW1 := Lib.hid (below_call HW0.out B)
    obtain ⟨_, a0, b0⟩ := HK0.out.next HW1.out
    obtain ⟨_, a1, b1⟩ := HK1.out.next HW1.out
    clear B
    go_wp2_with fail
    refine ((HC1.out _ HW1.out)).mono ?_
    rintro e w2 ⟨rfl, B⟩
    have HW2 := Lib.hid (below_call HW1.out B)
    clear a0 b0
    obtain ⟨_, a0, b0⟩ := HK0.out.next HW2.out
    clear a1 b1
    obtain ⟨_, a1, b1⟩ := HK1.out.next HW2.out
    clear B
    go_wp2
    go_ret
    exact ⟨ret_bool HV.out, below_call HB.out HW2.out⟩
  rw [decide_eq_true k1] at HC1
  have HC2 := Lib.hid (fun (u : World) (hu : Below ((w.alloc (.cells #[.int .i64 p.1, .int .i64 p.2] 28)).alloc (.cells #[.int .i64 q.1, .int .i64 q.2] 28)).heap.size ((w.alloc (.cells #[.int .i64 p.1, .int .i64 p.2] 28)).alloc (.cells #[.int .i64 q.1, .int .i64 q.2] 28)) u) => validC q u)
  by_cases k2 : okQ q
  rotate_left
  · have HV := Lib.hid (show false = decide (okCvx ps ∧ okQ p ∧ okQ q ∧ Hit ps p q) from (decide_eq_false fun h => k2 (by obtain ⟨z0, z1, z2, z3⟩ := h; exact z2)).symm)
    rw [decide_eq_false k2] at HC2
    generalize decide (okCvx ps ∧ okQ p ∧ okQ q ∧ Hit ps p q) = rr at *
    clear k0 k1 k2
    go_enter Try.func35, Try.ntmps35
    go_wp2_with fail
    generalize ((w.alloc (.cells #[.int .i64 p.1, .int .i64 p.2] 28)).alloc (.cells #[.int .i64 q.1, .int .i64 q.2] 28)) = w0 at *
    have HW0 := Lib.hid (Below.refl w0.heap.size w0)
    refine ((HC0.out _ HW0.out)).mono ?_
    rintro e w1 ⟨rfl, B⟩
    have HW1 := Lib.hid (below_call HW0.out B)
    obtain ⟨_, a0, b0⟩ := HK0.out.next HW1.out
    obtain ⟨_, a1, b1⟩ := HK1.out.next HW1.out
    clear B
    go_wp2_with fail
    refine ((HC1.out _ HW1.out)).mono ?_
    rintro e w2 ⟨rfl, B⟩
    have HW2 := Lib.hid (below_call HW1.out B)
    clear a0 b0
    obtain ⟨_, a0, b0⟩ := HK0.out.next HW2.out
    clear a1 b1
    obtain ⟨_, a1, b1⟩ := HK1.out.next HW2.out
    clear B
    go_wp2_with fail
    refine ((HC2.out _ HW2.out)).mono ?_
    rintro e w3 ⟨rfl, B⟩
    have HW3 := Lib.hid (below_call HW2.out B)
    clear a0 b0
    obtain ⟨_, a0, b0⟩ := HK0.out.next HW3.out
    clear a1 b1
    obtain ⟨_, a1, b1⟩ := HK1.out.next HW3.out
    clear B
    go_wp2
    go_ret
    exact ⟨ret_bool HV.out, below_call HB.out HW3.out⟩
  rw [decide_eq_true k2] at HC2
  have HC3 := Lib.hid (fun (u : World) (hu : Below ((w.alloc (.cells #[.int .i64 p.1, .int .i64 p.2] 28)).alloc (.cells #[.int .i64 q.1, .int .i64 q.2] 28)).heap.size ((w.alloc (.cells #[.int .i64 p.1, .int .i64 p.2] 28)).alloc (.cells #[.int .i64 q.1, .int .i64 q.2] 28)) u) => hitsC a len cap ps p q u (HP_ps.out.next hu) (by have := HLE_ps.out; have := k0.2.1; omega))
  have HV := Lib.hid (show decide (hitV ps p q) = decide (okCvx ps ∧ okQ p ∧ okQ q ∧ Hit ps p q) from Bool.eq_iff_iff.2 (by simp only [decide_eq_true_eq]; exact ⟨fun h => ⟨k0, k1, k2, (hitV_iff k0 k1 k2).1 h⟩, fun h => by obtain ⟨z0, z1, z2, z3⟩ := h; exact (hitV_iff z0 z1 z2).2 z3⟩))
  generalize decide (hitV ps p q) = bb at *
  generalize decide (okCvx ps ∧ okQ p ∧ okQ q ∧ Hit ps p q) = rr at *
  clear k0 k1 k2
  go_enter Try.func35, Try.ntmps35
  go_wp2_with fail
  generalize ((w.alloc (.cells #[.int .i64 p.1, .int .i64 p.2] 28)).alloc (.cells #[.int .i64 q.1, .int .i64 q.2] 28)) = w0 at *
  have HW0 := Lib.hid (Below.refl w0.heap.size w0)
  refine ((HC0.out _ HW0.out)).mono ?_
  rintro e w1 ⟨rfl, B⟩
  have HW1 := Lib.hid (below_call HW0.out B)
  obtain ⟨_, a0, b0⟩ := HK0.out.next HW1.out
  obtain ⟨_, a1, b1⟩ := HK1.out.next HW1.out
  clear B
  go_wp2_with fail
  refine ((HC1.out _ HW1.out)).mono ?_
  rintro e w2 ⟨rfl, B⟩
  have HW2 := Lib.hid (below_call HW1.out B)
  clear a0 b0
  obtain ⟨_, a0, b0⟩ := HK0.out.next HW2.out
  clear a1 b1
  obtain ⟨_, a1, b1⟩ := HK1.out.next HW2.out
  clear B
  go_wp2_with fail
  refine ((HC2.out _ HW2.out)).mono ?_
  rintro e w3 ⟨rfl, B⟩
  have HW3 := Lib.hid (below_call HW2.out B)
  clear a0 b0
  obtain ⟨_, a0, b0⟩ := HK0.out.next HW3.out
  clear a1 b1
  obtain ⟨_, a1, b1⟩ := HK1.out.next HW3.out
  clear B
  go_wp2_with fail
  refine ((HC3.out _ HW3.out)).mono ?_
  rintro e w4 ⟨rfl, B⟩
  have HW4 := Lib.hid (below_call HW3.out B)
  clear a0 b0
  obtain ⟨_, a0, b0⟩ := HK0.out.next HW4.out
  clear a1 b1
  obtain ⟨_, a1, b1⟩ := HK1.out.next HW4.out
  clear B
  go_wp2
  go_ret
  exact ⟨ret_bool HV.out, below_call HB.out HW4.out⟩
set_option maxHeartbeats 1000000 in
theorem implConvexMeet (a : Option Addr) (len cap : Nat) (ps : List P2) (a2 : Option Addr) (len2 cap2 : Nat) (qs : List P2) (w : World) (hp_ps : PL w a len ps) (hl_ps : len ≤ 9223372036854775807) (hp_qs : PL w a2 len2 qs) (hl_qs : len2 ≤ 9223372036854775807) :
    Calls Try.prog 38 #[.slice a len cap, .slice a2 len2 cap2] w fun e w' => e = .returned (.bool (decide (okCvx ps ∧ okCvx qs ∧ CMeet ps qs))) ∧ Below w.heap.size w w' := by
  have HB := Lib.hid (Below.refl w.heap.size w)
  have HP_ps := Lib.hid (hp_ps.next HB.out)
  have HLE_ps := Lib.hid hp_ps.1
  have HP_qs := Lib.hid (hp_qs.next HB.out)
  have HLE_qs := Lib.hid hp_qs.1
  clear hp_ps hp_qs
  have HC0 := Lib.hid (fun (u : World) (hu : Below w.heap.size w u) => implConvexValid a len cap ps u (HP_ps.out.next hu) hl_ps)
  by_cases k0 : okCvx ps
  rotate_left
  · have HV := Lib.hid (show false = decide (okCvx ps ∧ okCvx qs ∧ CMeet ps qs) from (decide_eq_false fun h => k0 (by obtain ⟨z0, z1, z2⟩ := h; exact z0)).symm)
    rw [decide_eq_false k0] at HC0
    generalize decide (okCvx ps ∧ okCvx qs ∧ CMeet ps qs) = rr at *
    clear k0
    go_enter Try.func38, Try.ntmps38
    go_wp2_with fail
    have HW0 := Lib.hid (Below.refl w.heap.size w)
    refine ((HC0.out _ HW0.out)).mono ?_
    rintro e w1 ⟨rfl, B⟩
    have HW1 := Lib.hid (below_call HW0.out B)
    clear B
    go_wp2
    go_ret
    exact ⟨ret_bool HV.out, below_call HB.out HW1.out⟩
  rw [decide_eq_true k0] at HC0
  have HC1 := Lib.hid (fun (u : World) (hu : Below w.heap.size w u) => implConvexValid a2 len2 cap2 qs u (HP_qs.out.next hu) hl_qs)
  by_cases k1 : okCvx qs
  rotate_left
  · have HV := Lib.hid (show false = decide (okCvx ps ∧ okCvx qs ∧ CMeet ps qs) from (decide_eq_false fun h => k1 (by obtain ⟨z0, z1, z2⟩ := h; exact z1)).symm)
    rw [decide_eq_false k1] at HC1
    generalize decide (okCvx ps ∧ okCvx qs ∧ CMeet ps qs) = rr at *
    clear k0 k1
    go_enter Try.func38, Try.ntmps38
    go_wp2_with fail
    have HW0 := Lib.hid (Below.refl w.heap.size w)
    refine ((HC0.out _ HW0.out)).mono ?_
    rintro e w1 ⟨rfl, B⟩
    have HW1 := Lib.hid (below_call HW0.out B)
    clear B
    go_wp2_with fail
    refine ((HC1.out _ HW1.out)).mono ?_
    rintro e w2 ⟨rfl, B⟩
    have HW2 := Lib.hid (below_call HW1.out B)
    clear B
    go_wp2
    go_ret
    exact ⟨ret_bool HV.out, below_call HB.out HW2.out⟩
  rw [decide_eq_true k1] at HC1
  have HC2 := Lib.hid (fun (u : World) (hu : Below w.heap.size w u) => meetsC a a2 len cap len2 cap2 ps qs u (HP_ps.out.next hu) (HP_qs.out.next hu) (by have := HLE_ps.out; have := k0.2.1; omega) (by have := HLE_qs.out; have := k1.2.1; omega) (by have := HLE_qs.out; have := k1.1; omega))
  have HV := Lib.hid (show decide (metV ps qs) = decide (okCvx ps ∧ okCvx qs ∧ CMeet ps qs) from Bool.eq_iff_iff.2 (by simp only [decide_eq_true_eq]; exact ⟨fun h => ⟨k0, k1, (metV_iff k0 k1).1 h⟩, fun h => by obtain ⟨z0, z1, z2⟩ := h; exact (metV_iff z0 z1).2 z2⟩))
  generalize decide (metV ps qs) = bb at *
  generalize decide (okCvx ps ∧ okCvx qs ∧ CMeet ps qs) = rr at *
  clear k0 k1
  go_enter Try.func38, Try.ntmps38
  go_wp2_with fail
  have HW0 := Lib.hid (Below.refl w.heap.size w)
  refine ((HC0.out _ HW0.out)).mono ?_
  rintro e w1 ⟨rfl, B⟩
  have HW1 := Lib.hid (below_call HW0.out B)
  clear B
  go_wp2_with fail
  refine ((HC1.out _ HW1.out)).mono ?_
  rintro e w2 ⟨rfl, B⟩
  have HW2 := Lib.hid (below_call HW1.out B)
  clear B
  go_wp2_with fail
  refine ((HC2.out _ HW2.out)).mono ?_
  rintro e w3 ⟨rfl, B⟩
  have HW3 := Lib.hid (below_call HW2.out B)
  clear B
  go_wp2
  go_ret
  exact ⟨ret_bool HV.out, below_call HB.out HW3.out⟩
theorem implDoubleArea (a : Option Addr) (len cap : Nat) (ps : List P2) (w : World) (hp : PL w a len ps) (hl : len ≤ 9223372036854775807) :
    Calls Try.prog 29 #[.slice a len cap] w fun e w' => e = .returned (.int .i64 (if okCvx ps then loopSum ps (0, 0) else 0)) ∧ Below w.heap.size w w' := by
  have HP := Lib.hid hp
  have HC := Lib.hid (implConvexValid a len cap ps w hp hl)
  by_cases k : okCvx ps
  · have HV := Lib.hid (show loopSum ps (0, 0) = (if okCvx ps then loopSum ps (0, 0) else 0) from (if_pos k).symm)
    have HA := Lib.hid (fun (u : World) (hu : Below w.heap.size w u) => areaC a len cap ps u (HP.out.next hu) (by have := hp.1; have := k.2.1; omega) k.2.2.1 (by have := hp.1; have := k.1; omega))
    rw [decide_eq_true k] at HC
    generalize (if okCvx ps then loopSum ps (0, 0) else 0) = rr at *
    generalize loopSum ps (0, 0) = ss at *
    clear k hp
    go_enter Try.func29, Try.ntmps29
    go_wp2_with fail
    refine HC.out.mono ?_
    rintro e w1 ⟨rfl, B⟩
    have HB1 := Lib.hid B
    clear B
    go_wp2_with fail
    refine (HA.out _ HB1.out).mono ?_
    rintro e w2 ⟨rfl, B⟩
    have HB2 := Lib.hid (below_call HB1.out B)
    clear B
    go_wp2
    go_ret
    exact ⟨ret_int HV.out, HB2.out⟩
  · have HV := Lib.hid (show 0 = (if okCvx ps then loopSum ps (0, 0) else 0) from (if_neg k).symm)
    rw [decide_eq_false k] at HC
    generalize (if okCvx ps then loopSum ps (0, 0) else 0) = rr at *
    clear k hp
    go_enter Try.func29, Try.ntmps29
    go_wp2_with fail
    refine HC.out.mono ?_
    rintro e w1 ⟨rfl, B⟩
    have HB1 := Lib.hid B
    clear B
    go_wp2
    go_ret
    exact ⟨ret_int HV.out, HB1.out⟩
end Go.Proofs.Ytkmopgdnaohcdaa
