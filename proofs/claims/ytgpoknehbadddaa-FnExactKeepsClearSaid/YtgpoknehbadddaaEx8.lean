/- The program's functions on polygons: calls joined by '&&'. -/
import Derived.Test.YtgpoknehbadddaaZbSk
namespace Go.Proofs.Ytgpoknehbadddaa
set_option maxRecDepth 100000
open Go.RowKit
attribute [local go_sem ↓] Go.wp_at_zero Go.wp_at_succ
noncomputable instance (ps qs : List P2) : Decidable (CMeet ps qs) := Classical.propDecidable _
theorem validC (p : P2) (w : World) : Calls Try.prog 39 #[pt p.1 p.2] w fun e w' => e = .returned (.bool (decide (okQ p))) ∧ Below w.heap.size w w' := by
  by_cases h : okQ p
  · rw [decide_eq_true h]; exact validY p.1 p.2 w h
  · rw [decide_eq_false h]; exact validN p.1 p.2 w h
set_option maxHeartbeats 1000000 in
theorem implInsideConvex (a : Option Addr) (len cap : Nat) (ps : List P2) (p : P2) (w : World) (hp_ps : PL w a len ps) (hl_ps : len ≤ 9223372036854775807) :
    Calls Try.prog 18 #[.slice a len cap, pt p.1 p.2] w fun e w' => e = .returned (.bool (decide (okCvx ps ∧ okQ p ∧ Ins ps p))) ∧ Below w.heap.size w w' := by
  have HB := Lib.hid (below_box w (.cells #[.int .i64 p.1, .int .i64 p.2] 24))
  have K0 := AtP.box w p.1 p.2 24
  have HK0 := Lib.hid K0
  have HP_ps := Lib.hid (hp_ps.next HB.out)
  have HLE_ps := Lib.hid hp_ps.1
  clear K0 hp_ps
  have HC0 := Lib.hid (fun (u : World) (hu : Below (w.alloc (.cells #[.int .i64 p.1, .int .i64 p.2] 24)).heap.size (w.alloc (.cells #[.int .i64 p.1, .int .i64 p.2] 24)) u) => implConvexValid a len cap ps u (HP_ps.out.next hu) hl_ps)
  by_cases k0 : okCvx ps
  rotate_left
  · have HV := Lib.hid (show false = decide (okCvx ps ∧ okQ p ∧ Ins ps p) from (decide_eq_false fun h => k0 (by obtain ⟨z0, z1, z2⟩ := h; exact z0)).symm)
    rw [decide_eq_false k0] at HC0
    generalize decide (okCvx ps ∧ okQ p ∧ Ins ps p) = rr at *
    clear k0
    go_enter Try.func18, Try.ntmps18
    go_wp2_with fail
    generalize (w.alloc (.cells #[.int .i64 p.1, .int .i64 p.2] 24)) = w0 at *
    have HW0 := Lib.hid (Below.refl w0.heap.size w0)
    refine ((HC0.out _ HW0.out)).mono ?_
    rintro e w1 ⟨rfl, B⟩
    have HW1 := Lib.hid (below_call HW0.out B)
    obtain ⟨_, a0, b0⟩ := HK0.out.next HW1.out
    clear B
    go_wp2
    go_ret
    exact ⟨ret_bool HV.out, below_call HB.out HW1.out⟩
  rw [decide_eq_true k0] at HC0
  have HC1 := Lib.hid (fun (u : World) (hu : Below (w.alloc (.cells #[.int .i64 p.1, .int .i64 p.2] 24)).heap.size (w.alloc (.cells #[.int .i64 p.1, .int .i64 p.2] 24)) u) => validC p u)
  by_cases k1 : okQ p
  rotate_left
  · have HV := Lib.hid (show false = decide (okCvx ps ∧ okQ p ∧ Ins ps p) from (decide_eq_false fun h => k1 (by obtain ⟨z0, z1, z2⟩ := h; exact z1)).symm)
    rw [decide_eq_false k1] at HC1
    generalize decide (okCvx ps ∧ okQ p ∧ Ins ps p) = rr at *
    clear k0 k1
    go_enter Try.func18, Try.ntmps18
    go_wp2_with fail
    generalize (w.alloc (.cells #[.int .i64 p.1, .int .i64 p.2] 24)) = w0 at *
    have HW0 := Lib.hid (Below.refl w0.heap.size w0)
    refine ((HC0.out _ HW0.out)).mono ?_
    rintro e w1 ⟨rfl, B⟩
    have HW1 := Lib.hid (below_call HW0.out B)
    obtain ⟨_, a0, b0⟩ := HK0.out.next HW1.out
    clear B
    go_wp2_with fail
    refine ((HC1.out _ HW1.out)).mono ?_
    rintro e w2 ⟨rfl, B⟩
    have HW2 := Lib.hid (below_call HW1.out B)
    clear a0 b0
    obtain ⟨_, a0, b0⟩ := HK0.out.next HW2.out
    clear B
    go_wp2
    go_ret
    exact ⟨ret_bool HV.out, below_call HB.out HW2.out⟩
  rw [decide_eq_true k1] at HC1
  have HC2 := Lib.hid (fun (u : World) (hu : Below (w.alloc (.cells #[.int .i64 p.1, .int .i64 p.2] 24)).heap.size (w.alloc (.cells #[.int .i64 p.1, .int .i64 p.2] 24)) u) => containsC a len cap ps p u (HP_ps.out.next hu) (by have := HLE_ps.out; have := k0.2.1; omega))
  have HV := Lib.hid (show decide (conV ps p) = decide (okCvx ps ∧ okQ p ∧ Ins ps p) from Bool.eq_iff_iff.2 (by simp only [decide_eq_true_eq]; exact ⟨fun h => ⟨k0, k1, (conV_iff k0.2.2.1 k1).1 h⟩, fun h => by obtain ⟨z0, z1, z2⟩ := h; exact (conV_iff z0.2.2.1 z1).2 z2⟩))
  generalize decide (conV ps p) = bb at *
  generalize decide (okCvx ps ∧ okQ p ∧ Ins ps p) = rr at *
  clear k0 k1
  go_enter Try.func18, Try.ntmps18
  go_wp2_with fail
  generalize (w.alloc (.cells #[.int .i64 p.1, .int .i64 p.2] 24)) = w0 at *
  have HW0 := Lib.hid (Below.refl w0.heap.size w0)
  refine ((HC0.out _ HW0.out)).mono ?_
  rintro e w1 ⟨rfl, B⟩
  have HW1 := Lib.hid (below_call HW0.out B)
  obtain ⟨_, a0, b0⟩ := HK0.out.next HW1.out
  clear B
  go_wp2_with fail
  refine ((HC1.out _ HW1.out)).mono ?_
  rintro e w2 ⟨rfl, B⟩
  have HW2 := Lib.hid (below_call HW1.out B)
  clear a0 b0
  obtain ⟨_, a0, b0⟩ := HK0.out.next HW2.out
  clear B
  go_wp2_with fail
  refine ((HC2.out _ HW2.out)).mono ?_
  rintro e w3 ⟨rfl, B⟩
  have HW3 := Lib.hid (below_call HW2.out B)
  clear a0 b0
  obtain ⟨_, a0, b0⟩ := HK0.out.next HW3.out
  clear B
  go_wp2
  go_ret
  exact ⟨ret_bool HV.out, below_call HB.out HW3.out⟩
end Go.Proofs.Ytgpoknehbadddaa
