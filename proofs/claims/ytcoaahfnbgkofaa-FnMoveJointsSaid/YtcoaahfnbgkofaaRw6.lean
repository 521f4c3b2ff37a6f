/- Rows of rows of numbers: what they read as, and the laws' own helpers over them. -/
import Derived.Test.YtcoaahfnbgkofaaInts
import Derived.Test.YtcoaahfnbgkofaaArmH
import Derived.Test.YtcoaahfnbgkofaaKApp
import Derived.Test.YtcoaahfnbgkofaaPRow2
import Derived.Outline
import Derived.Deep.DeepCutAuto
namespace Go.Proofs.Ytcoaahfnbgkofaa
set_option maxRecDepth 100000
open Go.RowKit
attribute [local go_sem ↓] Go.wp_at_zero Go.wp_at_succ
/-- A slice of slices of numbers reads as vs. -/
def RowsAt (w : World) (a : Option Addr) (len : Nat) (vs : List (List Int)) : Prop :=
  len = vs.length ∧ (vs = [] ∨ ∃ b, a = some ⟨b, 0, none⟩ ∧ b < w.heap.size ∧ ∀ i, i < vs.length → ∃ s : Sl, w.cell? ⟨b, i, none⟩ = some (.slice s.a s.len s.cap) ∧ IntsAt w s.a s.len (vs.getD i []))
theorem RowsAt.next {w w' : World} {a : Option Addr} {len : Nat} {vs : List (List Int)} (h : RowsAt w a len vs) (hb : Below w.heap.size w w') : RowsAt w' a len vs :=
  ⟨h.1, h.2.imp id fun ⟨b, h1, h2, h3⟩ => ⟨b, h1, Nat.lt_of_lt_of_le h2 hb.size, fun i hi => by
    obtain ⟨s, h4, h5⟩ := h3 i hi
    exact ⟨s, (hb.cell (p := ⟨b, i, none⟩) h2).trans h4, h5.next hb⟩⟩⟩
theorem RowsAt.some {w : World} {a : Option Addr} {len : Nat} {vs : List (List Int)} (h : RowsAt w a len vs) (hl : 1 ≤ len) : ∃ b, a = Option.some ⟨b, 0, none⟩ ∧ b < w.heap.size ∧ ∀ i, i < len → ∃ s : Sl, w.cell? ⟨b, i, none⟩ = Option.some (.slice s.a s.len s.cap) ∧ IntsAt w s.a s.len (vs.getD i []) := by
  rcases h.2 with h2 | ⟨b, h1, h2, h3⟩
  · have := h.1; rw [h2] at this; simp at this; omega
  · exact ⟨b, h1, h2, fun i hi => h3 i (by rw [← h.1]; exact hi)⟩
set_option maxHeartbeats 1000000 in
theorem eqIntSS (a b : Option Addr) (len len2 cap cap2 : Nat) (vs : List (List Int)) (w : World) (h : RowsAt w a len vs) (h2 : RowsAt w b len2 vs) (hl : len ≤ 1000000) (hr : ∀ i, i < len → (vs.getD i []).length ≤ 1000000) :
    Calls Try.prog 27 #[.slice a len cap, .slice b len2 cap2] w fun e w' => e = .returned (.bool true) ∧ Below w.heap.size w w' := by
  obtain rfl : len2 = len := by rw [h.1, h2.1]
  have e0 : ((len2 : Int) != (len2 : Int)) = false := by simp
  by_cases hn : 1 ≤ len2
  · obtain ⟨b1, rfl, lt1, c1⟩ := h.some hn
    obtain ⟨b2, rfl, lt2, c2⟩ := h2.some hn
    have HC1 := Lib.hid c1
    have HC2 := Lib.hid c2
    have HR := Lib.hid hr
    clear h h2 c1 c2 hn hr
    go_enter Try.func27, Try.ntmps27
    go_wp2
    go_loopw [5] (fun i wr => ∃ j : Nat, j ≤ len2 ∧ i = .int .i64 (j : Int) ∧ Hid (Below w.heap.size w wr)) (fun i _ => len2 - (intOf i).toNat)
    case atStart => exact ⟨0, Nat.zero_le _, rfl, Lib.hid (Below.refl _ _)⟩
    case round =>
      obtain ⟨j, hj, rfl, HW⟩ := hrel
      by_cases hlt : j < len2
      · obtain ⟨⟨sa, sl, sc⟩, d1, I1⟩ := HC1.out j hlt
        obtain ⟨⟨ta, tl, tc⟩, d2, I2⟩ := HC2.out j hlt
        simp only at d1 d2 I1 I2
        have k1 := keptCell (Nat.lt_of_lt_of_le lt1 HW.out.size) ((HW.out.cell (p := ⟨b1, j, none⟩) lt1).trans d1)
        have k2 := keptCell (Nat.lt_of_lt_of_le lt2 HW.out.size) ((HW.out.cell (p := ⟨b2, j, none⟩) lt2).trans d2)
        have hls : sl ≤ 9223372036854775807 := by rw [I1.1]; have := HR.out j hlt; omega
        have HQ := Lib.hid (fun (q : Kept wr) => keptCall (eqIntS sa ta sl tl sc tc (vs.getD j []) q.u ((I1.next HW.out).next q.b) ((I2.next HW.out).next q.b) hls))
        have j1 : (0 : Int) ≤ (j : Int) := by omega
        have j2 : (j : Int) < (len2 : Int) := by omega
        clear I1 I2 d1 d2
        go_upto_region 6 with fail
        refine wp_region_kept (by kernel_rfl) (by kernel_rfl) ?_
        repeat (go_big_quiet_step ((go_at_call 29; with_reducible exact HQ.out _)))
        refine wpQuiet_nil ?_
        rintro w2 ⟨⟨_, B2⟩, rfl⟩
        have HW2 := Lib.hid (below_call HW.out B2)
        clear k1 k2 B2 HQ
        go_wp2
        go_roundw
        case rel => exact ⟨j + 1, by omega, by congr 1, HW2⟩
        case measure => simp [intOf]; omega
      · obtain rfl : j = len2 := by omega
        have j2 : ¬ ((j : Int) < (j : Int)) := by omega
        go_wp2
        go_ret
        exact ⟨rfl, HW.out⟩
  · obtain rfl : len2 = 0 := by omega
    clear h h2 hn hr
    go_enter Try.func27, Try.ntmps27
    go_wp2
    go_loopw [5] (fun i wr => i = .int .i64 0 ∧ Hid (Below w.heap.size w wr)) (fun _ _ => 0)
    case atStart => exact ⟨rfl, Lib.hid (Below.refl _ _)⟩
    case round =>
      obtain ⟨rfl, HW⟩ := hrel
      go_wp2
      go_ret
      exact ⟨rfl, HW.out⟩
set_option maxHeartbeats 1000000 in
theorem sameRows (a b : Option Addr) (len len2 cap cap2 : Nat) (vs : List (List Int)) (w : World) (h : RowsAt w a len vs) (h2 : RowsAt w b len2 vs) (hl : len ≤ 1000000) (hr : ∀ i, i < len → (vs.getD i []).length ≤ 1000000) :
    Calls Try.prog 11 #[.slice a len cap, .slice b len2 cap2] w fun e w' => e = .returned (.bool true) ∧ Below w.heap.size w w' := by
  obtain rfl : len2 = len := by rw [h.1, h2.1]
  have e0 : ((len2 : Int) != (len2 : Int)) = false := by simp
  by_cases hn : 1 ≤ len2
  · obtain ⟨b1, rfl, lt1, c1⟩ := h.some hn
    obtain ⟨b2, rfl, lt2, c2⟩ := h2.some hn
    have HC1 := Lib.hid c1
    have HC2 := Lib.hid c2
    have HR := Lib.hid hr
    clear h h2 c1 c2 hn hr
    go_enter Try.func11, Try.ntmps11
    go_wp2
    go_loopw [5] (fun i wr => ∃ j : Nat, j ≤ len2 ∧ i = .int .i64 (j : Int) ∧ Hid (Below w.heap.size w wr)) (fun i _ => len2 - (intOf i).toNat)
    case atStart => exact ⟨0, Nat.zero_le _, rfl, Lib.hid (Below.refl _ _)⟩
    case round =>
      obtain ⟨j, hj, rfl, HW⟩ := hrel
      by_cases hlt : j < len2
      · obtain ⟨⟨sa, sl, sc⟩, d1, I1⟩ := HC1.out j hlt
        obtain ⟨⟨ta, tl, tc⟩, d2, I2⟩ := HC2.out j hlt
        simp only at d1 d2 I1 I2
        have k1 := keptCell (Nat.lt_of_lt_of_le lt1 HW.out.size) ((HW.out.cell (p := ⟨b1, j, none⟩) lt1).trans d1)
        have k2 := keptCell (Nat.lt_of_lt_of_le lt2 HW.out.size) ((HW.out.cell (p := ⟨b2, j, none⟩) lt2).trans d2)
        have hls : sl ≤ 9223372036854775807 := by rw [I1.1]; have := HR.out j hlt; omega
        have HQ := Lib.hid (fun (q : Kept wr) => keptCall (sameInts sa ta sl tl sc tc (vs.getD j []) q.u ((I1.next HW.out).next q.b) ((I2.next HW.out).next q.b) hls))
        have j1 : (0 : Int) ≤ (j : Int) := by omega
        have j2 : (j : Int) < (len2 : Int) := by omega
        clear I1 I2 d1 d2
        go_upto_region 6 with fail
        refine wp_region_kept (by kernel_rfl) (by kernel_rfl) ?_
        repeat (go_big_quiet_step ((go_at_call 16; with_reducible exact HQ.out _)))
        refine wpQuiet_nil ?_
        rintro w2 ⟨⟨_, B2⟩, rfl⟩
        have HW2 := Lib.hid (below_call HW.out B2)
        clear k1 k2 B2 HQ
        go_wp2
        go_roundw
        case rel => exact ⟨j + 1, by omega, by congr 1, HW2⟩
        case measure => simp [intOf]; omega
      · obtain rfl : j = len2 := by omega
        have j2 : ¬ ((j : Int) < (j : Int)) := by omega
        go_wp2
        go_ret
        exact ⟨rfl, HW.out⟩
  · obtain rfl : len2 = 0 := by omega
    clear h h2 hn hr
    go_enter Try.func11, Try.ntmps11
    go_wp2
    go_loopw [5] (fun i wr => i = .int .i64 0 ∧ Hid (Below w.heap.size w wr)) (fun _ _ => 0)
    case atStart => exact ⟨rfl, Lib.hid (Below.refl _ _)⟩
    case round =>
      obtain ⟨rfl, HW⟩ := hrel
      go_wp2
      go_ret
      exact ⟨rfl, HW.out⟩
end Go.Proofs.Ytcoaahfnbgkofaa
