/- The walks of the exact laws on contact: they return true at every argument. -/
import Derived.Test.YtdjihdnnjkbjbaaCi15
namespace Go.Proofs.Ytdjihdnnjkbjbaa
set_option maxRecDepth 100000
open Go.RowKit
attribute [local go_sem ↓] Go.wp_at_zero Go.wp_at_succ
theorem trc_len15 (p q k f s n : Int) : (trcV p q k f s n).length ≤ 400 := by
  unfold trcV
  split
  · next h => rw [trcL_len]; have := h.2.2; omega
  · simp
set_option maxHeartbeats 2000000 in
theorem walkFnExactContactForce (p q k : Int) (w : World) :
    Calls Try.prog 6 #[.int .i64 p, .int .i64 q, .int .i64 k] w fun e w' => e = .returned (.bool true) ∧ Below w.heap.size w w' := by
  have HB := Lib.hid (Below.refl w.heap.size w)
  have HS := Lib.hid (fun w => specContactForce p q k w)
  have HI := Lib.hid (fun w => implContactForce p q k w)
  generalize frcV p q k = n at *
  have e1 : (n != n) = false := by simp
  go_enter Try.func6, Try.ntmps6
  go_wp2_with fail
  refine (HS.out _).mono ?_
  rintro e w' ⟨rfl, rfl⟩
  go_wp2_with fail
  refine (HI.out _).mono ?_
  rintro e u1 ⟨rfl, B1⟩
  replace HB := Lib.hid (below_call HB.out B1)
  clear B1
  go_wp2
  go_ret
  exact ⟨rfl, HB.out⟩
set_option maxHeartbeats 2000000 in
theorem walkFnExactPressStep (p q k f s : Int) (w : World) :
    Calls Try.prog 7 #[.int .i64 p, .int .i64 q, .int .i64 k, .int .i64 f, .int .i64 s] w fun e w' => e = .returned (.bool true) ∧ Below w.heap.size w w' := by
  have HB := Lib.hid (Below.refl w.heap.size w)
  have HS := Lib.hid (fun w => specPressStep p q k f s w)
  have HI := Lib.hid (fun w => implPressStep p q k f s w)
  generalize prsV p q k f s = n at *
  have e1 : (n != n) = false := by simp
  go_enter Try.func7, Try.ntmps7
  go_wp2_with fail
  refine (HS.out _).mono ?_
  rintro e w' ⟨rfl, rfl⟩
  go_wp2_with fail
  refine (HI.out _).mono ?_
  rintro e u1 ⟨rfl, B1⟩
  replace HB := Lib.hid (below_call HB.out B1)
  clear B1
  go_wp2
  go_ret
  exact ⟨rfl, HB.out⟩
set_option maxHeartbeats 2000000 in
theorem walkFnExactPressTrace (p q k f s n : Int) (w : World) :
    Calls Try.prog 8 #[.int .i64 p, .int .i64 q, .int .i64 k, .int .i64 f, .int .i64 s, .int .i64 n] w fun e w' => e = .returned (.bool true) ∧ Below w.heap.size w w' := by
  have HB := Lib.hid (Below.refl w.heap.size w)
  have HS := Lib.hid (fun w => specPressTrace p q k f s n w)
  have HI := Lib.hid (fun w => implPressTrace p q k f s n w)
  have HLEN := Lib.hid (trc_len15 p q k f s n)
  generalize trcV p q k f s n = L at *
  go_enter Try.func8, Try.ntmps8
  go_wp2_with fail
  refine (HS.out _).mono ?_
  rintro e u1 ⟨⟨sa, sl, sc⟩, rfl, l2, O2, B1⟩
  replace HB := Lib.hid (below_call HB.out B1)
  clear B1
  have A2 := Lib.hid (fun q hq => (World.ownsRow.lt O2 q hq).2)
  have HSZ : Hid (w.heap.size ≤ u1.heap.size) := Lib.hid HB.out.size
  simp only at *
  have hsl : sl ≤ 400 := by rw [l2]; exact HLEN.out
  have HLL := Lib.hid l2
  clear l2
  go_wp2_with fail
  refine (HI.out _).mono ?_
  rintro e u2 ⟨⟨ta, tl, tc⟩, rfl, l4, O4, B2⟩
  replace O2 := O2.next B2
  replace HB := Lib.hid (below_call HB.out B2)
  clear B2
  simp only at *
  obtain rfl : tl = sl := by rw [l4, HLL.out]
  clear l4
  have A4 := Lib.hid (fun q hq => (World.ownsRow.lt O4 q hq).1)
  go_wp2_with fail
  refine (eqIntS _ _ _ _ _ _ L _ O4.ints O2.ints (by omega)).mono ?_
  rintro e u3 ⟨rfl, B3⟩
  replace O2 := O2.next B3
  replace O4 := O4.next B3
  replace HB := Lib.hid (below_call HB.out B3)
  clear B3
  have n2 : ¬ ((1 : Int) + (tl : Int) < 0) := by omega
  have e2 : ((1 + (tl : Int)) != (1 + (tl : Int))) = false := by simp
  go_wp2_with fail
  refine (markIntS _ tl tc _ L 1 _ O4 (by omega) (by omega) (by omega)).mono ?_
  rintro e v2 ⟨rfl, O6, G6, S6⟩
  replace O2 : OwnI v2 _ _ L := World.ownsRow.kept O2 G6 (by
    cases hq : (Value.slice sa tl sc).ownBlock with
    | none => exact .inl rfl
    | some q => exact .inr (fun e => by have h1 := A2.out _ hq; have h2 := A4.out _ e.symm; have h3 := HSZ.out; omega))
  replace HB := Lib.hid (HB.out.grown G6 HB.out.size (fun q hq => by have := A4.out _ hq; have h3 := HSZ.out; omega))
  clear G6 S6 O4
  go_wp2_with fail
  refine (heldIntS _ tl tc 1 _ O6.ints (by omega) (by omega) (by omega)).mono ?_
  rintro e w' ⟨rfl, rfl⟩
  go_wp2_with fail
  refine (HI.out _).mono ?_
  rintro e u4 ⟨⟨ra, rl, rc⟩, rfl, l8, O8, B4⟩
  replace O2 := O2.next B4
  replace O6 := O6.next B4
  replace HB := Lib.hid (below_call HB.out B4)
  clear B4
  simp only at *
  obtain rfl : tl = rl := by rw [l8, HLL.out]
  clear l8
  go_wp2_with fail
  refine (eqIntS _ _ _ _ _ _ L _ O8.ints O2.ints (by omega)).mono ?_
  rintro e u5 ⟨rfl, B5⟩
  replace O2 := O2.next B5
  replace O6 := O6.next B5
  replace O8 := O8.next B5
  replace HB := Lib.hid (below_call HB.out B5)
  clear B5
  go_wp2_with fail
  refine (heldIntS _ tl tc 1 _ O6.ints (by omega) (by omega) (by omega)).mono ?_
  rintro e w' ⟨rfl, rfl⟩
  go_wp2
  go_ret
  exact ⟨rfl, HB.out⟩
end Go.Proofs.Ytdjihdnnjkbjbaa
