/- The walks of the exact laws on motors: they return true at every argument. -/
import Derived.Test.YtgnchgmbflkakaaCi14
namespace Go.Proofs.Ytgnchgmbflkakaa
set_option maxRecDepth 100000
open Go.RowKit
attribute [local go_sem ↓] Go.wp_at_zero Go.wp_at_succ
theorem toMotor (x y : Int) (w : World) :
    Calls Try.prog 32 #[pt x y] w fun e w' => e = .returned (pt x y) ∧ Below w.heap.size w w' := by
  go_enter Try.func32, Try.ntmps32
  go_wp2
  exact bodyPost_ret (v := pt x y) (by simp [results, Try.results32, go_sem]) rfl ⟨rfl, below_box3 _ _ _ _⟩
theorem eqMotor (x y : Int) (w : World) :
    Calls Try.prog 33 #[pt x y, pt x y] w fun e w' => e = .returned (.bool true) ∧ Below w.heap.size w w' := by
  have hx : (x != x) = false := by simp
  have hy : (y != y) = false := by simp
  go_enter Try.func33, Try.ntmps33
  go_wp2
  go_ret
  exact ⟨rfl, below_box2 _ _ _⟩
theorem AtP.mark14 {w w' : World} {b : Nat} {x y : Int} {row : Option Nat} (h : AtP w b x y) (hg : w.grownBy w' row) (hne : ∀ q, row = some q → b < q) : AtP w' b x y :=
  have e := hg.block b h.lt (fun e => by have := hne b e.symm; omega)
  ⟨Nat.lt_of_lt_of_le h.lt hg.size, (World.cell?_of_block (a := ⟨b, 0, none⟩) e).trans h.c0, (World.cell?_of_block (a := ⟨b, 1, none⟩) e).trans h.c1⟩
theorem run_len (a v g k d f n : Int) : (runV a v g k d f n).length ≤ 400 := by
  unfold runV
  split
  · next h => rw [runL_len]; have := h.2.2; omega
  · simp
set_option maxHeartbeats 2000000 in
theorem walkFnExactMotorValid (a v : Int) (w : World) :
    Calls Try.prog 9 #[pt a v] w fun e w' => e = .returned (.bool true) ∧ Below w.heap.size w w' := by
  have HB := Lib.hid (below_box w (.cells #[.int .i64 a, .int .i64 v] 42))
  have P := AtP.box w a v 42
  have HS := Lib.hid (fun w => specMotorValid a v w)
  have HI := Lib.hid (fun w => implMotorValid a v w)
  generalize decide (okMotor a v) = n at *
  have e1 : (n != n) = false := by simp
  go_enter Try.func9, Try.ntmps9
  go_upto_region 1 with fail
  generalize w.alloc (.cells #[.int .i64 a, .int .i64 v] 42) = w0 at *
  obtain ⟨_, p0, p1⟩ := id P
  go_wp2_with fail
  refine (toMotor a v _).mono ?_
  rintro e u1 ⟨rfl, B1⟩
  replace P := P.next B1
  replace HB := Lib.hid (below_call HB.out B1)
  clear B1 p0 p1
  go_wp2_with fail
  refine (HS.out _).mono ?_
  rintro e u2 ⟨rfl, B2⟩
  replace P := P.next B2
  replace HB := Lib.hid (below_call HB.out B2)
  clear B2
  obtain ⟨_, p0, p1⟩ := id P
  go_wp2_with fail
  refine (toMotor a v _).mono ?_
  rintro e u3 ⟨rfl, B3⟩
  replace P := P.next B3
  replace HB := Lib.hid (below_call HB.out B3)
  clear B3 p0 p1
  go_wp2_with fail
  refine (HI.out _).mono ?_
  rintro e u4 ⟨rfl, B4⟩
  replace P := P.next B4
  replace HB := Lib.hid (below_call HB.out B4)
  clear B4
  go_wp2
  go_ret
  exact ⟨rfl, HB.out⟩
set_option maxHeartbeats 2000000 in
theorem walkFnExactBrakeTorque (a v : Int) (w : World) :
    Calls Try.prog 11 #[pt a v] w fun e w' => e = .returned (.bool true) ∧ Below w.heap.size w w' := by
  have HB := Lib.hid (below_box w (.cells #[.int .i64 a, .int .i64 v] 42))
  have P := AtP.box w a v 42
  have HS := Lib.hid (fun w => specBrakeTorque a v w)
  have HI := Lib.hid (fun w => implBrakeTorque a v w)
  generalize brkV a v = n at *
  have e1 : (n != n) = false := by simp
  go_enter Try.func11, Try.ntmps11
  go_upto_region 1 with fail
  generalize w.alloc (.cells #[.int .i64 a, .int .i64 v] 42) = w0 at *
  obtain ⟨_, p0, p1⟩ := id P
  go_wp2_with fail
  refine (toMotor a v _).mono ?_
  rintro e u1 ⟨rfl, B1⟩
  replace P := P.next B1
  replace HB := Lib.hid (below_call HB.out B1)
  clear B1 p0 p1
  go_wp2_with fail
  refine (HS.out _).mono ?_
  rintro e u2 ⟨rfl, B2⟩
  replace P := P.next B2
  replace HB := Lib.hid (below_call HB.out B2)
  clear B2
  obtain ⟨_, p0, p1⟩ := id P
  go_wp2_with fail
  refine (toMotor a v _).mono ?_
  rintro e u3 ⟨rfl, B3⟩
  replace P := P.next B3
  replace HB := Lib.hid (below_call HB.out B3)
  clear B3 p0 p1
  go_wp2_with fail
  refine (HI.out _).mono ?_
  rintro e u4 ⟨rfl, B4⟩
  replace P := P.next B4
  replace HB := Lib.hid (below_call HB.out B4)
  clear B4
  go_wp2
  go_ret
  exact ⟨rfl, HB.out⟩
set_option maxHeartbeats 2000000 in
theorem walkFnExactAimTorque (a v g k d : Int) (w : World) :
    Calls Try.prog 12 #[pt a v, .int .i64 g, .int .i64 k, .int .i64 d] w fun e w' => e = .returned (.bool true) ∧ Below w.heap.size w w' := by
  have HB := Lib.hid (below_box w (.cells #[.int .i64 a, .int .i64 v] 42))
  have P := AtP.box w a v 42
  have HS := Lib.hid (fun w => specAimTorque a v g k d w)
  have HI := Lib.hid (fun w => implAimTorque a v g k d w)
  generalize aimV a v g k d = n at *
  have e1 : (n != n) = false := by simp
  go_enter Try.func12, Try.ntmps12
  go_upto_region 1 with fail
  generalize w.alloc (.cells #[.int .i64 a, .int .i64 v] 42) = w0 at *
  obtain ⟨_, p0, p1⟩ := id P
  go_wp2_with fail
  refine (toMotor a v _).mono ?_
  rintro e u1 ⟨rfl, B1⟩
  replace P := P.next B1
  replace HB := Lib.hid (below_call HB.out B1)
  clear B1 p0 p1
  go_wp2_with fail
  refine (HS.out _).mono ?_
  rintro e u2 ⟨rfl, B2⟩
  replace P := P.next B2
  replace HB := Lib.hid (below_call HB.out B2)
  clear B2
  obtain ⟨_, p0, p1⟩ := id P
  go_wp2_with fail
  refine (toMotor a v _).mono ?_
  rintro e u3 ⟨rfl, B3⟩
  replace P := P.next B3
  replace HB := Lib.hid (below_call HB.out B3)
  clear B3 p0 p1
  go_wp2_with fail
  refine (HI.out _).mono ?_
  rintro e u4 ⟨rfl, B4⟩
  replace P := P.next B4
  replace HB := Lib.hid (below_call HB.out B4)
  clear B4
  go_wp2
  go_ret
  exact ⟨rfl, HB.out⟩
set_option maxHeartbeats 2000000 in
theorem walkFnExactMotorStep (a v t f : Int) (w : World) :
    Calls Try.prog 10 #[pt a v, .int .i64 t, .int .i64 f] w fun e w' => e = .returned (.bool true) ∧ Below w.heap.size w w' := by
  have HB := Lib.hid (below_box w (.cells #[.int .i64 a, .int .i64 v] 42))
  have P := AtP.box w a v 42
  have HS := Lib.hid (fun w => specMotorStep a v t f w)
  have HI := Lib.hid (fun w => implMotorStep a v t f w)
  generalize motA a v t f = cx at *
  generalize motS a v t f = cy at *
  go_enter Try.func10, Try.ntmps10
  go_upto_region 1 with fail
  generalize w.alloc (.cells #[.int .i64 a, .int .i64 v] 42) = w0 at *
  obtain ⟨_, p0, p1⟩ := id P
  go_wp2_with fail
  refine (toMotor a v _).mono ?_
  rintro e u1 ⟨rfl, B1⟩
  replace P := P.next B1
  replace HB := Lib.hid (below_call HB.out B1)
  clear B1 p0 p1
  go_wp2_with fail
  refine (HS.out _).mono ?_
  rintro e u2 ⟨rfl, B2⟩
  replace P := P.next B2
  replace HB := Lib.hid (below_call HB.out B2)
  clear B2
  have P1 := AtP.box u2 cx cy 24
  have B3 := below_box u2 (.cells #[.int .i64 cx, .int .i64 cy] 24)
  replace P := P.next B3
  replace HB := Lib.hid (below_call HB.out B3)
  clear B3
  go_upto_region 2 with fail
  generalize u2.alloc (.cells #[.int .i64 cx, .int .i64 cy] 24) = u3 at *
  generalize u2.heap.size = g3 at *
  obtain ⟨_, p0, p1⟩ := id P
  go_wp2_with fail
  refine (toMotor a v _).mono ?_
  rintro e u4 ⟨rfl, B4⟩
  replace P := P.next B4
  replace P1 := P1.next B4
  replace HB := Lib.hid (below_call HB.out B4)
  clear B4 p0 p1
  go_wp2_with fail
  refine (HI.out _).mono ?_
  rintro e u5 ⟨rfl, B5⟩
  replace P := P.next B5
  replace P1 := P1.next B5
  replace HB := Lib.hid (below_call HB.out B5)
  clear B5
  have P2 := AtP.box u5 cx cy 24
  have B6 := below_box u5 (.cells #[.int .i64 cx, .int .i64 cy] 24)
  replace P := P.next B6
  replace P1 := P1.next B6
  replace HB := Lib.hid (below_call HB.out B6)
  clear B6
  go_upto_region 3 with fail
  generalize u5.alloc (.cells #[.int .i64 cx, .int .i64 cy] 24) = u6 at *
  generalize u5.heap.size = g6 at *
  obtain ⟨_, p0, p1⟩ := id P1
  obtain ⟨_, q0, q1⟩ := id P2
  go_wp2_with fail
  refine (eqMotor cx cy _).mono ?_
  rintro e u7 ⟨rfl, B7⟩
  replace P := P.next B7
  replace P1 := P1.next B7
  replace P2 := P2.next B7
  replace HB := Lib.hid (below_call HB.out B7)
  clear B7 p0 p1 q0 q1
  go_wp2
  go_ret
  exact ⟨rfl, HB.out⟩
set_option maxHeartbeats 2000000 in
theorem walkFnExactRunMotor (a v g k d f n : Int) (w : World) :
    Calls Try.prog 13 #[pt a v, .int .i64 g, .int .i64 k, .int .i64 d, .int .i64 f, .int .i64 n] w fun e w' => e = .returned (.bool true) ∧ Below w.heap.size w w' := by
  have HB := Lib.hid (below_box w (.cells #[.int .i64 a, .int .i64 v] 42))
  have P := AtP.box w a v 42
  have HS := Lib.hid (fun w => specRunMotor a v g k d f n w)
  have HI := Lib.hid (fun w => implRunMotor a v g k d f n w)
  have HLEN := Lib.hid (run_len a v g k d f n)
  generalize runV a v g k d f n = L at *
  go_enter Try.func13, Try.ntmps13
  go_upto_region 1 with fail
  generalize w.alloc (.cells #[.int .i64 a, .int .i64 v] 42) = w0 at *
  obtain ⟨_, p0, p1⟩ := id P
  go_wp2_with fail
  refine (toMotor a v _).mono ?_
  rintro e u1 ⟨rfl, B1⟩
  replace P := P.next B1
  replace HB := Lib.hid (below_call HB.out B1)
  clear B1 p0 p1
  go_wp2_with fail
  refine (HS.out _).mono ?_
  rintro e u2 ⟨⟨sa, sl, sc⟩, rfl, l2, O2, B2⟩
  replace P := P.next B2
  replace HB := Lib.hid (below_call HB.out B2)
  clear B2
  have HPW := Lib.hid P.lt
  have A2 := Lib.hid (fun q hq => (World.ownsRow.lt O2 q hq).2)
  have hge : w.heap.size ≤ u2.heap.size := HB.out.size
  simp only at *
  have hsl : sl ≤ 400 := by rw [l2]; exact HLEN.out
  have HLL := Lib.hid l2
  clear l2
  obtain ⟨_, p0, p1⟩ := id P
  go_wp2_with fail
  refine (toMotor a v _).mono ?_
  rintro e u3 ⟨rfl, B3⟩
  have HB3 := Lib.hid B3
  replace P := P.next B3
  replace O2 := O2.next B3
  replace HB := Lib.hid (below_call HB.out B3)
  clear B3 p0 p1
  have HSZ := Lib.hid (show u2.heap.size ≤ u3.heap.size from HB3.out.size)
  go_wp2_with fail
  refine (HI.out _).mono ?_
  rintro e u4 ⟨⟨ta, tl, tc⟩, rfl, l4, O4, B4⟩
  replace P := P.next B4
  replace O2 := O2.next B4
  replace HB := Lib.hid (below_call HB.out B4)
  clear B4
  simp only at *
  obtain rfl : tl = sl := by rw [l4, HLL.out]
  clear l4
  have A4 := Lib.hid (fun q hq => (World.ownsRow.lt O4 q hq).1)
  go_wp2_with fail
  refine (eqIntS _ _ _ _ _ _ L _ O4.ints O2.ints (by omega)).mono ?_
  rintro e u5 ⟨rfl, B5⟩
  replace P := P.next B5
  replace O2 := O2.next B5
  replace O4 := O4.next B5
  replace HB := Lib.hid (below_call HB.out B5)
  clear B5
  have n2 : ¬ ((1 : Int) + (tl : Int) < 0) := by omega
  have e2 : ((1 + (tl : Int)) != (1 + (tl : Int))) = false := by simp
  go_wp2_with fail
  refine (markIntS _ tl tc _ L 1 _ O4 (by omega) (by omega) (by omega)).mono ?_
  rintro e v2 ⟨rfl, O6, G6, S6⟩
  replace O2 : OwnI v2 _ _ L := World.ownsRow.kept O2 G6 (by
    cases hq : (Value.slice sa tl sc).ownBlock with
    | none => exact .inl rfl
    | some q => exact .inr (fun e => by have h1 := A2.out _ hq; have h2 := A4.out _ e.symm; have h3 := HSZ.out; omega))
  replace P := P.mark14 G6 (fun q hq => by have h2 := A4.out _ hq; have h3 := HSZ.out; have h4 := HPW.out; omega)
  replace HB := Lib.hid (HB.out.grown G6 HB.out.size (fun q hq => by have := A4.out _ hq; have h3 := HSZ.out; omega))
  clear G6 S6 O4
  go_wp2_with fail
  refine (heldIntS _ tl tc 1 _ O6.ints (by omega) (by omega) (by omega)).mono ?_
  rintro e w' ⟨rfl, rfl⟩
  obtain ⟨_, p0, p1⟩ := id P
  go_wp2_with fail
  refine (toMotor a v _).mono ?_
  rintro e u6 ⟨rfl, B6⟩
  replace P := P.next B6
  replace O2 := O2.next B6
  replace O6 := O6.next B6
  replace HB := Lib.hid (below_call HB.out B6)
  clear B6 p0 p1
  go_wp2_with fail
  refine (HI.out _).mono ?_
  rintro e u7 ⟨⟨ra, rl, rc⟩, rfl, l8, O8, B7⟩
  replace P := P.next B7
  replace O2 := O2.next B7
  replace O6 := O6.next B7
  replace HB := Lib.hid (below_call HB.out B7)
  clear B7
  simp only at *
  obtain rfl : tl = rl := by rw [l8, HLL.out]
  clear l8
  go_wp2_with fail
  refine (eqIntS _ _ _ _ _ _ L _ O8.ints O2.ints (by omega)).mono ?_
  rintro e u8 ⟨rfl, B8⟩
  replace P := P.next B8
  replace O2 := O2.next B8
  replace O6 := O6.next B8
  replace O8 := O8.next B8
  replace HB := Lib.hid (below_call HB.out B8)
  clear B8
  go_wp2_with fail
  refine (heldIntS _ tl tc 1 _ O6.ints (by omega) (by omega) (by omega)).mono ?_
  rintro e w' ⟨rfl, rfl⟩
  go_wp2
  go_ret
  exact ⟨rfl, HB.out⟩
end Go.Proofs.Ytgnchgmbflkakaa
