/- The contracts of Midpoint, of the program and of the document. -/
import Derived.Test.YtkmopgdnaohcdaaPts2
import Derived.StillTailTactics
namespace Go.Proofs.Ytkmopgdnaohcdaa
set_option maxRecDepth 100000
open Go.RowKit

/-- A block of the call's own that holds a point. -/
structure OwnP (w : World) (b : Nat) (x y : Int) : Prop extends AtP w b x y where
  z0 : w.frozen? ⟨b, 0, none⟩ = false
  z1 : w.frozen? ⟨b, 1, none⟩ = false
theorem OwnP.next {w w' : World} {b : Nat} {x y : Int} (h : OwnP w b x y) (hb : Below w.heap.size w w') : OwnP w' b x y :=
  ⟨h.toAtP.next hb, (hb.frozen (p := ⟨b, 0, none⟩) h.lt).trans h.z0, (hb.frozen (p := ⟨b, 1, none⟩) h.lt).trans h.z1⟩
theorem OwnP.box (w : World) (x y : Int) (t : Nat) : OwnP (w.alloc (.cells #[.int .i64 x, .int .i64 y] t)) w.heap.size x y :=
  ⟨AtP.box w x y t, World.frozen?_alloc_at _ _ _ _ rfl, World.frozen?_alloc_at _ _ _ _ rfl⟩
theorem at2r (w : World) (ax ay bx b_y : Int) (t : Nat) : let w0 := ((w.alloc (.cells #[.int .i64 ax, .int .i64 ay] t)).alloc (.cells #[.int .i64 bx, .int .i64 b_y] t)).alloc (.cells #[.int .i64 0, .int .i64 0] t)
    AtP w0 w.heap.size ax ay ∧ AtP w0 (w.heap.size + 1) bx b_y ∧ OwnP w0 (w.heap.size + 1 + 1) 0 0 := by
  have h := at2 w ax ay bx b_y t
  refine ⟨h.1.alloc _, h.2.alloc _, ?_⟩
  have := OwnP.box ((w.alloc (.cells #[.int .i64 ax, .int .i64 ay] t)).alloc (.cells #[.int .i64 bx, .int .i64 b_y] t)) 0 0 t
  simpa using this
theorem stillOf {P : Program} {f : FuncId} {args : Array Value} {w : World} {v : Value} (h : Calls P f args w fun e w' => e = .returned v ∧ w = w') : Calls P f args w fun e w' => e = .returned v ∧ w' = w :=
  h.mono fun _ _ ⟨he, hw⟩ => ⟨he, hw.symm⟩
theorem pt_mid {ax ay bx b_y x y : Int} (hx : midX ax ay bx b_y = x) (hy : midY ax ay bx b_y = y) : Ending.returned (pt x y) = .returned (pt (midX ax ay bx b_y) (midY ax ay bx b_y)) := by rw [hx, hy]
theorem wrap_in {n : Int} (h0 : -9223372036854775808 ≤ n) (h1 : n ≤ 9223372036854775807) : IntKind.i64.wrap n = n := IntWalk.i64_in _ ⟨h0, h1⟩
theorem below_drew (w : World) : Below w.heap.size w w.drew := (Below.refl _ _).drew
theorem below_set {w w' : World} (h : Below w.heap.size w w') {b : Nat} (hb : w.heap.size ≤ b) (u v : Value) : Below w.heap.size w ((w'.setCell ⟨b, 0, none⟩ u).setCell ⟨b, 1, none⟩ v) :=
  (h.setCell (p := ⟨b, 0, none⟩) hb u).setCell (p := ⟨b, 1, none⟩) hb v
theorem specMidpoint (ax ay bx b_y : Int) (w : World) :
    Calls Try.prog 67 #[pt ax ay, pt bx b_y] w fun e w' => e = .returned (pt (midX ax ay bx b_y) (midY ax ay bx b_y)) ∧ Below w.heap.size w w' := by
  have HA := Lib.hid (at2r w ax ay bx b_y 28)
  have HB0 := Lib.hid (below_box3 w (.cells #[.int .i64 ax, .int .i64 ay] 28) (.cells #[.int .i64 bx, .int .i64 b_y] 28) (.cells #[.int .i64 0, .int .i64 0] 28))
  by_cases ha : okP ax ay
  · by_cases hb : okP bx b_y
    · have HX := Lib.hid (midX_in ⟨ha, hb⟩)
      have HY := Lib.hid (midY_in ⟨ha, hb⟩)
      have H0 := Lib.hid (show w.heap.size ≤ w.heap.size + 1 + 1 by omega)
      go_enter Try.func67, Try.ntmps67
      go_wp2_with fail
      refine (specPointValidY _ _ _ ha).mono ?_
      rintro e w1 ⟨rfl, B1⟩
      have A1 := HA.out.1.next B1
      have A2 := HA.out.2.1.next B1
      have A3 := HA.out.2.2.next B1
      obtain ⟨u1, u2, u3⟩ := id A1
      obtain ⟨u4, u5, u6⟩ := id A2
      go_wp2_with fail
      refine (specPointValidY _ _ _ hb).mono ?_
      rintro e w2 ⟨rfl, B2⟩
      have HB := Lib.hid ((below_call (below_call HB0.out B1) B2).drew)
      obtain ⟨v1, v2, v3⟩ := A1.next B2.drew
      obtain ⟨v4, v5, v6⟩ := A2.next B2.drew
      obtain ⟨⟨v7, v8, v9⟩, z1, z2⟩ := A3.next B2.drew
      obtain ⟨a1, a2, a3, a4⟩ := ha
      obtain ⟨b1, b2, b3, b4⟩ := hb
      have wx : IntKind.i64.wrap (ax + bx) = ax + bx := wrap_in (by omega) (by omega)
      have wy : IntKind.i64.wrap (ay + b_y) = ay + b_y := wrap_in (by omega) (by omega)
      clear u1 u2 u3 u4 u5 u6 A1 A2 A3 B1 B2
      go_wp2
      refine wp_region_still_tail 13 (by kernel_rfl) (by kernel_rfl) ?_
      simp only [List.take_succ_cons, List.take_zero, List.drop_succ_cons, List.drop_zero]
      change wpStill _ _ w2.drew (fun a' => wpList _ _ _ _ a' w2.drew) _ _
      generalize w2.drew = w3 at *
      repeat still_step
      still_call (stillOf (l1Floor (ax + bx) 2 w3 (by omega) (by omega) (by omega) (by omega)))
      repeat still_step
      still_call (stillOf (l1Floor (ay + b_y) 2 w3 (by omega) (by omega) (by omega) (by omega)))
      repeat still_step
      refine wpStill_nil ?_
      go_wp2
      exact bodyPost_ret (v := pt (flo (ax + bx) 2) (flo (ay + b_y) 2)) (by simp [results, Try.results67, go_sem, v8, v9]) rfl ⟨pt_mid HX.out HY.out, below_set HB.out H0.out _ _⟩
    · have HX := Lib.hid (midX_out (ax := ax) (ay := ay) (bx := bx) (b_y := b_y) fun h => hb h.2)
      have HY := Lib.hid (midY_out (ax := ax) (ay := ay) (bx := bx) (b_y := b_y) fun h => hb h.2)
      have H0 := Lib.hid (show w.heap.size ≤ w.heap.size + 1 + 1 by omega)
      go_enter Try.func67, Try.ntmps67
      go_wp2_with fail
      refine (specPointValidY _ _ _ ha).mono ?_
      rintro e w1 ⟨rfl, B1⟩
      have A3 := HA.out.2.2.next B1
      obtain ⟨u4, u5, u6⟩ := HA.out.2.1.next B1
      go_wp2_with fail
      refine (specPointValidN _ _ _ hb).mono ?_
      rintro e w2 ⟨rfl, B2⟩
      obtain ⟨⟨v7, v8, v9⟩, z1, z2⟩ := A3.next B2
      have HB := Lib.hid (below_call (below_call HB0.out B1) B2)
      go_wp2
      exact bodyPost_ret (v := pt 0 0) (by simp [results, Try.results67, go_sem, v8, v9]) rfl ⟨pt_mid HX.out HY.out, below_set HB.out H0.out _ _⟩
  · have HX := Lib.hid (midX_out (ax := ax) (ay := ay) (bx := bx) (b_y := b_y) fun h => ha h.1)
    have HY := Lib.hid (midY_out (ax := ax) (ay := ay) (bx := bx) (b_y := b_y) fun h => ha h.1)
    have H0 := Lib.hid (show w.heap.size ≤ w.heap.size + 1 + 1 by omega)
    go_enter Try.func67, Try.ntmps67
    go_wp2_with fail
    refine (specPointValidN _ _ _ ha).mono ?_
    rintro e w1 ⟨rfl, B1⟩
    obtain ⟨⟨v7, v8, v9⟩, z1, z2⟩ := HA.out.2.2.next B1
    have HB := Lib.hid (below_call HB0.out B1)
    go_wp2
    exact bodyPost_ret (v := pt 0 0) (by simp [results, Try.results67, go_sem, v8, v9]) rfl ⟨pt_mid HX.out HY.out, below_set HB.out H0.out _ _⟩
theorem implMidpoint (ax ay bx b_y : Int) (w : World) :
    Calls Try.prog 33 #[pt ax ay, pt bx b_y] w fun e w' => e = .returned (pt (midX ax ay bx b_y) (midY ax ay bx b_y)) ∧ Below w.heap.size w w' := by
  have HA := Lib.hid (at2r w ax ay bx b_y 28)
  have HB0 := Lib.hid (below_box3 w (.cells #[.int .i64 ax, .int .i64 ay] 28) (.cells #[.int .i64 bx, .int .i64 b_y] 28) (.cells #[.int .i64 0, .int .i64 0] 28))
  by_cases ha : okP ax ay
  · by_cases hb : okP bx b_y
    · have HX := Lib.hid (midX_in ⟨ha, hb⟩)
      have HY := Lib.hid (midY_in ⟨ha, hb⟩)
      have H0 := Lib.hid (show w.heap.size ≤ w.heap.size + 1 + 1 by omega)
      go_enter Try.func33, Try.ntmps33
      go_wp2_with fail
      refine (validY _ _ _ ha).mono ?_
      rintro e w1 ⟨rfl, B1⟩
      have A1 := HA.out.1.next B1
      have A2 := HA.out.2.1.next B1
      have A3 := HA.out.2.2.next B1
      obtain ⟨u1, u2, u3⟩ := id A1
      obtain ⟨u4, u5, u6⟩ := id A2
      go_wp2_with fail
      refine (validY _ _ _ hb).mono ?_
      rintro e w2 ⟨rfl, B2⟩
      obtain ⟨x1, x2, x3⟩ := A1.next B2
      obtain ⟨x4, x5, x6⟩ := A2.next B2
      have C3 := A3.next B2
      obtain ⟨a1, a2, a3, a4⟩ := ha
      obtain ⟨b1, b2, b3, b4⟩ := hb
      go_wp2_with fail
      refine (plusP _ _ _ _ _ a1 a2 a3 a4 b1 b2 b3 b4).mono ?_
      rintro e w3 ⟨rfl, B3⟩
      have D3 := C3.next B3
      have HB := Lib.hid ((below_call (below_call (below_call (below_call HB0.out B1) B2) B3) (below_box w3 (.cells #[.int .i64 (ax + bx), .int .i64 (ay + b_y)] 28))).drew)
      obtain ⟨v1, v2, v3⟩ := (AtP.box w3 (ax + bx) (ay + b_y) 28).next (below_drew _)
      obtain ⟨⟨v7, v8, v9⟩, z1, z2⟩ := (D3.next (below_box w3 (.cells #[.int .i64 (ax + bx), .int .i64 (ay + b_y)] 28))).next (below_drew _)
      have hne : ¬ w3.heap.size = w.heap.size + 1 + 1 := by have := D3.lt; omega
      clear u1 u2 u3 u4 u5 u6 x1 x2 x3 x4 x5 x6 A1 A2 A3 B1 B2 B3 C3 D3
      go_wp2
      refine wp_region_still_tail 7 (by kernel_rfl) (by kernel_rfl) ?_
      simp only [List.take_succ_cons, List.take_zero, List.drop_succ_cons, List.drop_zero]
      change wpStill _ _ (w3.alloc _).drew (fun a' => wpList _ _ _ _ a' (w3.alloc _).drew) _ _
      generalize (w3.alloc (.cells #[.int .i64 (ax + bx), .int .i64 (ay + b_y)] 28)).drew = w4 at *
      repeat still_step
      still_call (stillOf (floorDivide (ax + bx) 2 w4 (by omega) (by omega) (by omega) (by omega)))
      repeat still_step
      still_call (stillOf (floorDivide (ay + b_y) 2 w4 (by omega) (by omega) (by omega) (by omega)))
      repeat still_step
      refine wpStill_nil ?_
      go_wp2
      exact bodyPost_ret (v := pt (flo (ax + bx) 2) (flo (ay + b_y) 2)) (by simp [results, Try.results33, go_sem, v8, v9]) rfl ⟨pt_mid HX.out HY.out, below_set HB.out H0.out _ _⟩
    · have HX := Lib.hid (midX_out (ax := ax) (ay := ay) (bx := bx) (b_y := b_y) fun h => hb h.2)
      have HY := Lib.hid (midY_out (ax := ax) (ay := ay) (bx := bx) (b_y := b_y) fun h => hb h.2)
      have H0 := Lib.hid (show w.heap.size ≤ w.heap.size + 1 + 1 by omega)
      go_enter Try.func33, Try.ntmps33
      go_wp2_with fail
      refine (validY _ _ _ ha).mono ?_
      rintro e w1 ⟨rfl, B1⟩
      have A3 := HA.out.2.2.next B1
      obtain ⟨u4, u5, u6⟩ := HA.out.2.1.next B1
      go_wp2_with fail
      refine (validN _ _ _ hb).mono ?_
      rintro e w2 ⟨rfl, B2⟩
      obtain ⟨⟨v7, v8, v9⟩, z1, z2⟩ := A3.next B2
      have HB := Lib.hid (below_call (below_call HB0.out B1) B2)
      go_wp2
      exact bodyPost_ret (v := pt 0 0) (by simp [results, Try.results33, go_sem, v8, v9]) rfl ⟨pt_mid HX.out HY.out, below_set HB.out H0.out _ _⟩
  · have HX := Lib.hid (midX_out (ax := ax) (ay := ay) (bx := bx) (b_y := b_y) fun h => ha h.1)
    have HY := Lib.hid (midY_out (ax := ax) (ay := ay) (bx := bx) (b_y := b_y) fun h => ha h.1)
    have H0 := Lib.hid (show w.heap.size ≤ w.heap.size + 1 + 1 by omega)
    go_enter Try.func33, Try.ntmps33
    go_wp2_with fail
    refine (validN _ _ _ ha).mono ?_
    rintro e w1 ⟨rfl, B1⟩
    obtain ⟨⟨v7, v8, v9⟩, z1, z2⟩ := HA.out.2.2.next B1
    have HB := Lib.hid (below_call HB0.out B1)
    go_wp2
    exact bodyPost_ret (v := pt 0 0) (by simp [results, Try.results33, go_sem, v8, v9]) rfl ⟨pt_mid HX.out HY.out, below_set HB.out H0.out _ _⟩
end Go.Proofs.Ytkmopgdnaohcdaa
