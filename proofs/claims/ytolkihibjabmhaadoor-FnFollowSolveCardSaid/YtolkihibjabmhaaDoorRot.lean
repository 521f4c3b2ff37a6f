/- The contracts of RotatePoint, of the program and of the document. -/
import Derived.Test.YtolkihibjabmhaaDoorTab
import Derived.Test.YtolkihibjabmhaaDoorPts3
import Derived.Test.YtolkihibjabmhaaDoorNum2s
namespace Go.Proofs.YtolkihibjabmhaaDoor
set_option maxRecDepth 100000
open Go.RowKit
attribute [local go_sem ↓] Go.wp_at_zero Go.wp_at_succ

theorem pt_eq {x y u v : Int} (hx : x = u) (hy : y = v) : Ending.returned (pt x y) = .returned (pt u v) := by rw [hx, hy]
theorem rnd_twice (v : Int) : flo (2 * v + 4096) 8192 = rnd v := by unfold rnd flo; omega
theorem roundDivU (v : Int) (w : World) (h1 : -81920000 ≤ v) (h2 : v ≤ 81920000) :
    Calls Tryd.prog 116 #[.int .i64 v, .int .i64 4096] w fun e w' => e = .returned (.int .i64 (rnd v)) ∧ w = w' := by
  have HE := Lib.hid (rnd_twice v)
  go_enter Tryd.func116, Tryd.ntmps116
  go_wp2_with fail
  refine (floorDivide (2 * v + 4096) 8192 _ (by omega) (by omega) (by omega) (by omega)).mono ?_
  rintro e w' ⟨rfl, rfl⟩
  go_wp2
  go_ret
  exact ⟨ret_int HE.out, rfl⟩
theorem roundUnits (v : Int) (w : World) (h1 : -81920000 ≤ v) (h2 : v ≤ 81920000) :
    Calls Tryd.prog 112 #[.int .i64 v] w fun e w' => e = .returned (.int .i64 (rnd v)) ∧ w = w' := by
  go_enter Tryd.func112, Tryd.ntmps112
  go_wp2_with fail
  refine (roundDivU v _ h1 h2).mono ?_
  rintro e w' ⟨rfl, rfl⟩
  go_wp2
  go_ret
  exact ⟨rfl, rfl⟩
theorem l1Round (v : Int) (w : World) (h1 : -81920000 ≤ v) (h2 : v ≤ 81920000) :
    Calls Tryd.prog 101 #[.int .i64 v, .int .i64 4096] w fun e w' => e = .returned (.int .i64 (rnd v)) ∧ w = w' := by
  go_enter Tryd.func101, Tryd.ntmps101
  go_wp2_with fail
  refine (l1Floor (v + 2048) 4096 _ (by omega) (by omega) (by omega) (by omega)).mono ?_
  rintro e w' ⟨rfl, rfl⟩
  go_wp2
  go_ret
  exact ⟨rfl, rfl⟩
theorem at1r (w : World) (x y : Int) (t : Nat) : let w0 := (w.alloc (.cells #[.int .i64 x, .int .i64 y] t)).alloc (.cells #[.int .i64 0, .int .i64 0] t)
    AtP w0 w.heap.size x y ∧ OwnP w0 (w.heap.size + 1) 0 0 := by
  refine ⟨(AtP.box w x y t).alloc _, ?_⟩
  have := OwnP.box (w.alloc (.cells #[.int .i64 x, .int .i64 y] t)) 0 0 t
  simpa using this
theorem implRotatePoint (x y d : Int) (w : World) (ht : TabAt w) (hd1 : -9223372036854775808 ≤ d) (hd2 : d ≤ 9223372036854775807) :
    Calls Tryd.prog 104 #[pt x y, .int .i64 d] w fun e w' => e = .returned (pt (rotX x y d) (rotY x y d)) ∧ Below w.heap.size w w' := by
  have HA := Lib.hid (at1r w x y 35)
  have HB0 := Lib.hid (below_box2 w (.cells #[.int .i64 x, .int .i64 y] 35) (.cells #[.int .i64 0, .int .i64 0] 35))
  have HT := Lib.hid (ht.below HB0.out ht.lt)
  have H0 := Lib.hid (show w.heap.size ≤ w.heap.size + 1 by omega)
  clear ht
  by_cases hp : okP x y
  · have HX := Lib.hid (rotX_in (d := d) hp)
    have HY := Lib.hid (rotY_in (d := d) hp)
    go_enter Tryd.func104, Tryd.ntmps104
    go_wp2_with fail
    refine (validY x y _ hp).mono ?_
    rintro e w1 ⟨rfl, B1⟩
    have T1 := HT.out.below B1 HT.out.lt
    go_wp2_with fail
    refine (implCosine d _ T1 hd1 hd2).mono ?_
    rintro e w' ⟨rfl, rfl⟩
    go_wp2_with fail
    refine (implSine d _ T1 hd1 hd2).mono ?_
    rintro e w' ⟨rfl, rfl⟩
    have HB := Lib.hid ((below_call HB0.out B1).drew)
    obtain ⟨v1, v2, v3⟩ := HA.out.1.next B1.drew
    obtain ⟨⟨v7, v8, v9⟩, z1, z2⟩ := HA.out.2.next B1.drew
    have HC := Lib.hid (show cosV d = sinV (deg d + 90) from rfl)
    obtain ⟨c0, c1⟩ := cosV_bd d
    obtain ⟨s0, s1⟩ := sinV_bd d
    rw [HC.out] at c0 c1
    rw [HC.out] at HX HY
    clear HC
    generalize sinV (deg d + 90) = c at *
    generalize sinV d = s at *
    obtain ⟨h1, h2, h3, h4⟩ := hp
    obtain ⟨p1, p2⟩ := prod_bd h1 h2 c0 c1
    obtain ⟨p3, p4⟩ := prod_bd h3 h4 s0 s1
    obtain ⟨p5, p6⟩ := prod_bd h1 h2 s0 s1
    obtain ⟨p7, p8⟩ := prod_bd h3 h4 c0 c1
    have o1 : IntKind.i64.wrap (x * c) = x * c := wrap_in (by omega) (by omega)
    have o2 : IntKind.i64.wrap (y * s) = y * s := wrap_in (by omega) (by omega)
    have o3 : IntKind.i64.wrap (x * s) = x * s := wrap_in (by omega) (by omega)
    have o4 : IntKind.i64.wrap (y * c) = y * c := wrap_in (by omega) (by omega)
    have o5 : IntKind.i64.wrap (x * c - y * s) = x * c - y * s := wrap_in (by omega) (by omega)
    have o6 : IntKind.i64.wrap (x * s + y * c) = x * s + y * c := wrap_in (by omega) (by omega)
    clear T1 B1
    go_wp2
    refine wp_region_still_tail 21 (by kernel_rfl) (by kernel_rfl) ?_
    simp only [List.take_succ_cons, List.take_zero, List.drop_succ_cons, List.drop_zero]
    change wpStill _ _ w1.drew (fun a' => wpList _ _ _ _ a' w1.drew) _ _
    generalize w1.drew = w3 at *
    repeat still_step
    still_call (stillOf (roundUnits (x * c - y * s) w3 (by omega) (by omega)))
    repeat still_step
    still_call (stillOf (roundUnits (x * s + y * c) w3 (by omega) (by omega)))
    repeat still_step
    refine wpStill_nil ?_
    go_wp2
    exact bodyPost_ret (v := pt (rnd (x * c - y * s)) (rnd (x * s + y * c))) (by simp [results, Tryd.results104, go_sem, v8, v9]) rfl ⟨pt_eq HX.out.symm HY.out.symm, below_set HB.out H0.out _ _⟩
  · have HX := Lib.hid (rotX_out (d := d) hp)
    have HY := Lib.hid (rotY_out (d := d) hp)
    go_enter Tryd.func104, Tryd.ntmps104
    go_wp2_with fail
    refine (validN x y _ hp).mono ?_
    rintro e w1 ⟨rfl, B1⟩
    obtain ⟨⟨v7, v8, v9⟩, z1, z2⟩ := HA.out.2.next B1
    have HB := Lib.hid (below_call HB0.out B1)
    go_wp2
    exact bodyPost_ret (v := pt 0 0) (by simp [results, Tryd.results104, go_sem, v8, v9]) rfl ⟨pt_eq HX.out.symm HY.out.symm, below_set HB.out H0.out _ _⟩
theorem l2Turn (x y d : Int) (w : World) (hp : okP x y) (hd1 : -9223372036854775808 ≤ d) (hd2 : d ≤ 9223372036854775807) :
    Calls Tryd.prog 79 #[pt x y, .int .i64 d] w fun e w' => e = .returned (pt (rotX x y d) (rotY x y d)) ∧ Below w.heap.size w w' := by
  have HA := Lib.hid (at1r w x y 35)
  have HB0 := Lib.hid (below_box2 w (.cells #[.int .i64 x, .int .i64 y] 35) (.cells #[.int .i64 0, .int .i64 0] 35))
  have H0 := Lib.hid (show w.heap.size ≤ w.heap.size + 1 by omega)
  have HX := Lib.hid (rotX_in (d := d) hp)
  have HY := Lib.hid (rotY_in (d := d) hp)
  go_enter Tryd.func79, Tryd.ntmps79
  go_wp2_with fail
  refine (specSine d _ hd1 hd2).mono ?_
  rintro e w1 ⟨rfl, B1⟩
  go_wp2_with fail
  refine (specCosine d _ hd1 hd2).mono ?_
  rintro e w2 ⟨rfl, B2⟩
  have HB := Lib.hid ((below_call (below_call HB0.out B1) B2).drew)
  obtain ⟨v1, v2, v3⟩ := (HA.out.1.next B1).next B2.drew
  obtain ⟨⟨v7, v8, v9⟩, z1, z2⟩ := (HA.out.2.next B1).next B2.drew
  have HC := Lib.hid (show cosV d = sinV (deg d + 90) from rfl)
  obtain ⟨c0, c1⟩ := cosV_bd d
  obtain ⟨s0, s1⟩ := sinV_bd d
  rw [HC.out] at c0 c1
  rw [HC.out] at HX HY
  clear HC
  generalize sinV (deg d + 90) = c at *
  generalize sinV d = s at *
  obtain ⟨h1, h2, h3, h4⟩ := hp
  obtain ⟨p1, p2⟩ := prod_bd h1 h2 c0 c1
  obtain ⟨p3, p4⟩ := prod_bd h3 h4 s0 s1
  obtain ⟨p5, p6⟩ := prod_bd h1 h2 s0 s1
  obtain ⟨p7, p8⟩ := prod_bd h3 h4 c0 c1
  have o1 : IntKind.i64.wrap (x * c) = x * c := wrap_in (by omega) (by omega)
  have o2 : IntKind.i64.wrap (y * s) = y * s := wrap_in (by omega) (by omega)
  have o3 : IntKind.i64.wrap (x * s) = x * s := wrap_in (by omega) (by omega)
  have o4 : IntKind.i64.wrap (y * c) = y * c := wrap_in (by omega) (by omega)
  have o5 : IntKind.i64.wrap (x * c - y * s) = x * c - y * s := wrap_in (by omega) (by omega)
  have o6 : IntKind.i64.wrap (x * s + y * c) = x * s + y * c := wrap_in (by omega) (by omega)
  clear B1 B2
  go_wp2
  refine wp_region_still_tail 21 (by kernel_rfl) (by kernel_rfl) ?_
  simp only [List.take_succ_cons, List.take_zero, List.drop_succ_cons, List.drop_zero]
  change wpStill _ _ w2.drew (fun a' => wpList _ _ _ _ a' w2.drew) _ _
  generalize w2.drew = w3 at *
  repeat still_step
  still_call (stillOf (l1Round (x * c - y * s) w3 (by omega) (by omega)))
  repeat still_step
  still_call (stillOf (l1Round (x * s + y * c) w3 (by omega) (by omega)))
  repeat still_step
  refine wpStill_nil ?_
  go_wp2
  exact bodyPost_ret (v := pt (rnd (x * c - y * s)) (rnd (x * s + y * c))) (by simp [results, Tryd.results79, go_sem, v8, v9]) rfl ⟨pt_eq HX.out.symm HY.out.symm, below_set HB.out H0.out _ _⟩
end Go.Proofs.YtolkihibjabmhaaDoor
