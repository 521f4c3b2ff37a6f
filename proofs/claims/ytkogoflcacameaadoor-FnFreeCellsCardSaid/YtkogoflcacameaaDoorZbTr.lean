/- Several of my texts in one: Tab, Rot. -/
import Derived.Test.YtkogoflcacameaaDoorZcPts
import Derived.Test.YtkogoflcacameaaDoorZbNs
import Derived.Below
import Derived.Deep.WholeRow
import Derived.Great.BuildSlice
namespace Go.Proofs.YtkogoflcacameaaDoor
set_option maxRecDepth 100000
open Go.RowKit
def zs91 : Array Value := Array.replicate 91 (.int .i64 0)
def tab91 : Array Value := (tabZ.map (Value.int .i64)).toArray
theorem zero91 (w : World) : (zeroValue 123).run Tryd.prog w = .ok (.agg zs91) w := by kernel_rfl
theorem size91 : (Tryd.prog.info? 123).map (·.size) = some tab91.size := by kernel_rfl
theorem same91 : zs91.size = tab91.size := by decide
theorem one91 : tab91.all (·.oneCell') = true := by decide +kernel
theorem tab91_at (n : Nat) (h : n ≤ 90) : tab91[n]? = some (.int .i64 (sinT n)) := by
  have hl : n < tabZ.length := by have : tabZ.length = 91 := by decide
                                  omega
  unfold tab91 sinT
  rw [List.getElem?_toArray, List.getElem?_map, List.getD_eq_getElem?_getD, List.getElem?_eq_getElem hl]; rfl
set_option maxRecDepth 100000 in
set_option maxHeartbeats 400000 in
theorem l1Table (w : World) :
    Calls Tryd.prog 98 #[] w fun e w' => e = .returned (.agg tab91) ∧ w' = w.alloc (.cells tab91 123) := by
  have hz := zero91
  have hst := fun W : World => run_storeCells_new (P := Tryd.prog) W 123 zs91 tab91 size91 same91 one91
  have hld := fun W : World => run_loadVar_new (P := Tryd.prog) W 123 tab91 91 3 Tryd.underlying123 size91
  have hsz : tab91.size = 91 := by decide
  go_enter Tryd.func98, Tryd.ntmps98
  go_wp2_with (refine wpList_buildTo (by rfl) 123 _ (by rfl) (some 1) (by rfl) tab91 (by kernel_rfl) ?_)
  exact bodyPost_ret (v := .agg tab91) (by simp [results, Tryd.results98, asAddr, hld]) rfl ⟨rfl, rfl⟩
theorem l1Table' (w : World) : Calls Tryd.prog 98 #[] w fun e w' => e = .returned (.agg tab91) ∧ Below w.heap.size w w' :=
  (l1Table w).mono fun _ _ ⟨he, hw⟩ => ⟨he, hw ▸ (Below.refl _ _).alloc (Nat.le_refl _) _⟩
/-- The program's table of sines, as it lies in memory. -/
def TabAt (w : World) : Prop := ∀ n, n ≤ 90 → w.cell? ⟨0, n, none⟩ = some (.int .i64 (sinT n))
theorem TabAt.below {w w' : World} {B : Nat} (h : TabAt w) (hb : Below B w w') (hB : 0 < B) : TabAt w' := fun n hn => by
  rw [hb.cell (p := ⟨0, n, none⟩) hB]; exact h n hn
theorem TabAt.lt {w : World} (h : TabAt w) : 0 < w.heap.size := World.block_lt_of_cell? w _ (h 0 (by omega))
theorem sine (d : Int) (w : World) (ht : TabAt w) (h1 : -9223372036854775808 ≤ d) (h2 : d ≤ 9223372036854775807) :
    Calls Tryd.prog 111 #[.int .i64 d] w fun e w' => e = .returned (.int .i64 (sinV d)) ∧ w = w' := by
  have d0 := deg_lo d
  have d1 := deg_hi d
  by_cases c1 : deg d ≤ 90
  · have HV := Lib.hid (sinV_1 d c1)
    have hc := ht (deg d).toNat (by omega)
    clear ht
    go_enter Tryd.func111, Tryd.ntmps111
    go_wp2_with fail
    refine (reduced d _ h1 h2).mono ?_
    rintro e w' ⟨rfl, rfl⟩
    go_wp2
    go_ret
    exact ⟨ret_int HV.out, rfl⟩
  · by_cases c2 : deg d ≤ 180
    · have HV := Lib.hid (sinV_2 d c1 c2)
      have hc := ht (180 - deg d).toNat (by omega)
      clear ht
      go_enter Tryd.func111, Tryd.ntmps111
      go_wp2_with fail
      refine (reduced d _ h1 h2).mono ?_
      rintro e w' ⟨rfl, rfl⟩
      go_wp2
      go_ret
      exact ⟨ret_int HV.out, rfl⟩
    · by_cases c3 : deg d ≤ 270
      · have HV := Lib.hid (sinV_3 d c1 c2 c3)
        have hc := ht (deg d - 180).toNat (by omega)
        obtain ⟨b0, b1⟩ := sinT_bd (deg d - 180).toNat
        clear ht
        go_enter Tryd.func111, Tryd.ntmps111
        go_wp2_with fail
        refine (reduced d _ h1 h2).mono ?_
        rintro e w' ⟨rfl, rfl⟩
        go_wp2
        go_ret
        exact ⟨ret_int HV.out, rfl⟩
      · have HV := Lib.hid (sinV_4 d c1 c2 c3)
        have hc := ht (360 - deg d).toNat (by omega)
        obtain ⟨b0, b1⟩ := sinT_bd (360 - deg d).toNat
        clear ht
        go_enter Tryd.func111, Tryd.ntmps111
        go_wp2_with fail
        refine (reduced d _ h1 h2).mono ?_
        rintro e w' ⟨rfl, rfl⟩
        go_wp2
        go_ret
        exact ⟨ret_int HV.out, rfl⟩
theorem implSine (d : Int) (w : World) (ht : TabAt w) (h1 : -9223372036854775808 ≤ d) (h2 : d ≤ 9223372036854775807) :
    Calls Tryd.prog 108 #[.int .i64 d] w fun e w' => e = .returned (.int .i64 (sinV d)) ∧ w = w' := by
  go_enter Tryd.func108, Tryd.ntmps108
  go_wp2_with fail
  refine (sine d _ ht h1 h2).mono ?_
  rintro e w' ⟨rfl, rfl⟩
  go_wp2
  go_ret
  exact ⟨rfl, rfl⟩
theorem implCosine (d : Int) (w : World) (ht : TabAt w) (h1 : -9223372036854775808 ≤ d) (h2 : d ≤ 9223372036854775807) :
    Calls Tryd.prog 107 #[.int .i64 d] w fun e w' => e = .returned (.int .i64 (sinV (deg d + 90))) ∧ w = w' := by
  have d0 := deg_lo (deg d + deg 90)
  have d1 := deg_hi (deg d + deg 90)
  have HE := Lib.hid (show sinV (deg (deg d + deg 90)) = sinV (deg d + 90) by
    rw [show deg 90 = 90 from rfl]; unfold sinV; rw [show deg (deg (deg d + 90)) = deg (deg d + 90) by unfold deg; omega])
  go_enter Tryd.func107, Tryd.ntmps107
  go_wp2_with fail
  refine (plus d 90 _ h1 h2 (by omega) (by omega)).mono ?_
  rintro e w' ⟨rfl, rfl⟩
  go_wp2_with fail
  refine (sine _ _ ht (by omega) (by omega)).mono ?_
  rintro e w' ⟨rfl, rfl⟩
  go_wp2
  go_ret
  exact ⟨ret_int HE.out, rfl⟩
set_option maxHeartbeats 400000 in
theorem specSine (d : Int) (w : World) (h1 : -9223372036854775808 ≤ d) (h2 : d ≤ 9223372036854775807) :
    Calls Tryd.prog 87 #[.int .i64 d] w fun e w' => e = .returned (.int .i64 (sinV d)) ∧ Below w.heap.size w w' := by
  have d0 := deg_lo d
  have d1 := deg_hi d
  have hz := zero91
  have hst := fun W : World => run_storeCells_new (P := Tryd.prog) W 123 zs91 tab91 size91 same91 one91
  have hsz : tab91.size = 91 := by decide
  by_cases c1 : deg d ≤ 90
  · have HV := Lib.hid (sinV_1 d c1)
    have hc := tab91_at (deg d).toNat (by omega)
    go_enter Tryd.func87, Tryd.ntmps87
    go_wp2_with fail
    refine (specDegrees d _ h1 h2).mono ?_
    rintro e w' ⟨rfl, rfl⟩
    go_wp2_with fail
    refine (l1Table' _).mono ?_
    rintro e w1 ⟨rfl, hb⟩
    go_wp2
    go_ret
    exact ⟨ret_int HV.out, hb.alloc hb.size _⟩
  · by_cases c2 : deg d ≤ 180
    · have HV := Lib.hid (sinV_2 d c1 c2)
      have hc := tab91_at (180 - deg d).toNat (by omega)
      go_enter Tryd.func87, Tryd.ntmps87
      go_wp2_with fail
      refine (specDegrees d _ h1 h2).mono ?_
      rintro e w' ⟨rfl, rfl⟩
      go_wp2_with fail
      refine (l1Table' _).mono ?_
      rintro e w1 ⟨rfl, hb⟩
      go_wp2
      go_ret
      exact ⟨ret_int HV.out, hb.alloc hb.size _⟩
    · by_cases c3 : deg d ≤ 270
      · have HV := Lib.hid (sinV_3 d c1 c2 c3)
        have hc := tab91_at (deg d - 180).toNat (by omega)
        obtain ⟨b0, b1⟩ := sinT_bd (deg d - 180).toNat
        go_enter Tryd.func87, Tryd.ntmps87
        go_wp2_with fail
        refine (specDegrees d _ h1 h2).mono ?_
        rintro e w' ⟨rfl, rfl⟩
        go_wp2_with fail
        refine (l1Table' _).mono ?_
        rintro e w1 ⟨rfl, hb⟩
        go_wp2
        go_ret
        exact ⟨ret_int HV.out, hb.alloc hb.size _⟩
      · have HV := Lib.hid (sinV_4 d c1 c2 c3)
        have hc := tab91_at (360 - deg d).toNat (by omega)
        obtain ⟨b0, b1⟩ := sinT_bd (360 - deg d).toNat
        go_enter Tryd.func87, Tryd.ntmps87
        go_wp2_with fail
        refine (specDegrees d _ h1 h2).mono ?_
        rintro e w' ⟨rfl, rfl⟩
        go_wp2_with fail
        refine (l1Table' _).mono ?_
        rintro e w1 ⟨rfl, hb⟩
        go_wp2
        go_ret
        exact ⟨ret_int HV.out, hb.alloc hb.size _⟩
theorem specCosine (d : Int) (w : World) (h1 : -9223372036854775808 ≤ d) (h2 : d ≤ 9223372036854775807) :
    Calls Tryd.prog 88 #[.int .i64 d] w fun e w' => e = .returned (.int .i64 (sinV (deg d + 90))) ∧ Below w.heap.size w w' := by
  have d0 := deg_lo d
  have d1 := deg_hi d
  go_enter Tryd.func88, Tryd.ntmps88
  go_wp2_with fail
  refine (specDegrees d _ h1 h2).mono ?_
  rintro e w' ⟨rfl, rfl⟩
  go_wp2_with fail
  refine (specSine _ _ (by omega) (by omega)).mono ?_
  rintro e w1 ⟨rfl, hb⟩
  go_wp2
  go_ret
  exact ⟨rfl, hb⟩
end Go.Proofs.YtkogoflcacameaaDoor
namespace Go.Proofs.YtkogoflcacameaaDoor
set_option maxRecDepth 100000
open Go.RowKit
attribute [local go_sem ↓] Go.wp_at_zero Go.wp_at_succ

theorem pt_eq {x y u v : Int} (hx : x = u) (hy : y = v) : Ending.returned (pt x y) = .returned (pt u v) := by rw [hx, hy]
theorem rnd_twice (v : Int) : flo (2 * v + 4096) 8192 = rnd v := by unfold rnd flo; omega
theorem roundDivU (v : Int) (w : World) (h1 : -81920000 ≤ v) (h2 : v ≤ 81920000) :
    Calls Tryd.prog 112 #[.int .i64 v, .int .i64 4096] w fun e w' => e = .returned (.int .i64 (rnd v)) ∧ w = w' := by
  have HE := Lib.hid (rnd_twice v)
  go_enter Tryd.func112, Tryd.ntmps112
  go_wp2_with fail
  refine (floorDivide (2 * v + 4096) 8192 _ (by omega) (by omega) (by omega) (by omega)).mono ?_
  rintro e w' ⟨rfl, rfl⟩
  go_wp2
  go_ret
  exact ⟨ret_int HE.out, rfl⟩
theorem roundUnits (v : Int) (w : World) (h1 : -81920000 ≤ v) (h2 : v ≤ 81920000) :
    Calls Tryd.prog 109 #[.int .i64 v] w fun e w' => e = .returned (.int .i64 (rnd v)) ∧ w = w' := by
  go_enter Tryd.func109, Tryd.ntmps109
  go_wp2_with fail
  refine (roundDivU v _ h1 h2).mono ?_
  rintro e w' ⟨rfl, rfl⟩
  go_wp2
  go_ret
  exact ⟨rfl, rfl⟩
theorem l1Round (v : Int) (w : World) (h1 : -81920000 ≤ v) (h2 : v ≤ 81920000) :
    Calls Tryd.prog 89 #[.int .i64 v, .int .i64 4096] w fun e w' => e = .returned (.int .i64 (rnd v)) ∧ w = w' := by
  go_enter Tryd.func89, Tryd.ntmps89
  go_wp2_with fail
  refine (l1Floor (v + 2048) 4096 _ (by omega) (by omega) (by omega) (by omega)).mono ?_
  rintro e w' ⟨rfl, rfl⟩
  go_wp2
  go_ret
  exact ⟨rfl, rfl⟩
theorem at1r (w : World) (x y : Int) (t : Nat) : let w0 := (w.alloc (.cells #[.int .i64 x, .int .i64 y] t)).alloc (.cells #[.int .i64 0, .int .i64 0] t)
    AtP w0 w.heap.size x y ∧ OwnP w0 (w.heap.size + 1) 0 0 := by
  refine ⟨(AtP.box w x y t).alloc _, ?_⟩
  have := OwnP.box (w.alloc (.cells #[.int .i64 x, .int .i64 y] t)) 0 0 t
  simpa using this
theorem implRotatePoint (x y d : Int) (w : World) (ht : TabAt w) (hd1 : -9223372036854775808 ≤ d) (hd2 : d ≤ 9223372036854775807) :
    Calls Tryd.prog 104 #[pt x y, .int .i64 d] w fun e w' => e = .returned (pt (rotX x y d) (rotY x y d)) ∧ Below w.heap.size w w' := by
  have HA := Lib.hid (at1r w x y 89)
  have HB0 := Lib.hid (below_box2 w (.cells #[.int .i64 x, .int .i64 y] 89) (.cells #[.int .i64 0, .int .i64 0] 89))
  have HT := Lib.hid (ht.below HB0.out ht.lt)
  have H0 := Lib.hid (show w.heap.size ≤ w.heap.size + 1 by omega)
  clear ht
  by_cases hp : okP x y
  · have HX := Lib.hid (rotX_in (d := d) hp)
    have HY := Lib.hid (rotY_in (d := d) hp)
    go_enter Tryd.func104, Tryd.ntmps104
    go_wp2_with fail
    refine (validY x y _ hp).mono ?_
    rintro e w1 ⟨rfl, B1⟩
    have T1 := HT.out.below B1 HT.out.lt
    go_wp2_with fail
    refine (implCosine d _ T1 hd1 hd2).mono ?_
    rintro e w' ⟨rfl, rfl⟩
    go_wp2_with fail
    refine (implSine d _ T1 hd1 hd2).mono ?_
    rintro e w' ⟨rfl, rfl⟩
    have HB := Lib.hid ((below_call HB0.out B1).drew)
    obtain ⟨v1, v2, v3⟩ := HA.out.1.next B1.drew
    obtain ⟨⟨v7, v8, v9⟩, z1, z2⟩ := HA.out.2.next B1.drew
    have HC := Lib.hid (show cosV d = sinV (deg d + 90) from rfl)
    obtain ⟨c0, c1⟩ := cosV_bd d
    obtain ⟨s0, s1⟩ := sinV_bd d
    rw [HC.out] at c0 c1
    rw [HC.out] at HX HY
    clear HC
    generalize sinV (deg d + 90) = c at *
    generalize sinV d = s at *
    obtain ⟨h1, h2, h3, h4⟩ := hp
    obtain ⟨p1, p2⟩ := prod_bd h1 h2 c0 c1
    obtain ⟨p3, p4⟩ := prod_bd h3 h4 s0 s1
    obtain ⟨p5, p6⟩ := prod_bd h1 h2 s0 s1
    obtain ⟨p7, p8⟩ := prod_bd h3 h4 c0 c1
    have o1 : IntKind.i64.wrap (x * c) = x * c := wrap_in (by omega) (by omega)
    have o2 : IntKind.i64.wrap (y * s) = y * s := wrap_in (by omega) (by omega)
    have o3 : IntKind.i64.wrap (x * s) = x * s := wrap_in (by omega) (by omega)
    have o4 : IntKind.i64.wrap (y * c) = y * c := wrap_in (by omega) (by omega)
    have o5 : IntKind.i64.wrap (x * c - y * s) = x * c - y * s := wrap_in (by omega) (by omega)
    have o6 : IntKind.i64.wrap (x * s + y * c) = x * s + y * c := wrap_in (by omega) (by omega)
    clear T1 B1
    go_wp2
    refine wp_region_still_tail 21 (by kernel_rfl) (by kernel_rfl) ?_
    simp only [List.take_succ_cons, List.take_zero, List.drop_succ_cons, List.drop_zero]
    change wpStill _ _ w1.drew (fun a' => wpList _ _ _ _ a' w1.drew) _ _
    generalize w1.drew = w3 at *
    repeat still_step
    still_call (stillOf (roundUnits (x * c - y * s) w3 (by omega) (by omega)))
    repeat still_step
    still_call (stillOf (roundUnits (x * s + y * c) w3 (by omega) (by omega)))
    repeat still_step
    refine wpStill_nil ?_
    go_wp2
    exact bodyPost_ret (v := pt (rnd (x * c - y * s)) (rnd (x * s + y * c))) (by simp [results, Tryd.results104, go_sem, v8, v9]) rfl ⟨pt_eq HX.out.symm HY.out.symm, below_set HB.out H0.out _ _⟩
  · have HX := Lib.hid (rotX_out (d := d) hp)
    have HY := Lib.hid (rotY_out (d := d) hp)
    go_enter Tryd.func104, Tryd.ntmps104
    go_wp2_with fail
    refine (validN x y _ hp).mono ?_
    rintro e w1 ⟨rfl, B1⟩
    obtain ⟨⟨v7, v8, v9⟩, z1, z2⟩ := HA.out.2.next B1
    have HB := Lib.hid (below_call HB0.out B1)
    go_wp2
    exact bodyPost_ret (v := pt 0 0) (by simp [results, Tryd.results104, go_sem, v8, v9]) rfl ⟨pt_eq HX.out.symm HY.out.symm, below_set HB.out H0.out _ _⟩
theorem l2Turn (x y d : Int) (w : World) (hp : okP x y) (hd1 : -9223372036854775808 ≤ d) (hd2 : d ≤ 9223372036854775807) :
    Calls Tryd.prog 74 #[pt x y, .int .i64 d] w fun e w' => e = .returned (pt (rotX x y d) (rotY x y d)) ∧ Below w.heap.size w w' := by
  have HA := Lib.hid (at1r w x y 89)
  have HB0 := Lib.hid (below_box2 w (.cells #[.int .i64 x, .int .i64 y] 89) (.cells #[.int .i64 0, .int .i64 0] 89))
  have H0 := Lib.hid (show w.heap.size ≤ w.heap.size + 1 by omega)
  have HX := Lib.hid (rotX_in (d := d) hp)
  have HY := Lib.hid (rotY_in (d := d) hp)
  go_enter Tryd.func74, Tryd.ntmps74
  go_wp2_with fail
  refine (specSine d _ hd1 hd2).mono ?_
  rintro e w1 ⟨rfl, B1⟩
  go_wp2_with fail
  refine (specCosine d _ hd1 hd2).mono ?_
  rintro e w2 ⟨rfl, B2⟩
  have HB := Lib.hid ((below_call (below_call HB0.out B1) B2).drew)
  obtain ⟨v1, v2, v3⟩ := (HA.out.1.next B1).next B2.drew
  obtain ⟨⟨v7, v8, v9⟩, z1, z2⟩ := (HA.out.2.next B1).next B2.drew
  have HC := Lib.hid (show cosV d = sinV (deg d + 90) from rfl)
  obtain ⟨c0, c1⟩ := cosV_bd d
  obtain ⟨s0, s1⟩ := sinV_bd d
  rw [HC.out] at c0 c1
  rw [HC.out] at HX HY
  clear HC
  generalize sinV (deg d + 90) = c at *
  generalize sinV d = s at *
  obtain ⟨h1, h2, h3, h4⟩ := hp
  obtain ⟨p1, p2⟩ := prod_bd h1 h2 c0 c1
  obtain ⟨p3, p4⟩ := prod_bd h3 h4 s0 s1
  obtain ⟨p5, p6⟩ := prod_bd h1 h2 s0 s1
  obtain ⟨p7, p8⟩ := prod_bd h3 h4 c0 c1
  have o1 : IntKind.i64.wrap (x * c) = x * c := wrap_in (by omega) (by omega)
  have o2 : IntKind.i64.wrap (y * s) = y * s := wrap_in (by omega) (by omega)
  have o3 : IntKind.i64.wrap (x * s) = x * s := wrap_in (by omega) (by omega)
  have o4 : IntKind.i64.wrap (y * c) = y * c := wrap_in (by omega) (by omega)
  have o5 : IntKind.i64.wrap (x * c - y * s) = x * c - y * s := wrap_in (by omega) (by omega)
  have o6 : IntKind.i64.wrap (x * s + y * c) = x * s + y * c := wrap_in (by omega) (by omega)
  clear B1 B2
  go_wp2
  refine wp_region_still_tail 21 (by kernel_rfl) (by kernel_rfl) ?_
  simp only [List.take_succ_cons, List.take_zero, List.drop_succ_cons, List.drop_zero]
  change wpStill _ _ w2.drew (fun a' => wpList _ _ _ _ a' w2.drew) _ _
  generalize w2.drew = w3 at *
  repeat still_step
  still_call (stillOf (l1Round (x * c - y * s) w3 (by omega) (by omega)))
  repeat still_step
  still_call (stillOf (l1Round (x * s + y * c) w3 (by omega) (by omega)))
  repeat still_step
  refine wpStill_nil ?_
  go_wp2
  exact bodyPost_ret (v := pt (rnd (x * c - y * s)) (rnd (x * s + y * c))) (by simp [results, Tryd.results74, go_sem, v8, v9]) rfl ⟨pt_eq HX.out.symm HY.out.symm, below_set HB.out H0.out _ _⟩
end Go.Proofs.YtkogoflcacameaaDoor
