/- The table of sines of the document: what it holds, and the contract of the function that returns it. -/
import Derived.Test.YtolkihibjabmhaaDoorBase
import Derived.Test.YtolkihibjabmhaaDoorNumS
import Derived.Below
import Derived.Deep.WholeRow
import Derived.Great.BuildSlice
namespace Go.Proofs.YtolkihibjabmhaaDoor
set_option maxRecDepth 100000
open Go.RowKit
def zs91 : Array Value := Array.replicate 91 (.int .i64 0)
def tab91 : Array Value := (tabZ.map (Value.int .i64)).toArray
theorem zero91 (w : World) : (zeroValue 115).run Tryd.prog w = .ok (.agg zs91) w := by kernel_rfl
theorem size91 : (Tryd.prog.info? 115).map (·.size) = some tab91.size := by kernel_rfl
theorem same91 : zs91.size = tab91.size := by decide
theorem one91 : tab91.all (·.oneCell') = true := by decide +kernel
theorem tab91_at (n : Nat) (h : n ≤ 90) : tab91[n]? = some (.int .i64 (sinT n)) := by
  have hl : n < tabZ.length := by have : tabZ.length = 91 := by decide
                                  omega
  unfold tab91 sinT
  rw [List.getElem?_toArray, List.getElem?_map, List.getD_eq_getElem?_getD, List.getElem?_eq_getElem hl]; rfl
set_option maxRecDepth 100000 in
set_option maxHeartbeats 400000 in
theorem l1Table (w : World) :
    Calls Tryd.prog 107 #[] w fun e w' => e = .returned (.agg tab91) ∧ w' = w.alloc (.cells tab91 115) := by
  have hz := zero91
  have hst := fun W : World => run_storeCells_new (P := Tryd.prog) W 115 zs91 tab91 size91 same91 one91
  have hld := fun W : World => run_loadVar_new (P := Tryd.prog) W 115 tab91 91 3 Tryd.underlying115 size91
  have hsz : tab91.size = 91 := by decide
  go_enter Tryd.func107, Tryd.ntmps107
  go_wp2_with (refine wpList_buildTo (by rfl) 115 _ (by rfl) (some 1) (by rfl) tab91 (by kernel_rfl) ?_)
  exact bodyPost_ret (v := .agg tab91) (by simp [results, Tryd.results107, asAddr, hld]) rfl ⟨rfl, rfl⟩
theorem l1Table' (w : World) : Calls Tryd.prog 107 #[] w fun e w' => e = .returned (.agg tab91) ∧ Below w.heap.size w w' :=
  (l1Table w).mono fun _ _ ⟨he, hw⟩ => ⟨he, hw ▸ (Below.refl _ _).alloc (Nat.le_refl _) _⟩
/-- The program's table of sines, as it lies in memory. -/
def TabAt (w : World) : Prop := ∀ n, n ≤ 90 → w.cell? ⟨0, n, none⟩ = some (.int .i64 (sinT n))
theorem TabAt.below {w w' : World} {B : Nat} (h : TabAt w) (hb : Below B w w') (hB : 0 < B) : TabAt w' := fun n hn => by
  rw [hb.cell (p := ⟨0, n, none⟩) hB]; exact h n hn
theorem TabAt.lt {w : World} (h : TabAt w) : 0 < w.heap.size := World.block_lt_of_cell? w _ (h 0 (by omega))
theorem sine (d : Int) (w : World) (ht : TabAt w) (h1 : -9223372036854775808 ≤ d) (h2 : d ≤ 9223372036854775807) :
    Calls Tryd.prog 115 #[.int .i64 d] w fun e w' => e = .returned (.int .i64 (sinV d)) ∧ w = w' := by
  have d0 := deg_lo d
  have d1 := deg_hi d
  by_cases c1 : deg d ≤ 90
  · have HV := Lib.hid (sinV_1 d c1)
    have hc := ht (deg d).toNat (by omega)
    clear ht
    go_enter Tryd.func115, Tryd.ntmps115
    go_wp2_with fail
    refine (reduced d _ h1 h2).mono ?_
    rintro e w' ⟨rfl, rfl⟩
    go_wp2
    go_ret
    exact ⟨ret_int HV.out, rfl⟩
  · by_cases c2 : deg d ≤ 180
    · have HV := Lib.hid (sinV_2 d c1 c2)
      have hc := ht (180 - deg d).toNat (by omega)
      clear ht
      go_enter Tryd.func115, Tryd.ntmps115
      go_wp2_with fail
      refine (reduced d _ h1 h2).mono ?_
      rintro e w' ⟨rfl, rfl⟩
      go_wp2
      go_ret
      exact ⟨ret_int HV.out, rfl⟩
    · by_cases c3 : deg d ≤ 270
      · have HV := Lib.hid (sinV_3 d c1 c2 c3)
        have hc := ht (deg d - 180).toNat (by omega)
        obtain ⟨b0, b1⟩ := sinT_bd (deg d - 180).toNat
        clear ht
        go_enter Tryd.func115, Tryd.ntmps115
        go_wp2_with fail
        refine (reduced d _ h1 h2).mono ?_
        rintro e w' ⟨rfl, rfl⟩
        go_wp2
        go_ret
        exact ⟨ret_int HV.out, rfl⟩
      · have HV := Lib.hid (sinV_4 d c1 c2 c3)
        have hc := ht (360 - deg d).toNat (by omega)
        obtain ⟨b0, b1⟩ := sinT_bd (360 - deg d).toNat
        clear ht
        go_enter Tryd.func115, Tryd.ntmps115
        go_wp2_with fail
        refine (reduced d _ h1 h2).mono ?_
        rintro e w' ⟨rfl, rfl⟩
        go_wp2
        go_ret
        exact ⟨ret_int HV.out, rfl⟩
theorem implSine (d : Int) (w : World) (ht : TabAt w) (h1 : -9223372036854775808 ≤ d) (h2 : d ≤ 9223372036854775807) :
    Calls Tryd.prog 111 #[.int .i64 d] w fun e w' => e = .returned (.int .i64 (sinV d)) ∧ w = w' := by
  go_enter Tryd.func111, Tryd.ntmps111
  go_wp2_with fail
  refine (sine d _ ht h1 h2).mono ?_
  rintro e w' ⟨rfl, rfl⟩
  go_wp2
  go_ret
  exact ⟨rfl, rfl⟩
theorem implCosine (d : Int) (w : World) (ht : TabAt w) (h1 : -9223372036854775808 ≤ d) (h2 : d ≤ 9223372036854775807) :
    Calls Tryd.prog 110 #[.int .i64 d] w fun e w' => e = .returned (.int .i64 (sinV (deg d + 90))) ∧ w = w' := by
  have d0 := deg_lo (deg d + deg 90)
  have d1 := deg_hi (deg d + deg 90)
  have HE := Lib.hid (show sinV (deg (deg d + deg 90)) = sinV (deg d + 90) by
    rw [show deg 90 = 90 from rfl]; unfold sinV; rw [show deg (deg (deg d + 90)) = deg (deg d + 90) by unfold deg; omega])
  go_enter Tryd.func110, Tryd.ntmps110
  go_wp2_with fail
  refine (plus d 90 _ h1 h2 (by omega) (by omega)).mono ?_
  rintro e w' ⟨rfl, rfl⟩
  go_wp2_with fail
  refine (sine _ _ ht (by omega) (by omega)).mono ?_
  rintro e w' ⟨rfl, rfl⟩
  go_wp2
  go_ret
  exact ⟨ret_int HE.out, rfl⟩
set_option maxHeartbeats 400000 in
theorem specSine (d : Int) (w : World) (h1 : -9223372036854775808 ≤ d) (h2 : d ≤ 9223372036854775807) :
    Calls Tryd.prog 99 #[.int .i64 d] w fun e w' => e = .returned (.int .i64 (sinV d)) ∧ Below w.heap.size w w' := by
  have d0 := deg_lo d
  have d1 := deg_hi d
  have hz := zero91
  have hst := fun W : World => run_storeCells_new (P := Tryd.prog) W 115 zs91 tab91 size91 same91 one91
  have hsz : tab91.size = 91 := by decide
  by_cases c1 : deg d ≤ 90
  · have HV := Lib.hid (sinV_1 d c1)
    have hc := tab91_at (deg d).toNat (by omega)
    go_enter Tryd.func99, Tryd.ntmps99
    go_wp2_with fail
    refine (specDegrees d _ h1 h2).mono ?_
    rintro e w' ⟨rfl, rfl⟩
    go_wp2_with fail
    refine (l1Table' _).mono ?_
    rintro e w1 ⟨rfl, hb⟩
    go_wp2
    go_ret
    exact ⟨ret_int HV.out, hb.alloc hb.size _⟩
  · by_cases c2 : deg d ≤ 180
    · have HV := Lib.hid (sinV_2 d c1 c2)
      have hc := tab91_at (180 - deg d).toNat (by omega)
      go_enter Tryd.func99, Tryd.ntmps99
      go_wp2_with fail
      refine (specDegrees d _ h1 h2).mono ?_
      rintro e w' ⟨rfl, rfl⟩
      go_wp2_with fail
      refine (l1Table' _).mono ?_
      rintro e w1 ⟨rfl, hb⟩
      go_wp2
      go_ret
      exact ⟨ret_int HV.out, hb.alloc hb.size _⟩
    · by_cases c3 : deg d ≤ 270
      · have HV := Lib.hid (sinV_3 d c1 c2 c3)
        have hc := tab91_at (deg d - 180).toNat (by omega)
        obtain ⟨b0, b1⟩ := sinT_bd (deg d - 180).toNat
        go_enter Tryd.func99, Tryd.ntmps99
        go_wp2_with fail
        refine (specDegrees d _ h1 h2).mono ?_
        rintro e w' ⟨rfl, rfl⟩
        go_wp2_with fail
        refine (l1Table' _).mono ?_
        rintro e w1 ⟨rfl, hb⟩
        go_wp2
        go_ret
        exact ⟨ret_int HV.out, hb.alloc hb.size _⟩
      · have HV := Lib.hid (sinV_4 d c1 c2 c3)
        have hc := tab91_at (360 - deg d).toNat (by omega)
        obtain ⟨b0, b1⟩ := sinT_bd (360 - deg d).toNat
        go_enter Tryd.func99, Tryd.ntmps99
        go_wp2_with fail
        refine (specDegrees d _ h1 h2).mono ?_
        rintro e w' ⟨rfl, rfl⟩
        go_wp2_with fail
        refine (l1Table' _).mono ?_
        rintro e w1 ⟨rfl, hb⟩
        go_wp2
        go_ret
        exact ⟨ret_int HV.out, hb.alloc hb.size _⟩
theorem specCosine (d : Int) (w : World) (h1 : -9223372036854775808 ≤ d) (h2 : d ≤ 9223372036854775807) :
    Calls Tryd.prog 100 #[.int .i64 d] w fun e w' => e = .returned (.int .i64 (sinV (deg d + 90))) ∧ Below w.heap.size w w' := by
  have d0 := deg_lo d
  have d1 := deg_hi d
  go_enter Tryd.func100, Tryd.ntmps100
  go_wp2_with fail
  refine (specDegrees d _ h1 h2).mono ?_
  rintro e w' ⟨rfl, rfl⟩
  go_wp2_with fail
  refine (specSine _ _ (by omega) (by omega)).mono ?_
  rintro e w1 ⟨rfl, hb⟩
  go_wp2
  go_ret
  exact ⟨rfl, hb⟩
end Go.Proofs.YtolkihibjabmhaaDoor
