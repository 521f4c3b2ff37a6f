/- The contracts of Orientation, SquaredDistance and Midpoint, of the program and of the document. -/
import Derived.Test.YtcifokihellcdaaDoorPts
import Derived.Deep.RegionWith
import Derived.Deep.DrawnRows
namespace Go.Proofs.YtcifokihellcdaaDoor
set_option maxRecDepth 100000
open Go.RowKit
attribute [local go_sem ↓] Go.wp_at_zero Go.wp_at_succ

/-- A point lies in block b. -/
structure AtP (w : World) (b : Nat) (x y : Int) : Prop where
  lt : b < w.heap.size
  c0 : w.cell? ⟨b, 0, none⟩ = some (.int .i64 x)
  c1 : w.cell? ⟨b, 1, none⟩ = some (.int .i64 y)
theorem AtP.next {w w' : World} {b : Nat} {x y : Int} (h : AtP w b x y) (hb : Below w.heap.size w w') : AtP w' b x y :=
  ⟨Nat.lt_of_lt_of_le h.lt hb.size, by rw [hb.cell (p := ⟨b, 0, none⟩) h.lt]; exact h.c0, by rw [hb.cell (p := ⟨b, 1, none⟩) h.lt]; exact h.c1⟩
theorem AtP.box (w : World) (x y : Int) (t : Nat) : AtP (w.alloc (.cells #[.int .i64 x, .int .i64 y] t)) w.heap.size x y :=
  ⟨by simp, by simp, by simp⟩
theorem AtP.alloc {w : World} {b : Nat} {x y : Int} (h : AtP w b x y) (o : Obj) : AtP (w.alloc o) b x y := h.next (below_box w o)
theorem at2 (w : World) (ax ay bx b_y : Int) (t : Nat) : let w0 := (w.alloc (.cells #[.int .i64 ax, .int .i64 ay] t)).alloc (.cells #[.int .i64 bx, .int .i64 b_y] t)
    AtP w0 w.heap.size ax ay ∧ AtP w0 (w.heap.size + 1) bx b_y := by
  refine ⟨(AtP.box w ax ay t).alloc _, ?_⟩
  have := AtP.box (w.alloc (.cells #[.int .i64 ax, .int .i64 ay] t)) bx b_y t
  simpa using this
theorem at3 (w : World) (ax ay bx b_y cx cy : Int) (t : Nat) : let w0 := ((w.alloc (.cells #[.int .i64 ax, .int .i64 ay] t)).alloc (.cells #[.int .i64 bx, .int .i64 b_y] t)).alloc (.cells #[.int .i64 cx, .int .i64 cy] t)
    AtP w0 w.heap.size ax ay ∧ AtP w0 (w.heap.size + 1) bx b_y ∧ AtP w0 (w.heap.size + 1 + 1) cx cy := by
  have h := at2 w ax ay bx b_y t
  refine ⟨h.1.alloc _, h.2.alloc _, ?_⟩
  have := AtP.box ((w.alloc (.cells #[.int .i64 ax, .int .i64 ay] t)).alloc (.cells #[.int .i64 bx, .int .i64 b_y] t)) cx cy t
  simpa using this
theorem specOrientation (ax ay bx b_y cx cy : Int) (w : World) :
    Calls Tryd.prog 64 #[pt ax ay, pt bx b_y, pt cx cy] w fun e w' => e = .returned (.int .i64 (oriV ax ay bx b_y cx cy)) ∧ Below w.heap.size w w' := by
  have HA := Lib.hid (at3 w ax ay bx b_y cx cy 34)
  have HB0 := Lib.hid (below_box3 w (.cells #[.int .i64 ax, .int .i64 ay] 34) (.cells #[.int .i64 bx, .int .i64 b_y] 34) (.cells #[.int .i64 cx, .int .i64 cy] 34))
  by_cases ha : okP ax ay
  · by_cases hb : okP bx b_y
    · by_cases hc : okP cx cy
      · have HE := Lib.hid (oriV_in ⟨ha, hb, hc⟩)
        go_enter Tryd.func64, Tryd.ntmps64
        go_wp2_with fail
        refine (specPointValidY _ _ _ ha).mono ?_
        rintro e w1 ⟨rfl, B1⟩
        have A1 := HA.out.1.next B1
        have A2 := HA.out.2.1.next B1
        have A3 := HA.out.2.2.next B1
        obtain ⟨u1, u2, u3⟩ := id A1
        obtain ⟨u4, u5, u6⟩ := id A2
        obtain ⟨u7, u8, u9⟩ := id A3
        go_wp2_with fail
        refine (specPointValidY _ _ _ hb).mono ?_
        rintro e w2 ⟨rfl, B2⟩
        have C1 := A1.next B2
        have C2 := A2.next B2
        have C3 := A3.next B2
        obtain ⟨v1, v2, v3⟩ := id C1
        obtain ⟨v4, v5, v6⟩ := id C2
        obtain ⟨v7, v8, v9⟩ := id C3
        go_wp2_with fail
        refine (specPointValidY _ _ _ hc).mono ?_
        rintro e w3 ⟨rfl, B3⟩
        obtain ⟨x1, x2, x3⟩ := C1.next B3
        obtain ⟨x4, x5, x6⟩ := C2.next B3
        obtain ⟨x7, x8, x9⟩ := C3.next B3
        go_wp2_with fail
        refine (l2Cross _ _ _ _ _ _ _ ha hb hc).mono ?_
        rintro e w4 ⟨rfl, B4⟩
        have HB := Lib.hid (below_call (below_call (below_call (below_call HB0.out B1) B2) B3) B4)
        go_wp2_with fail
        refine (l2Sign _ _).mono ?_
        rintro e w' ⟨rfl, rfl⟩
        go_wp2
        go_ret
        exact ⟨ret_int HE.out.symm, HB.out⟩
      · have HE := Lib.hid (oriV_out (ax := ax) (ay := ay) (bx := bx) (b_y := b_y) (cx := cx) (cy := cy) fun h => hc h.2.2)
        go_enter Tryd.func64, Tryd.ntmps64
        go_wp2_with fail
        refine (specPointValidY _ _ _ ha).mono ?_
        rintro e w1 ⟨rfl, B1⟩
        have A2 := HA.out.2.1.next B1
        have A3 := HA.out.2.2.next B1
        obtain ⟨u4, u5, u6⟩ := id A2
        obtain ⟨u7, u8, u9⟩ := id A3
        go_wp2_with fail
        refine (specPointValidY _ _ _ hb).mono ?_
        rintro e w2 ⟨rfl, B2⟩
        obtain ⟨v7, v8, v9⟩ := A3.next B2
        go_wp2_with fail
        refine (specPointValidN _ _ _ hc).mono ?_
        rintro e w3 ⟨rfl, B3⟩
        have HB := Lib.hid (below_call (below_call (below_call HB0.out B1) B2) B3)
        go_wp2
        go_ret
        exact ⟨ret_int HE.out.symm, HB.out⟩
    · have HE := Lib.hid (oriV_out (ax := ax) (ay := ay) (bx := bx) (b_y := b_y) (cx := cx) (cy := cy) fun h => hb h.2.1)
      go_enter Tryd.func64, Tryd.ntmps64
      go_wp2_with fail
      refine (specPointValidY _ _ _ ha).mono ?_
      rintro e w1 ⟨rfl, B1⟩
      obtain ⟨u4, u5, u6⟩ := HA.out.2.1.next B1
      go_wp2_with fail
      refine (specPointValidN _ _ _ hb).mono ?_
      rintro e w2 ⟨rfl, B2⟩
      have HB := Lib.hid (below_call (below_call HB0.out B1) B2)
      go_wp2
      go_ret
      exact ⟨ret_int HE.out.symm, HB.out⟩
  · have HE := Lib.hid (oriV_out (ax := ax) (ay := ay) (bx := bx) (b_y := b_y) (cx := cx) (cy := cy) fun h => ha h.1)
    go_enter Tryd.func64, Tryd.ntmps64
    go_wp2_with fail
    refine (specPointValidN _ _ _ ha).mono ?_
    rintro e w1 ⟨rfl, B1⟩
    have HB := Lib.hid (below_call HB0.out B1)
    go_wp2
    go_ret
    exact ⟨ret_int HE.out.symm, HB.out⟩
theorem minusR (px py qx qy : Int) (w0 w : World) (hw : Below w0.heap.size w0 w) (h1 : -10000 ≤ px) (h2 : px ≤ 10000) (h3 : -10000 ≤ py) (h4 : py ≤ 10000) (h5 : -10000 ≤ qx) (h6 : qx ≤ 10000) (h7 : -10000 ≤ qy) (h8 : qy ≤ 10000) :
    Calls Tryd.prog 105 #[pt px py, pt qx qy] w fun e w' => e = .returned (pt (px - qx) (py - qy)) ∧ Below w0.heap.size w0 w' :=
  (minusP px py qx qy w h1 h2 h3 h4 h5 h6 h7 h8).mono fun _ _ ⟨he, hb⟩ => ⟨he, below_call hw hb⟩
theorem crossR (px py qx qy : Int) (w0 w : World) (hw : Below w0.heap.size w0 w) (h1 : -20000 ≤ px) (h2 : px ≤ 20000) (h3 : -20000 ≤ py) (h4 : py ≤ 20000) (h5 : -20000 ≤ qx) (h6 : qx ≤ 20000) (h7 : -20000 ≤ qy) (h8 : qy ≤ 20000) :
    Calls Tryd.prog 106 #[pt px py, pt qx qy] w fun e w' => e = .returned (.int .i64 (px * qy - py * qx)) ∧ Below w0.heap.size w0 w' :=
  (cross px py qx qy w h1 h2 h3 h4 h5 h6 h7 h8).mono fun _ _ ⟨he, hb⟩ => ⟨he, below_call hw hb⟩
set_option maxHeartbeats 1000000 in
theorem implOrientation (ax ay bx b_y cx cy : Int) (w : World) :
    Calls Tryd.prog 100 #[pt ax ay, pt bx b_y, pt cx cy] w fun e w' => e = .returned (.int .i64 (oriV ax ay bx b_y cx cy)) ∧ Below w.heap.size w w' := by
  have HA := Lib.hid (at3 w ax ay bx b_y cx cy 34)
  have HB0 := Lib.hid (below_box3 w (.cells #[.int .i64 ax, .int .i64 ay] 34) (.cells #[.int .i64 bx, .int .i64 b_y] 34) (.cells #[.int .i64 cx, .int .i64 cy] 34))
  by_cases ha : okP ax ay
  · by_cases hb : okP bx b_y
    · by_cases hc : okP cx cy
      · have HE := Lib.hid (oriV_in ⟨ha, hb, hc⟩)
        go_enter Tryd.func100, Tryd.ntmps100
        go_wp2_with fail
        refine (validY _ _ _ ha).mono ?_
        rintro e w1 ⟨rfl, B1⟩
        have A1 := HA.out.1.next B1
        have A2 := HA.out.2.1.next B1
        have A3 := HA.out.2.2.next B1
        obtain ⟨u1, u2, u3⟩ := id A1
        obtain ⟨u4, u5, u6⟩ := id A2
        obtain ⟨u7, u8, u9⟩ := id A3
        go_wp2_with fail
        refine (validY _ _ _ hb).mono ?_
        rintro e w2 ⟨rfl, B2⟩
        have C1 := A1.next B2
        have C2 := A2.next B2
        have C3 := A3.next B2
        obtain ⟨v1, v2, v3⟩ := id C1
        obtain ⟨v4, v5, v6⟩ := id C2
        obtain ⟨v7, v8, v9⟩ := id C3
        go_wp2_with fail
        refine (validY _ _ _ hc).mono ?_
        rintro e w3 ⟨rfl, B3⟩
        obtain ⟨x1, x2, x3⟩ := C1.next B3
        obtain ⟨x4, x5, x6⟩ := C2.next B3
        obtain ⟨x7, x8, x9⟩ := C3.next B3
        have HB := Lib.hid (below_call (below_call (below_call HB0.out B1) B2) B3)
        clear u1 u2 u3 u4 u5 u6 u7 u8 u9 v1 v2 v3 v4 v5 v6 v7 v8 v9 A1 A2 A3 C1 C2 C3 B1 B2 B3 HA HB0
        obtain ⟨a1, a2, a3, a4⟩ := ha
        obtain ⟨b1, b2, b3, b4⟩ := hb
        obtain ⟨c1, c2, c3, c4⟩ := hc
        have g0 : Below w3.heap.size w3 w3 := Below.refl _ _
        go_wp2
        go_region_with (first
          | (go_at_call_of 106 bx
             refine (crossR _ _ _ _ w3 _ ?_ (by omega) (by omega) (by omega) (by omega) (by omega) (by omega) (by omega) (by omega)).mono ?_
             · repeat (first | (with_reducible assumption) | (with_reducible apply Below.drew))
             rintro e k1 ⟨rfl, K1⟩)
          | (go_at_call_of 104 bx
             refine (compare0 _ _).mono ?_
             rintro e w' ⟨rfl, rfl⟩)
          | (go_at_call_of 105 bx
             refine (minusR _ _ _ _ w3 _ ?_ b1 b2 b3 b4 a1 a2 a3 a4).mono ?_
             · repeat (first | (with_reducible assumption) | (with_reducible apply Below.drew))
             rintro e k2 ⟨rfl, K2⟩
             have t1 := K2.cell (p := ⟨w.heap.size, 0, none⟩) x1
             have t2 := K2.cell (p := ⟨w.heap.size, 1, none⟩) x1
             have t3 := K2.cell (p := ⟨w.heap.size + 1, 0, none⟩) x4
             have t4 := K2.cell (p := ⟨w.heap.size + 1, 1, none⟩) x4
             have t5 := K2.cell (p := ⟨w.heap.size + 1 + 1, 0, none⟩) x7
             have t6 := K2.cell (p := ⟨w.heap.size + 1 + 1, 1, none⟩) x7)
          | (go_at_call_of 105 cx
             refine (minusR _ _ _ _ w3 _ ?_ c1 c2 c3 c4 a1 a2 a3 a4).mono ?_
             · repeat (first | (with_reducible assumption) | (with_reducible apply Below.drew))
             rintro e k3 ⟨rfl, K3⟩
             have s1 := K3.cell (p := ⟨w.heap.size, 0, none⟩) x1
             have s2 := K3.cell (p := ⟨w.heap.size, 1, none⟩) x1
             have s3 := K3.cell (p := ⟨w.heap.size + 1, 0, none⟩) x4
             have s4 := K3.cell (p := ⟨w.heap.size + 1, 1, none⟩) x4
             have s5 := K3.cell (p := ⟨w.heap.size + 1 + 1, 0, none⟩) x7
             have s6 := K3.cell (p := ⟨w.heap.size + 1 + 1, 1, none⟩) x7))
        all_goals
          go_wp2
          go_ret
          refine ⟨ret_int HE.out.symm, below_call HB.out ?_⟩
          repeat (first | (with_reducible assumption) | (with_reducible apply Below.drew))
      · have HE := Lib.hid (oriV_out (ax := ax) (ay := ay) (bx := bx) (b_y := b_y) (cx := cx) (cy := cy) fun h => hc h.2.2)
        go_enter Tryd.func100, Tryd.ntmps100
        go_wp2_with fail
        refine (validY _ _ _ ha).mono ?_
        rintro e w1 ⟨rfl, B1⟩
        have A2 := HA.out.2.1.next B1
        have A3 := HA.out.2.2.next B1
        obtain ⟨u4, u5, u6⟩ := id A2
        obtain ⟨u7, u8, u9⟩ := id A3
        go_wp2_with fail
        refine (validY _ _ _ hb).mono ?_
        rintro e w2 ⟨rfl, B2⟩
        obtain ⟨v7, v8, v9⟩ := A3.next B2
        go_wp2_with fail
        refine (validN _ _ _ hc).mono ?_
        rintro e w3 ⟨rfl, B3⟩
        have HB := Lib.hid (below_call (below_call (below_call HB0.out B1) B2) B3)
        go_wp2
        go_ret
        exact ⟨ret_int HE.out.symm, HB.out⟩
    · have HE := Lib.hid (oriV_out (ax := ax) (ay := ay) (bx := bx) (b_y := b_y) (cx := cx) (cy := cy) fun h => hb h.2.1)
      go_enter Tryd.func100, Tryd.ntmps100
      go_wp2_with fail
      refine (validY _ _ _ ha).mono ?_
      rintro e w1 ⟨rfl, B1⟩
      obtain ⟨u4, u5, u6⟩ := HA.out.2.1.next B1
      go_wp2_with fail
      refine (validN _ _ _ hb).mono ?_
      rintro e w2 ⟨rfl, B2⟩
      have HB := Lib.hid (below_call (below_call HB0.out B1) B2)
      go_wp2
      go_ret
      exact ⟨ret_int HE.out.symm, HB.out⟩
  · have HE := Lib.hid (oriV_out (ax := ax) (ay := ay) (bx := bx) (b_y := b_y) (cx := cx) (cy := cy) fun h => ha h.1)
    go_enter Tryd.func100, Tryd.ntmps100
    go_wp2_with fail
    refine (validN _ _ _ ha).mono ?_
    rintro e w1 ⟨rfl, B1⟩
    have HB := Lib.hid (below_call HB0.out B1)
    go_wp2
    go_ret
    exact ⟨ret_int HE.out.symm, HB.out⟩
end Go.Proofs.YtcifokihellcdaaDoor
