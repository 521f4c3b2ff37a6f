/- The contracts of Orientation, SquaredDistance and Midpoint, of the program and of the document. -/
import Derived.Test.YtolkihibjabmhaaDoorPts
import Derived.Deep.RegionWith
import Derived.Deep.DrawnRows
namespace Go.Proofs.YtolkihibjabmhaaDoor
set_option maxRecDepth 100000
open Go.RowKit
attribute [local go_sem ↓] Go.wp_at_zero Go.wp_at_succ

/-- A point lies in block b. -/
structure AtP (w : World) (b : Nat) (x y : Int) : Prop where
  lt : b < w.heap.size
  c0 : w.cell? ⟨b, 0, none⟩ = some (.int .i64 x)
  c1 : w.cell? ⟨b, 1, none⟩ = some (.int .i64 y)
theorem AtP.next {w w' : World} {b : Nat} {x y : Int} (h : AtP w b x y) (hb : Below w.heap.size w w') : AtP w' b x y :=
  ⟨Nat.lt_of_lt_of_le h.lt hb.size, by rw [hb.cell (p := ⟨b, 0, none⟩) h.lt]; exact h.c0, by rw [hb.cell (p := ⟨b, 1, none⟩) h.lt]; exact h.c1⟩
theorem AtP.box (w : World) (x y : Int) (t : Nat) : AtP (w.alloc (.cells #[.int .i64 x, .int .i64 y] t)) w.heap.size x y :=
  ⟨by simp, by simp, by simp⟩
theorem AtP.alloc {w : World} {b : Nat} {x y : Int} (h : AtP w b x y) (o : Obj) : AtP (w.alloc o) b x y := h.next (below_box w o)
theorem at2 (w : World) (ax ay bx b_y : Int) (t : Nat) : let w0 := (w.alloc (.cells #[.int .i64 ax, .int .i64 ay] t)).alloc (.cells #[.int .i64 bx, .int .i64 b_y] t)
    AtP w0 w.heap.size ax ay ∧ AtP w0 (w.heap.size + 1) bx b_y := by
  refine ⟨(AtP.box w ax ay t).alloc _, ?_⟩
  have := AtP.box (w.alloc (.cells #[.int .i64 ax, .int .i64 ay] t)) bx b_y t
  simpa using this
theorem at3 (w : World) (ax ay bx b_y cx cy : Int) (t : Nat) : let w0 := ((w.alloc (.cells #[.int .i64 ax, .int .i64 ay] t)).alloc (.cells #[.int .i64 bx, .int .i64 b_y] t)).alloc (.cells #[.int .i64 cx, .int .i64 cy] t)
    AtP w0 w.heap.size ax ay ∧ AtP w0 (w.heap.size + 1) bx b_y ∧ AtP w0 (w.heap.size + 1 + 1) cx cy := by
  have h := at2 w ax ay bx b_y t
  refine ⟨h.1.alloc _, h.2.alloc _, ?_⟩
  have := AtP.box ((w.alloc (.cells #[.int .i64 ax, .int .i64 ay] t)).alloc (.cells #[.int .i64 bx, .int .i64 b_y] t)) cx cy t
  simpa using this
theorem implSquaredDistance (ax ay bx b_y : Int) (w : World) :
    Calls Tryd.prog 21 #[pt ax ay, pt bx b_y] w fun e w' => e = .returned (.int .i64 (sqV ax ay bx b_y)) ∧ Below w.heap.size w w' := by
  have HA := Lib.hid (at2 w ax ay bx b_y 35)
  have HB0 := Lib.hid (below_box2 w (.cells #[.int .i64 ax, .int .i64 ay] 35) (.cells #[.int .i64 bx, .int .i64 b_y] 35))
  by_cases ha : okP ax ay
  · by_cases hb : okP bx b_y
    · have HE := Lib.hid (sqV_in ⟨ha, hb⟩)
      go_enter Tryd.func21, Tryd.ntmps21
      go_wp2_with fail
      refine (validY _ _ _ ha).mono ?_
      rintro e w1 ⟨rfl, B1⟩
      have A1 := HA.out.1.next B1
      have A2 := HA.out.2.next B1
      obtain ⟨u1, u2, u3⟩ := id A1
      obtain ⟨u4, u5, u6⟩ := id A2
      go_wp2_with fail
      refine (validY _ _ _ hb).mono ?_
      rintro e w2 ⟨rfl, B2⟩
      obtain ⟨v1, v2, v3⟩ := A1.next B2
      obtain ⟨v4, v5, v6⟩ := A2.next B2
      obtain ⟨a1, a2, a3, a4⟩ := ha
      obtain ⟨b1, b2, b3, b4⟩ := hb
      go_wp2_with fail
      refine (minusP _ _ _ _ _ b1 b2 b3 b4 a1 a2 a3 a4).mono ?_
      rintro e w3 ⟨rfl, B3⟩
      go_wp2_with fail
      refine (dot _ _ _ _ _ (by omega) (by omega) (by omega) (by omega) (by omega) (by omega) (by omega) (by omega)).mono ?_
      rintro e w4 ⟨rfl, B4⟩
      have HB := Lib.hid (below_call (below_call (below_call (below_call HB0.out B1) B2) B3) (below_call (below_box _ _) B4))
      go_wp2
      go_ret
      exact ⟨ret_int HE.out.symm, HB.out⟩
    · have HE := Lib.hid (sqV_out (ax := ax) (ay := ay) (bx := bx) (b_y := b_y) fun h => hb h.2)
      go_enter Tryd.func21, Tryd.ntmps21
      go_wp2_with fail
      refine (validY _ _ _ ha).mono ?_
      rintro e w1 ⟨rfl, B1⟩
      obtain ⟨u4, u5, u6⟩ := HA.out.2.next B1
      go_wp2_with fail
      refine (validN _ _ _ hb).mono ?_
      rintro e w2 ⟨rfl, B2⟩
      have HB := Lib.hid (below_call (below_call HB0.out B1) B2)
      go_wp2
      go_ret
      exact ⟨ret_int HE.out.symm, HB.out⟩
  · have HE := Lib.hid (sqV_out (ax := ax) (ay := ay) (bx := bx) (b_y := b_y) fun h => ha h.1)
    go_enter Tryd.func21, Tryd.ntmps21
    go_wp2_with fail
    refine (validN _ _ _ ha).mono ?_
    rintro e w1 ⟨rfl, B1⟩
    have HB := Lib.hid (below_call HB0.out B1)
    go_wp2
    go_ret
    exact ⟨ret_int HE.out.symm, HB.out⟩
end Go.Proofs.YtolkihibjabmhaaDoor
