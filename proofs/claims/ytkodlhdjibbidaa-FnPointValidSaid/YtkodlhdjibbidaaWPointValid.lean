/- The walk of the law FnPointValid: it returns true at every code. -/
import Derived.Test.YtkodlhdjibbidaaDraw2b
namespace Go.Proofs.Ytkodlhdjibbidaa
open Go.RowKit
attribute [local go_sem ↓] Go.wp_at_zero Go.wp_at_succ
theorem walkFnPointValid (w : World) (a : Option Addr) (len cap : Nat) (zs : List Int) (h : Bytes w a len cap zs) :
    Calls Try.prog 3 #[.slice a len cap] w fun e w' => e = .returned (.bool true) ∧ Below w.heap.size w w' := by
  have hle := h.len_le
  obtain ⟨hl, hm⟩ := hle
  unfold maxLen at hm
  by_cases hbig : 1048576 < len
  · go_enter Try.func3, Try.ntmps3
    go_wp2
    go_ret
    exact ⟨rfl, Below.refl _ _⟩
  · go_enter Try.func3, Try.ntmps3
    go_wp2_with fail
    refine (drawPointValid w a len cap zs h).mono ?_
    rintro e w0 ⟨x, y, hx, hy, rfl, hb⟩
    clear h hl hm hbig
    obtain ⟨x0, x1⟩ := hx
    obtain ⟨y0, y1⟩ := hy
    have hp3 : ¬ okP x 10001 := by unfold okP; omega
    have hp4 : okP 0 0 := by unfold okP; omega
    by_cases hp : okP x y
    · have hp1 : okP y x := by unfold okP at *; omega
      have hp2 : okP (-x) (-y) := by unfold okP at *; omega
      have HB := Lib.hid (hb.alloc hb.size (.cells #[.int .i64 x, .int .i64 y] 24))
      have P := AtP.box w0 x y 24
      obtain ⟨p1, p2, p3⟩ := id P
      clear hb
      go_wp2_with fail
      refine (implPointValidY x y _ hp).mono ?_
      rintro e w1 ⟨rfl, B1⟩
      replace HB := Lib.hid (below_call HB.out B1)
      clear p1 p2 p3
      replace P := P.next B1
      obtain ⟨p1, p2, p3⟩ := id P
      clear B1
      go_wp2_with fail
      refine (specPointValidY x y _ hp).mono ?_
      rintro e w2 ⟨rfl, B2⟩
      replace HB := Lib.hid (below_call HB.out B2)
      clear p1 p2 p3
      replace P := P.next B2
      obtain ⟨p1, p2, p3⟩ := id P
      clear B2
      go_wp2_with fail
      refine (implPointValidY y x _ hp1).mono ?_
      rintro e w3 ⟨rfl, B3⟩
      replace HB := Lib.hid (below_call HB.out B3)
      clear p1 p2 p3
      replace P := P.next B3
      obtain ⟨p1, p2, p3⟩ := id P
      clear B3
      go_wp2_with fail
      refine (implPointValidY (-x) (-y) _ hp2).mono ?_
      rintro e w4 ⟨rfl, B4⟩
      replace HB := Lib.hid (below_call HB.out B4)
      clear p1 p2 p3
      replace P := P.next B4
      obtain ⟨p1, p2, p3⟩ := id P
      clear B4
      go_wp2_with fail
      refine (implPointValidN x 10001 _ hp3).mono ?_
      rintro e w5 ⟨rfl, B5⟩
      replace HB := Lib.hid (below_call HB.out B5)
      clear p1 p2 p3
      replace P := P.next B5
      obtain ⟨p1, p2, p3⟩ := id P
      clear B5
      go_wp2_with fail
      refine (implPointValidY 0 0 _ hp4).mono ?_
      rintro e w6 ⟨rfl, B6⟩
      replace HB := Lib.hid (below_call HB.out B6)
      clear p1 p2 p3
      replace P := P.next B6
      obtain ⟨p1, p2, p3⟩ := id P
      clear B6
      go_wp2
      go_ret
      exact ⟨rfl, HB.out⟩
    · have hp1 : ¬ okP y x := by unfold okP at *; omega
      have hp2 : ¬ okP (-x) (-y) := by unfold okP at *; omega
      have HB := Lib.hid (hb.alloc hb.size (.cells #[.int .i64 x, .int .i64 y] 24))
      have P := AtP.box w0 x y 24
      obtain ⟨p1, p2, p3⟩ := id P
      clear hb
      go_wp2_with fail
      refine (implPointValidN x y _ hp).mono ?_
      rintro e w1 ⟨rfl, B1⟩
      replace HB := Lib.hid (below_call HB.out B1)
      clear p1 p2 p3
      replace P := P.next B1
      obtain ⟨p1, p2, p3⟩ := id P
      clear B1
      go_wp2_with fail
      refine (specPointValidN x y _ hp).mono ?_
      rintro e w2 ⟨rfl, B2⟩
      replace HB := Lib.hid (below_call HB.out B2)
      clear p1 p2 p3
      replace P := P.next B2
      obtain ⟨p1, p2, p3⟩ := id P
      clear B2
      go_wp2_with fail
      refine (implPointValidN y x _ hp1).mono ?_
      rintro e w3 ⟨rfl, B3⟩
      replace HB := Lib.hid (below_call HB.out B3)
      clear p1 p2 p3
      replace P := P.next B3
      obtain ⟨p1, p2, p3⟩ := id P
      clear B3
      go_wp2_with fail
      refine (implPointValidN (-x) (-y) _ hp2).mono ?_
      rintro e w4 ⟨rfl, B4⟩
      replace HB := Lib.hid (below_call HB.out B4)
      clear p1 p2 p3
      replace P := P.next B4
      obtain ⟨p1, p2, p3⟩ := id P
      clear B4
      go_wp2_with fail
      refine (implPointValidN x 10001 _ hp3).mono ?_
      rintro e w5 ⟨rfl, B5⟩
      replace HB := Lib.hid (below_call HB.out B5)
      clear p1 p2 p3
      replace P := P.next B5
      obtain ⟨p1, p2, p3⟩ := id P
      clear B5
      go_wp2_with fail
      refine (implPointValidY 0 0 _ hp4).mono ?_
      rintro e w6 ⟨rfl, B6⟩
      replace HB := Lib.hid (below_call HB.out B6)
      clear p1 p2 p3
      replace P := P.next B6
      obtain ⟨p1, p2, p3⟩ := id P
      clear B6
      go_wp2
      go_ret
      exact ⟨rfl, HB.out⟩
end Go.Proofs.Ytkodlhdjibbidaa
