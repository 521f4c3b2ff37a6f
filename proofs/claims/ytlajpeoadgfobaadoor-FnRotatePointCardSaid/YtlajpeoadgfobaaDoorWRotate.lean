/- The walk of the law FnRotatePoint: it returns true at every code, wherever the program's table lies as its text lays it. -/
import Derived.Test.YtlajpeoadgfobaaDoorRot
import Derived.Test.YtlajpeoadgfobaaDoorRoot
import Derived.Test.YtlajpeoadgfobaaDoorDraw2s
import Derived.Test.YtlajpeoadgfobaaDoorLaws1s
import Derived.Deep.RegionHeld3
namespace Go.Proofs.YtlajpeoadgfobaaDoor
set_option maxRecDepth 100000
open Go.RowKit
attribute [local go_sem ↓] Go.wp_at_zero Go.wp_at_succ
theorem keep2 {w u : World} {b1 b2 : Nat} {x1 y1 x2 y2 : Int} (h : Below w.heap.size w u) (A : AtP w b1 x1 y1) (B : AtP w b2 x2 y2) :
    u.cell? ⟨b1, 0, none⟩ = some (.int .i64 x1) ∧ u.cell? ⟨b1, 1, none⟩ = some (.int .i64 y1) ∧ u.cell? ⟨b2, 0, none⟩ = some (.int .i64 x2) ∧ u.cell? ⟨b2, 1, none⟩ = some (.int .i64 y2) :=
  ⟨(A.next h).c0, (A.next h).c1, (B.next h).c0, (B.next h).c1⟩
/-- What the last test of the law compares. -/
theorem len_test {x y d : Int} (hp : okP x y) : let n := rootV (x * x + y * y); let m := rootV (rotX x y d * rotX x y d + rotY x y d * rotY x y d)
    0 ≤ n ∧ n ≤ 20000 ∧ 0 ≤ m ∧ m ≤ 40000 ∧ absV (n - m) ≤ 2 + n.tdiv 1000 ∧ 0 ≤ n.tdiv 1000 ∧ n.tdiv 1000 ≤ 20 := by
  obtain ⟨h1, h2, h3, h4⟩ := id hp
  obtain ⟨⟨r1, r2⟩, r3, r4⟩ := rot_bd x y d
  have a1 := (mul_bd (A := 10000) (B := 10000) h1 h2 h1 h2).2
  have a2 := (mul_bd (A := 10000) (B := 10000) h3 h4 h3 h4).2
  have a3 := (mul_bd (A := 20001) (B := 20001) r1 r2 r1 r2).2
  have a4 := (mul_bd (A := 20001) (B := 20001) r3 r4 r3 r4).2
  have b1 := sq_nn x
  have b2 := sq_nn y
  have b3 := sq_nn (rotX x y d)
  have b4 := sq_nn (rotY x y d)
  intro n m
  have hn : n = root (x * x + y * y) := rootV_in _ (by omega) (by omega)
  have hm : m = root (rotX x y d * rotX x y d + rotY x y d * rotY x y d) := rootV_in _ (by omega) (by omega)
  obtain ⟨l1, l2⟩ := rot_len d hp
  rw [← hn, ← hm] at l1 l2
  have n0 : 0 ≤ n := by rw [hn]; exact root_lo _
  have m0 : 0 ≤ m := by rw [hm]; exact root_lo _
  have n1 : n ≤ 20000 := by rw [hn]; exact root_le _ _ (by omega) (by omega) (by omega)
  have m1 : m ≤ 40000 := by rw [hm]; exact root_le _ _ (by omega) (by omega) (by omega)
  have e : n.tdiv 1000 = n / 1000 := Int.tdiv_eq_ediv_of_nonneg n0
  rw [e]
  refine ⟨n0, n1, m0, m1, absV_le _ _ (by omega) (by omega), by omega, by omega⟩
theorem implRotatePointR (x y d : Int) (w0 w : World) (hw : Below w0.heap.size w0 w) (ht : TabAt w0) (hd1 : -9223372036854775808 ≤ d) (hd2 : d ≤ 9223372036854775807) (u v : Int) (hu : rotX x y d = u) (hv : rotY x y d = v) :
    Calls Tryd.prog 8 #[pt x y, .int .i64 d] w fun e w' => e = .returned (pt u v) ∧ Below w0.heap.size w0 w' := by
  subst hu hv
  exact (implRotatePoint x y d w (ht.below hw ht.lt) hd1 hd2).mono fun _ _ ⟨he, hb⟩ => ⟨he, below_call hw hb⟩
theorem specRotatePointR (x y d : Int) (w0 w : World) (hw : Below w0.heap.size w0 w) (hd1 : -9223372036854775808 ≤ d) (hd2 : d ≤ 9223372036854775807) :
    Calls Tryd.prog 9 #[pt x y, .int .i64 d] w fun e w' => e = .returned (pt (rotX x y d) (rotY x y d)) ∧ Below w0.heap.size w0 w' :=
  (specRotatePoint x y d w hd1 hd2).mono fun _ _ ⟨he, hb⟩ => ⟨he, below_call hw hb⟩
set_option maxHeartbeats 2000000 in
theorem walkFnRotatePoint (w : World) (ht : TabAt w) (a : Option Addr) (len cap : Nat) (zs : List Int) (h : Bytes w a len cap zs) :
    Calls Tryd.prog 3 #[.slice a len cap] w fun e w' => e = .returned (.bool true) ∧ Below w.heap.size w w' := by
  have hle := h.len_le
  obtain ⟨hl, hm⟩ := hle
  unfold maxLen at hm
  have HT := Lib.hid ht
  clear ht
  by_cases hbig : 1048576 < len
  · go_enter Tryd.func3, Tryd.ntmps3
    go_wp2
    go_ret
    exact ⟨rfl, Below.refl _ _⟩
  · go_enter Tryd.func3, Tryd.ntmps3
    go_wp2_with fail
    refine (drawRotatePoint w a len cap zs h).mono ?_
    rintro e w0 ⟨x, y, d, hx, hy, d1, d2, rfl, hb⟩
    obtain ⟨x0, x1⟩ := hx
    obtain ⟨y0, y1⟩ := hy
    have HB := Lib.hid (below_call hb (below_box w0 (.cells #[.int .i64 x, .int .i64 y] 24)))
    have P := AtP.box w0 x y 24
    clear h hl hm hbig hb
    go_wp2_with fail
    refine (implRotatePoint x y d _ (HT.out.below HB.out HT.out.lt) d1 d2).mono ?_
    rintro e w1 ⟨rfl, B1⟩
    replace P := (P.next B1).alloc (.cells #[.int .i64 (rotX x y d), .int .i64 (rotY x y d)] 24)
    have Q := AtP.box w1 (rotX x y d) (rotY x y d) 24
    replace HB := Lib.hid (below_call (below_call HB.out B1) (below_box w1 (.cells #[.int .i64 (rotX x y d), .int .i64 (rotY x y d)] 24)))
    go_wp2
    have g0 := Below.refl (w1.alloc (.cells #[.int .i64 (rotX x y d), .int .i64 (rotY x y d)] 24)).heap.size (w1.alloc (.cells #[.int .i64 (rotX x y d), .int .i64 (rotY x y d)] 24))
    generalize w1.alloc (.cells #[.int .i64 (rotX x y d), .int .i64 (rotY x y d)] 24) = w2 at *
    clear B1
    have e0 : (rotX x y d == rotX x y d) = true := by simp
    have e1 : (rotY x y d == rotY x y d) = true := by simp
    go_region_held3 (fun u => u.cell? ⟨w0.heap.size, 0, none⟩ = some (.int .i64 x) ∧ u.cell? ⟨w0.heap.size, 1, none⟩ = some (.int .i64 y) ∧ u.cell? ⟨w1.heap.size, 0, none⟩ = some (.int .i64 (rotX x y d)) ∧ u.cell? ⟨w1.heap.size, 1, none⟩ = some (.int .i64 (rotY x y d))) (exact keep2 (by repeat (first | (with_reducible assumption) | (with_reducible apply Below.drew))) P Q) (first
      | (go_at_call 9
         refine (specRotatePointR x y d w2 _ (by repeat (first | (with_reducible assumption) | (with_reducible apply Below.drew))) d1 d2).mono ?_
         rintro e w3 ⟨rfl, K3⟩))
    replace P := P.next K3
    replace Q := Q.next K3
    replace HB := Lib.hid (below_call HB.out K3)
    obtain ⟨p1, p2, p3⟩ := id P
    clear K3 g0
    by_cases hp : okP x y
    · obtain ⟨⟨r1, r2⟩, r3, r4⟩ := rot_bd x y d
      obtain ⟨f1, f2⟩ := rot90 hp
      obtain ⟨f3, f4⟩ := rot0 hp
      obtain ⟨t1, t2, t3, t4, t5, t6, t7⟩ := len_test (d := d) hp
      go_wp2_with fail
      refine (specPointValidY x y _ hp).mono ?_
      rintro e w4 ⟨rfl, B4⟩
      replace P := P.next B4
      replace Q := Q.next B4
      replace HB := Lib.hid (below_call HB.out B4)
      clear p1 p2 p3 B4
      obtain ⟨p1, p2, p3⟩ := id P
      obtain ⟨q1, q2, q3⟩ := id Q
      have T4 := HT.out.below HB.out HT.out.lt
      obtain ⟨h1, h2, h3, h4⟩ := hp
      obtain ⟨m1, m2⟩ := mul_bd8 (x := x) (y := x) (by omega) (by omega) (by omega) (by omega)
      obtain ⟨m3, m4⟩ := mul_bd8 (x := y) (y := y) (by omega) (by omega) (by omega) (by omega)
      have M5 := mul_bd (A := 20001) (B := 20001) r1 r2 r1 r2
      have M6 := mul_bd (A := 20001) (B := 20001) r3 r4 r3 r4
      obtain ⟨m5, m6⟩ := M5
      obtain ⟨m7, m8⟩ := M6
      go_wp2_with fail
      refine (implSquareRoot _ _).mono ?_
      rintro e w' ⟨rfl, rfl⟩
      go_wp2_with fail
      refine (implSquareRoot _ _).mono ?_
      rintro e w' ⟨rfl, rfl⟩
      generalize rootV (x * x + y * y) = n at *
      generalize rootV (rotX x y d * rotX x y d + rotY x y d * rotY x y d) = m at *
      have o1 : IntKind.i64.wrap (n - m) = n - m := wrap_in (by omega) (by omega)
      have o2 : IntKind.i64.wrap (n.tdiv 1000) = n.tdiv 1000 := wrap_in (by omega) (by omega)
      have o3 : IntKind.i64.wrap (2 + n.tdiv 1000) = 2 + n.tdiv 1000 := wrap_in (by omega) (by omega)
      have o4 : IntKind.i64.wrap (-y) = -y := wrap_in (by omega) (by omega)
      have o5 : (x == x) = true := by simp
      have o6 : (y == y) = true := by simp
      have o7 : (-y == -y) = true := by simp
      have g0 : Below w4.heap.size w4 w4 := Below.refl _ _
      go_wp2
      go_region_held3 (fun u => u.cell? ⟨w0.heap.size, 0, none⟩ = some (.int .i64 x) ∧ u.cell? ⟨w0.heap.size, 1, none⟩ = some (.int .i64 y) ∧ u.cell? ⟨w1.heap.size, 0, none⟩ = some (.int .i64 (rotX x y d)) ∧ u.cell? ⟨w1.heap.size, 1, none⟩ = some (.int .i64 (rotY x y d))) (exact keep2 (by repeat (first | (with_reducible assumption) | (with_reducible apply Below.drew))) P Q) (first
        | (go_at_call_of 8 (Value.int IntKind.i64 90)
           refine (implRotatePointR x y 90 w4 _ (by repeat (first | (with_reducible assumption) | (with_reducible apply Below.drew))) T4 (by omega) (by omega) (-y) x f1 f2).mono ?_
           rintro e k1 ⟨rfl, K1⟩)
        | (go_at_call_of 8 (Value.int IntKind.i64 0)
           refine (implRotatePointR x y 0 w4 _ (by repeat (first | (with_reducible assumption) | (with_reducible apply Below.drew))) T4 (by omega) (by omega) x y f3 f4).mono ?_
           rintro e k2 ⟨rfl, K2⟩)
        | (go_at_call 13
           refine (abs_ _ _ (by omega) (by omega)).mono ?_
           rintro e w' ⟨rfl, rfl⟩))
      all_goals
        replace HB := Lib.hid (below_call HB.out K2)
        go_wp2
        go_ret
        exact ⟨rfl, HB.out⟩
    · have z1 : rotX x y d = 0 := rotX_out hp
      have z2 : rotY x y d = 0 := rotY_out hp
      rw [z1, z2] at Q
      clear e0 e1
      rw [z1, z2]
      go_wp2_with fail
      refine (specPointValidN x y _ hp).mono ?_
      rintro e w4 ⟨rfl, B4⟩
      obtain ⟨q1, q2, q3⟩ := Q.next B4
      replace HB := Lib.hid (below_call HB.out B4)
      clear p1 p2 p3 B4
      go_wp2_with fail
      refine (alive _).mono ?_
      rintro e w' ⟨rfl, rfl⟩
      go_wp2
      go_ret
      exact ⟨rfl, HB.out⟩
end Go.Proofs.YtlajpeoadgfobaaDoor
