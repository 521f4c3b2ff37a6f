/- The walk of the law FnMidpoint: it returns true at every code. -/
import Derived.Test.YtkodlhdjibbidaaDraw2b
namespace Go.Proofs.Ytkodlhdjibbidaa
open Go.RowKit
attribute [local go_sem ↓] Go.wp_at_zero Go.wp_at_succ
theorem specMidpointR (ax ay bx b_y : Int) (w0 w : World) (hw : Below w0.heap.size w0 w) :
    Calls Try.prog 23 #[pt ax ay, pt bx b_y] w fun e w' => e = .returned (pt (midX ax ay bx b_y) (midY ax ay bx b_y)) ∧ Below w0.heap.size w0 w' :=
  (specMidpoint ax ay bx b_y w).mono fun _ _ ⟨he, hb⟩ => ⟨he, below_call hw hb⟩
theorem implMidpointR (ax ay bx b_y : Int) (w0 w : World) (hw : Below w0.heap.size w0 w) :
    Calls Try.prog 22 #[pt ax ay, pt bx b_y] w fun e w' => e = .returned (pt (midX ax ay bx b_y) (midY ax ay bx b_y)) ∧ Below w0.heap.size w0 w' :=
  (implMidpoint ax ay bx b_y w).mono fun _ _ ⟨he, hb⟩ => ⟨he, below_call hw hb⟩
theorem keep3 {w u : World} {b1 b2 b3 : Nat} {x1 y1 x2 y2 x3 y3 : Int} (h : Below w.heap.size w u) (A : AtP w b1 x1 y1) (B : AtP w b2 x2 y2) (C : AtP w b3 x3 y3) :
    u.cell? ⟨b1, 0, none⟩ = some (.int .i64 x1) ∧ u.cell? ⟨b1, 1, none⟩ = some (.int .i64 y1) ∧ u.cell? ⟨b2, 0, none⟩ = some (.int .i64 x2) ∧ u.cell? ⟨b2, 1, none⟩ = some (.int .i64 y2) ∧
    u.cell? ⟨b3, 0, none⟩ = some (.int .i64 x3) ∧ u.cell? ⟨b3, 1, none⟩ = some (.int .i64 y3) :=
  ⟨(A.next h).c0, (A.next h).c1, (B.next h).c0, (B.next h).c1, (C.next h).c0, (C.next h).c1⟩
set_option maxHeartbeats 1000000 in
theorem walkFnMidpoint (w : World) (a : Option Addr) (len cap : Nat) (zs : List Int) (h : Bytes w a len cap zs) :
    Calls Try.prog 6 #[.slice a len cap] w fun e w' => e = .returned (.bool true) ∧ Below w.heap.size w w' := by
  have hle := h.len_le
  obtain ⟨hl, hm⟩ := hle
  unfold maxLen at hm
  by_cases hbig : 1048576 < len
  · go_enter Try.func6, Try.ntmps6
    go_wp2
    go_ret
    exact ⟨rfl, Below.refl _ _⟩
  · go_enter Try.func6, Try.ntmps6
    go_wp2_with fail
    refine (drawMidpoint w a len cap zs h).mono ?_
    rintro e w0 ⟨ax, ay, bx, b_y, hs, rfl, hb⟩
    clear h hl hm hbig
    obtain ⟨⟨s1, s2⟩, ⟨s3, s4⟩, ⟨s5, s6⟩, ⟨s7, s8⟩⟩ := hs
    have HB := Lib.hid (below_call hb (below_box2 w0 (.cells #[.int .i64 ax, .int .i64 ay] 24) (.cells #[.int .i64 bx, .int .i64 b_y] 24)))
    obtain ⟨P, Q⟩ := at2 w0 ax ay bx b_y 24
    obtain ⟨p1, p2, p3⟩ := id P
    obtain ⟨q1, q2, q3⟩ := id Q
    clear hb
    go_wp2_with fail
    refine (implMidpoint ax ay bx b_y _).mono ?_
    rintro e w1 ⟨rfl, B1⟩
    replace HB := Lib.hid (below_call HB.out B1)
    clear p1 p2 p3
    replace P := P.next B1
    obtain ⟨p1, p2, p3⟩ := id P
    clear q1 q2 q3
    replace Q := Q.next B1
    obtain ⟨q1, q2, q3⟩ := id Q
    clear B1
    have R := AtP.box w1 (midX ax ay bx b_y) (midY ax ay bx b_y) 24
    replace P := P.alloc (.cells #[.int .i64 (midX ax ay bx b_y), .int .i64 (midY ax ay bx b_y)] 24)
    replace Q := Q.alloc (.cells #[.int .i64 (midX ax ay bx b_y), .int .i64 (midY ax ay bx b_y)] 24)
    replace HB := Lib.hid (HB.out.alloc HB.out.size (.cells #[.int .i64 (midX ax ay bx b_y), .int .i64 (midY ax ay bx b_y)] 24))
    go_wp2
    have g0 := Below.refl (w1.alloc (.cells #[.int .i64 (midX ax ay bx b_y), .int .i64 (midY ax ay bx b_y)] 24)).heap.size (w1.alloc (.cells #[.int .i64 (midX ax ay bx b_y), .int .i64 (midY ax ay bx b_y)] 24))
    generalize w1.alloc (.cells #[.int .i64 (midX ax ay bx b_y), .int .i64 (midY ax ay bx b_y)] 24) = w2 at *
    have HX := Lib.hid (midX_comm ax ay bx b_y)
    have HY := Lib.hid (midY_comm ax ay bx b_y)
    have HI := Lib.hid (fun h : okP ax ay ∧ okP bx b_y => And.intro (midX_in h) (midY_in h))
    have HO := Lib.hid (fun h : ¬ (okP ax ay ∧ okP bx b_y) => And.intro (midX_out h) (midY_out h))
    have HS := Lib.hid (specMidpointR ax ay bx b_y w2)
    have HM := Lib.hid (implMidpointR bx b_y ax ay w2)
    generalize hmx : midX ax ay bx b_y = mx at *
    generalize hmy : midY ax ay bx b_y = my at *
    rw [HX.out, HY.out] at HM
    have e0 : (mx == mx) = true := by simp
    have e1 : (my == my) = true := by simp
    clear p1 p2 p3 q1 q2 q3
    go_region_held3 (fun u => u.cell? ⟨w0.heap.size, 0, none⟩ = some (.int .i64 (ax)) ∧ u.cell? ⟨w0.heap.size, 1, none⟩ = some (.int .i64 (ay)) ∧ u.cell? ⟨w0.heap.size + 1, 0, none⟩ = some (.int .i64 (bx)) ∧ u.cell? ⟨w0.heap.size + 1, 1, none⟩ = some (.int .i64 (b_y)) ∧ u.cell? ⟨w1.heap.size, 0, none⟩ = some (.int .i64 (mx)) ∧ u.cell? ⟨w1.heap.size, 1, none⟩ = some (.int .i64 (my))) (exact keep3 (by repeat (first | (with_reducible assumption) | (with_reducible apply Below.drew))) P Q R) (first
      | (go_at_call 23
         refine (HS.out _ (by repeat (first | (with_reducible assumption) | (with_reducible apply Below.drew)))).mono ?_
         rintro e k1 ⟨rfl, K1⟩)
      | (go_at_call 22
         refine (HM.out _ (by repeat (first | (with_reducible assumption) | (with_reducible apply Below.drew)))).mono ?_
         rintro e k2 ⟨rfl, K2⟩))
    replace P := P.next K2
    replace Q := Q.next K2
    replace R := R.next K2
    replace HB := Lib.hid (below_call HB.out K2)
    obtain ⟨p1, p2, p3⟩ := id P
    obtain ⟨q1, q2, q3⟩ := id Q
    obtain ⟨r1, r2, r3⟩ := id R
    clear K1 K2 HS HM HX HY g0
    by_cases ha : okP ax ay
    · by_cases hb : okP bx b_y
      · obtain ⟨i1, i2⟩ := HI.out ⟨ha, hb⟩
        obtain ⟨l1, l2⟩ := flo2 (ax + bx)
        obtain ⟨l3, l4⟩ := flo2 (ay + b_y)
        rw [← i1] at l1 l2
        rw [← i2] at l3 l4
        have HM : ∀ v u : World, Below v.heap.size v u → Calls Try.prog 22 #[pt ax ay, pt ax ay] u fun e w' => e = .returned (pt ax ay) ∧ Below v.heap.size v w' := fun v u h => by
          have := implMidpointR ax ay ax ay v u h
          rw [midX_in ⟨ha, ha⟩, midY_in ⟨ha, ha⟩, flo2_twice, flo2_twice] at this
          exact this
        have o1 : IntKind.i64.wrap (2 * mx) = 2 * mx := wrap_in (by omega) (by omega)
        have o2 : IntKind.i64.wrap (ax + bx) = ax + bx := wrap_in (by omega) (by omega)
        have o3 : IntKind.i64.wrap (2 * mx + 1) = 2 * mx + 1 := wrap_in (by omega) (by omega)
        have o4 : IntKind.i64.wrap (2 * my) = 2 * my := wrap_in (by omega) (by omega)
        have o5 : IntKind.i64.wrap (ay + b_y) = ay + b_y := wrap_in (by omega) (by omega)
        have o6 : IntKind.i64.wrap (2 * my + 1) = 2 * my + 1 := wrap_in (by omega) (by omega)
        have o7 : (ax == ax) = true := by simp
        have o8 : (ay == ay) = true := by simp
        clear i1 i2 hmx hmy HI HO
        go_wp2_with fail
        refine (specPointValidY ax ay _ ha).mono ?_
        rintro e w3 ⟨rfl, B3⟩
        replace HB := Lib.hid (below_call HB.out B3)
        clear p1 p2 p3
        replace P := P.next B3
        obtain ⟨p1, p2, p3⟩ := id P
        clear q1 q2 q3
        replace Q := Q.next B3
        obtain ⟨q1, q2, q3⟩ := id Q
        clear r1 r2 r3
        replace R := R.next B3
        obtain ⟨r1, r2, r3⟩ := id R
        clear B3
        go_wp2_with fail
        refine (specPointValidY bx b_y _ hb).mono ?_
        rintro e w4 ⟨rfl, B4⟩
        replace HB := Lib.hid (below_call HB.out B4)
        clear p1 p2 p3
        replace P := P.next B4
        obtain ⟨p1, p2, p3⟩ := id P
        clear q1 q2 q3
        replace Q := Q.next B4
        obtain ⟨q1, q2, q3⟩ := id Q
        clear r1 r2 r3
        replace R := R.next B4
        obtain ⟨r1, r2, r3⟩ := id R
        clear B4
        go_wp2
        have g0 := Below.refl w4.heap.size w4
        go_region_held3 (fun u => u.cell? ⟨w0.heap.size, 0, none⟩ = some (.int .i64 (ax)) ∧ u.cell? ⟨w0.heap.size, 1, none⟩ = some (.int .i64 (ay)) ∧ u.cell? ⟨w0.heap.size + 1, 0, none⟩ = some (.int .i64 (bx)) ∧ u.cell? ⟨w0.heap.size + 1, 1, none⟩ = some (.int .i64 (b_y)) ∧ u.cell? ⟨w1.heap.size, 0, none⟩ = some (.int .i64 (mx)) ∧ u.cell? ⟨w1.heap.size, 1, none⟩ = some (.int .i64 (my))) (exact keep3 (by repeat (first | (with_reducible assumption) | (with_reducible apply Below.drew))) P Q R) (first
          | (go_at_call 22
             refine (HM w4 _ (by repeat (first | (with_reducible assumption) | (with_reducible apply Below.drew)))).mono ?_
             rintro e k3 ⟨rfl, K3⟩))
        replace HB := Lib.hid (below_call HB.out K3)
        go_wp2
        go_ret
        exact ⟨rfl, HB.out⟩
      · obtain ⟨rfl, rfl⟩ := HO.out fun h => hb h.2
        go_wp2_with fail
        refine (specPointValidY ax ay _ ha).mono ?_
        rintro e w3 ⟨rfl, B3⟩
        replace HB := Lib.hid (below_call HB.out B3)
        clear p1 p2 p3
        replace P := P.next B3
        obtain ⟨p1, p2, p3⟩ := id P
        clear q1 q2 q3
        replace Q := Q.next B3
        obtain ⟨q1, q2, q3⟩ := id Q
        clear r1 r2 r3
        replace R := R.next B3
        obtain ⟨r1, r2, r3⟩ := id R
        clear B3
        go_wp2_with fail
        refine (specPointValidN bx b_y _ hb).mono ?_
        rintro e w4 ⟨rfl, B4⟩
        replace HB := Lib.hid (below_call HB.out B4)
        clear p1 p2 p3
        replace P := P.next B4
        obtain ⟨p1, p2, p3⟩ := id P
        clear q1 q2 q3
        replace Q := Q.next B4
        obtain ⟨q1, q2, q3⟩ := id Q
        clear r1 r2 r3
        replace R := R.next B4
        obtain ⟨r1, r2, r3⟩ := id R
        clear B4
        go_wp2_with fail
        refine (alive _).mono ?_
        rintro e w' ⟨rfl, rfl⟩
        go_wp2
        go_ret
        exact ⟨rfl, HB.out⟩
    · obtain ⟨rfl, rfl⟩ := HO.out fun h => ha h.1
      go_wp2_with fail
      refine (specPointValidN ax ay _ ha).mono ?_
      rintro e w3 ⟨rfl, B3⟩
      replace HB := Lib.hid (below_call HB.out B3)
      clear p1 p2 p3
      replace P := P.next B3
      obtain ⟨p1, p2, p3⟩ := id P
      clear q1 q2 q3
      replace Q := Q.next B3
      obtain ⟨q1, q2, q3⟩ := id Q
      clear r1 r2 r3
      replace R := R.next B3
      obtain ⟨r1, r2, r3⟩ := id R
      clear B3
      go_wp2_with fail
      refine (alive _).mono ?_
      rintro e w' ⟨rfl, rfl⟩
      go_wp2
      go_ret
      exact ⟨rfl, HB.out⟩
end Go.Proofs.Ytkodlhdjibbidaa
