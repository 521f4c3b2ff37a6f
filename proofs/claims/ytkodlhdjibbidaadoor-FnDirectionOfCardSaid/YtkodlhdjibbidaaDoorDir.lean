/- The contracts of DirectionOf, of the program and of the document. -/
import Derived.Test.YtkodlhdjibbidaaDoorRot
import Derived.Test.YtkodlhdjibbidaaDoorNum2d
import Derived.Deep.RegionHeld3
namespace Go.Proofs.YtkodlhdjibbidaaDoor
open Go.RowKit
attribute [local go_sem ↓] Go.wp_at_zero Go.wp_at_succ
theorem unitVector (d : Int) (w : World) (ht : TabAt w) (h1 : -9223372036854775808 ≤ d) (h2 : d ≤ 9223372036854775807) :
    Calls Tryd.prog 32 #[.int .i64 d] w fun e w' => e = .returned (pt (cosV d) (sinV d)) ∧ Below w.heap.size w w' := by
  have T0 := ht.below (below_box w (.cells #[.int .i64 0, .int .i64 0] 24)) ht.lt
  have HE := Lib.hid (show sinV (deg d + 90) = cosV d from rfl)
  go_enter Tryd.func32, Tryd.ntmps32
  go_wp2_with fail
  refine (implCosine d _ T0 h1 h2).mono ?_
  rintro e w' ⟨rfl, rfl⟩
  go_wp2_with fail
  refine (implSine d _ T0 h1 h2).mono ?_
  rintro e w' ⟨rfl, rfl⟩
  clear T0 ht
  go_wp2
  exact bodyPost_ret (v := pt (sinV (deg d + 90)) (sinV d)) (by simp [results, Tryd.results32, go_sem]) rfl ⟨pt_eq HE.out rfl, below_box _ _⟩
theorem unitVectorR (d : Int) (w0 w : World) (hw : Below w0.heap.size w0 w) (ht : TabAt w0) (h1 : -9223372036854775808 ≤ d) (h2 : d ≤ 9223372036854775807) :
    Calls Tryd.prog 32 #[.int .i64 d] w fun e w' => e = .returned (pt (cosV d) (sinV d)) ∧ Below w0.heap.size w0 w' :=
  (unitVector d w (ht.below hw ht.lt) h1 h2).mono fun _ _ ⟨he, hb⟩ => ⟨he, below_call hw hb⟩
theorem dotR (x y d : Int) (hp : okP x y) (w0 w : World) (hw : Below w0.heap.size w0 w) :
    Calls Tryd.prog 31 #[pt x y, pt (cosV d) (sinV d)] w fun e w' => e = .returned (.int .i64 (proj x y d)) ∧ Below w0.heap.size w0 w' := by
  obtain ⟨h1, h2, h3, h4⟩ := hp
  obtain ⟨c0, c1⟩ := cosV_bd d
  obtain ⟨s0, s1⟩ := sinV_bd d
  exact (dot x y (cosV d) (sinV d) w (by omega) (by omega) (by omega) (by omega) (by omega) (by omega) (by omega) (by omega)).mono fun _ _ ⟨he, hb⟩ => ⟨he, below_call hw hb⟩
theorem keep1 {w u : World} {b : Nat} {x y : Int} (h : Below w.heap.size w u) (A : AtP w b x y) : u.cell? ⟨b, 0, none⟩ = some (.int .i64 x) ∧ u.cell? ⟨b, 1, none⟩ = some (.int .i64 y) :=
  ⟨(A.next h).c0, (A.next h).c1⟩
theorem zero_parts {x y : Int} (h : ¬ (x = 0 ∧ y = 0)) : ((x == 0) = false) ∨ ((x == 0) = true ∧ (y == 0) = false) := by
  by_cases hx : x = 0
  · exact .inr ⟨by simpa using hx, by simpa using fun hy => h ⟨hx, hy⟩⟩
  · exact .inl (by simpa using hx)
set_option maxRecDepth 20000 in
set_option maxHeartbeats 1000000 in
theorem implDirectionOf (x y : Int) (w : World) (ht : TabAt w) :
    Calls Tryd.prog 15 #[pt x y] w fun e w' => e = .returned (.int .i64 (dirV x y)) ∧ Below w.heap.size w w' := by
  have HB0 := Lib.hid (below_box w (.cells #[.int .i64 x, .int .i64 y] 24))
  have HP := Lib.hid (AtP.box w x y 24)
  have HT := Lib.hid (ht.below HB0.out ht.lt)
  clear ht
  by_cases hp : okP x y
  · by_cases h0 : x = 0 ∧ y = 0
    · obtain ⟨rfl, rfl⟩ := h0
      have HE := Lib.hid (dirV_out (x := 0) (y := 0) fun h => h.2 ⟨rfl, rfl⟩)
      go_enter Tryd.func15, Tryd.ntmps15
      go_wp2_with fail
      refine (validY _ _ _ hp).mono ?_
      rintro e w1 ⟨rfl, B1⟩
      obtain ⟨p1, p2, p3⟩ := HP.out.next B1
      have HB := Lib.hid (below_call HB0.out B1)
      go_wp2
      go_ret
      exact ⟨ret_int HE.out.symm, HB.out⟩
    · have HE := Lib.hid (dirV_in hp h0)
      have HZ := Lib.hid (zero_parts h0)
      have HD := Lib.hid (fun d => proj_bd hp d)
      have HR := Lib.hid (fun d => dotR x y d hp)
      clear h0
      go_enter Tryd.func15, Tryd.ntmps15
      go_wp2_with fail
      refine (validY _ _ _ hp).mono ?_
      rintro e w1 ⟨rfl, B1⟩
      have P1 := HP.out.next B1
      have T1 := HT.out.below B1 HT.out.lt
      obtain ⟨p1, p2, p3⟩ := id P1
      have HB1 := Lib.hid (below_call HB0.out B1)
      have g0 : Below w1.heap.size w1 w1 := Below.refl _ _
      clear hp B1
      rcases HZ.out with hx | ⟨hx, hy⟩
      all_goals
        go_wp2
        go_region_held3 (fun u => u.cell? ⟨w.heap.size, 0, none⟩ = some (.int .i64 x) ∧ u.cell? ⟨w.heap.size, 1, none⟩ = some (.int .i64 y)) (exact keep1 (by repeat (first | (with_reducible assumption) | (with_reducible apply Below.drew))) P1) (first
          | (go_at_call 32
             refine (unitVectorR 0 w1 _ (by repeat (first | (with_reducible assumption) | (with_reducible apply Below.drew))) T1 (by omega) (by omega)).mono ?_
             rintro e k1 ⟨rfl, K1⟩)
          | (go_at_call 31
             refine (HR.out 0 w1 _ (by repeat (first | (with_reducible assumption) | (with_reducible apply Below.drew)))).mono ?_
             rintro e k2 ⟨rfl, K2⟩))
        have P2 := P1.next K2
        have T2 := T1.below K2 T1.lt
        have HB2 := Lib.hid (below_call HB1.out K2)
        clear P1 T1 K1 K2 g0 p1 p2 p3
        go_wp2
        go_loopw [3, 4, 5] (fun b g d wr => ∃ k : Nat, k < 360 ∧ b = .int .i64 (bestN x y k : Int) ∧ g = .int .i64 (proj x y (bestN x y k : Int)) ∧ d = .int .i64 ((k : Int) + 1) ∧ Hid (Below k2.heap.size k2 wr)) (fun _ _ d _ => (360 - intOf d).toNat)
        case atStart => exact ⟨0, by omega, rfl, rfl, rfl, Lib.hid (Below.refl _ _)⟩
        case round =>
          obtain ⟨k, hk, rfl, rfl, rfl, HW⟩ := hrel
          have P3 := P2.next HW.out
          have T3 := T2.below HW.out T2.lt
          obtain ⟨p1, p2, p3⟩ := id P3
          obtain ⟨d1, d2⟩ := HD.out (bestN x y k : Int)
          obtain ⟨d3, d4⟩ := HD.out ((k : Int) + 1)
          have g1 : Below wr.heap.size wr wr := Below.refl _ _
          by_cases hlt : k < 359
          · by_cases hgt : proj x y (bestN x y k : Int) < proj x y ((k : Int) + 1)
            · have HN := Lib.hid (bestN_yes hgt)
              go_wp2
              go_region_held3 (fun u => u.cell? ⟨w.heap.size, 0, none⟩ = some (.int .i64 x) ∧ u.cell? ⟨w.heap.size, 1, none⟩ = some (.int .i64 y)) (exact keep1 (by repeat (first | (with_reducible assumption) | (with_reducible apply Below.drew))) P3) (first
                | (go_at_call 32
                   refine (unitVectorR ((k : Int) + 1) wr _ (by repeat (first | (with_reducible assumption) | (with_reducible apply Below.drew))) T3 (by omega) (by omega)).mono ?_
                   rintro e k3 ⟨rfl, K3⟩)
                | (go_at_call 31
                   refine (HR.out ((k : Int) + 1) wr _ (by repeat (first | (with_reducible assumption) | (with_reducible apply Below.drew)))).mono ?_
                   rintro e k4 ⟨rfl, K4⟩))
              go_wp2
              go_roundw
              case rel => exact ⟨k + 1, by omega, by rw [HN.out]; rfl, by rw [HN.out]; rfl, by rfl, Lib.hid (below_call HW.out K4)⟩
              case measure => simp [intOf]; omega
            · have HN := Lib.hid (bestN_no hgt)
              go_wp2
              go_region_held3 (fun u => u.cell? ⟨w.heap.size, 0, none⟩ = some (.int .i64 x) ∧ u.cell? ⟨w.heap.size, 1, none⟩ = some (.int .i64 y)) (exact keep1 (by repeat (first | (with_reducible assumption) | (with_reducible apply Below.drew))) P3) (first
                | (go_at_call 32
                   refine (unitVectorR ((k : Int) + 1) wr _ (by repeat (first | (with_reducible assumption) | (with_reducible apply Below.drew))) T3 (by omega) (by omega)).mono ?_
                   rintro e k3 ⟨rfl, K3⟩)
                | (go_at_call 31
                   refine (HR.out ((k : Int) + 1) wr _ (by repeat (first | (with_reducible assumption) | (with_reducible apply Below.drew)))).mono ?_
                   rintro e k4 ⟨rfl, K4⟩))
              go_wp2
              go_roundw
              case rel => exact ⟨k + 1, by omega, by rw [HN.out], by rw [HN.out], by rfl, Lib.hid (below_call HW.out K4)⟩
              case measure => simp [intOf]; omega
          · obtain rfl : k = 359 := by omega
            have HB3 := Lib.hid (below_call HB2.out HW.out)
            go_wp2
            go_ret
            exact ⟨ret_int HE.out.symm, HB3.out⟩
  · have HE := Lib.hid (dirV_out fun h => hp h.1)
    go_enter Tryd.func15, Tryd.ntmps15
    go_wp2_with fail
    refine (validN _ _ _ hp).mono ?_
    rintro e w1 ⟨rfl, B1⟩
    have HB := Lib.hid (below_call HB0.out B1)
    go_wp2
    go_ret
    exact ⟨ret_int HE.out.symm, HB.out⟩
theorem specCosineR (d : Int) (w0 w : World) (hw : Below w0.heap.size w0 w) (h1 : -9223372036854775808 ≤ d) (h2 : d ≤ 9223372036854775807) :
    Calls Tryd.prog 33 #[.int .i64 d] w fun e w' => e = .returned (.int .i64 (cosV d)) ∧ Below w0.heap.size w0 w' :=
  (specCosine d w h1 h2).mono fun _ _ ⟨he, hb⟩ => ⟨he, below_call hw hb⟩
theorem specSineR (d : Int) (w0 w : World) (hw : Below w0.heap.size w0 w) (h1 : -9223372036854775808 ≤ d) (h2 : d ≤ 9223372036854775807) :
    Calls Tryd.prog 34 #[.int .i64 d] w fun e w' => e = .returned (.int .i64 (sinV d)) ∧ Below w0.heap.size w0 w' :=
  (specSine d w h1 h2).mono fun _ _ ⟨he, hb⟩ => ⟨he, below_call hw hb⟩
theorem wraps {x y : Int} (hp : okP x y) (d : Int) : IntKind.i64.wrap (x * cosV d) = x * cosV d ∧ IntKind.i64.wrap (y * sinV d) = y * sinV d ∧ IntKind.i64.wrap (x * cosV d + y * sinV d) = x * cosV d + y * sinV d := by
  obtain ⟨h1, h2, h3, h4⟩ := hp
  obtain ⟨c0, c1⟩ := cosV_bd d
  obtain ⟨s0, s1⟩ := sinV_bd d
  obtain ⟨p1, p2⟩ := prod_bd h1 h2 c0 c1
  obtain ⟨p3, p4⟩ := prod_bd h3 h4 s0 s1
  exact ⟨wrap_in (by omega) (by omega), wrap_in (by omega) (by omega), wrap_in (by omega) (by omega)⟩
set_option maxRecDepth 20000 in
set_option maxHeartbeats 1000000 in
theorem specDirectionOf (x y : Int) (w : World) :
    Calls Tryd.prog 16 #[pt x y] w fun e w' => e = .returned (.int .i64 (dirV x y)) ∧ Below w.heap.size w w' := by
  have HB0 := Lib.hid (below_box w (.cells #[.int .i64 x, .int .i64 y] 24))
  have HP := Lib.hid (AtP.box w x y 24)
  by_cases hp : okP x y
  · by_cases h0 : x = 0 ∧ y = 0
    · obtain ⟨rfl, rfl⟩ := h0
      have HE := Lib.hid (dirV_out (x := 0) (y := 0) fun h => h.2 ⟨rfl, rfl⟩)
      go_enter Tryd.func16, Tryd.ntmps16
      go_wp2_with fail
      refine (specPointValidY _ _ _ hp).mono ?_
      rintro e w1 ⟨rfl, B1⟩
      obtain ⟨p1, p2, p3⟩ := HP.out.next B1
      have HB := Lib.hid (below_call HB0.out B1)
      go_wp2
      go_ret
      exact ⟨ret_int HE.out.symm, HB.out⟩
    · have HE := Lib.hid (dirV_in hp h0)
      have HZ := Lib.hid (zero_parts h0)
      have HO := Lib.hid (fun d => wraps hp d)
      clear h0
      go_enter Tryd.func16, Tryd.ntmps16
      go_wp2_with fail
      refine (specPointValidY _ _ _ hp).mono ?_
      rintro e w1 ⟨rfl, B1⟩
      have P1 := HP.out.next B1
      obtain ⟨p1, p2, p3⟩ := id P1
      have HB1 := Lib.hid (below_call HB0.out B1)
      clear hp B1
      rcases HZ.out with hx | ⟨hx, hy⟩
      all_goals
        go_wp2
        clear p1 p2 p3
        go_loopw [3, 4] (fun b d wr => ∃ k : Nat, k < 360 ∧ b = .int .i64 (bestN x y k : Int) ∧ d = .int .i64 ((k : Int) + 1) ∧ Hid (Below w1.heap.size w1 wr)) (fun _ d _ => (360 - intOf d).toNat)
        case atStart => exact ⟨0, by omega, rfl, rfl, Lib.hid (Below.refl _ _)⟩
        case round =>
          obtain ⟨k, hk, rfl, rfl, HW⟩ := hrel
          have P3 := P1.next HW.out
          obtain ⟨p1, p2, p3⟩ := id P3
          obtain ⟨o1, o2, o3⟩ := HO.out (bestN x y k : Int)
          obtain ⟨o4, o5, o6⟩ := HO.out ((k : Int) + 1)
          have b1 := bestN_le x y k
          have g1 : Below wr.heap.size wr wr := Below.refl _ _
          by_cases hlt : k < 359
          · by_cases hgt : proj x y (bestN x y k : Int) < proj x y ((k : Int) + 1)
            · have HN := Lib.hid (bestN_yes hgt)
              unfold proj at hgt
              go_wp2
              go_region_held3 (fun u => u.cell? ⟨w.heap.size, 0, none⟩ = some (.int .i64 x) ∧ u.cell? ⟨w.heap.size, 1, none⟩ = some (.int .i64 y)) (exact keep1 (by repeat (first | (with_reducible assumption) | (with_reducible apply Below.drew))) P3) (first
                | (go_at_call_of 33 (bestN x y k)
                   refine (specCosineR (bestN x y k : Int) wr _ (by repeat (first | (with_reducible assumption) | (with_reducible apply Below.drew))) (by omega) (by omega)).mono ?_
                   rintro e k1 ⟨rfl, K1⟩)
                | (go_at_call_of 34 (bestN x y k)
                   refine (specSineR (bestN x y k : Int) wr _ (by repeat (first | (with_reducible assumption) | (with_reducible apply Below.drew))) (by omega) (by omega)).mono ?_
                   rintro e k2 ⟨rfl, K2⟩)
                | (go_at_call 33
                   refine (specCosineR ((k : Int) + 1) wr _ (by repeat (first | (with_reducible assumption) | (with_reducible apply Below.drew))) (by omega) (by omega)).mono ?_
                   rintro e k3 ⟨rfl, K3⟩)
                | (go_at_call 34
                   refine (specSineR ((k : Int) + 1) wr _ (by repeat (first | (with_reducible assumption) | (with_reducible apply Below.drew))) (by omega) (by omega)).mono ?_
                   rintro e k4 ⟨rfl, K4⟩))
              go_wp2
              go_roundw
              case rel => exact ⟨k + 1, by omega, by rw [HN.out]; rfl, by rfl, Lib.hid (below_call HW.out (by with_reducible assumption))⟩
              case measure => simp [intOf]; omega
            · have HN := Lib.hid (bestN_no hgt)
              unfold proj at hgt
              go_wp2
              go_region_held3 (fun u => u.cell? ⟨w.heap.size, 0, none⟩ = some (.int .i64 x) ∧ u.cell? ⟨w.heap.size, 1, none⟩ = some (.int .i64 y)) (exact keep1 (by repeat (first | (with_reducible assumption) | (with_reducible apply Below.drew))) P3) (first
                | (go_at_call_of 33 (bestN x y k)
                   refine (specCosineR (bestN x y k : Int) wr _ (by repeat (first | (with_reducible assumption) | (with_reducible apply Below.drew))) (by omega) (by omega)).mono ?_
                   rintro e k1 ⟨rfl, K1⟩)
                | (go_at_call_of 34 (bestN x y k)
                   refine (specSineR (bestN x y k : Int) wr _ (by repeat (first | (with_reducible assumption) | (with_reducible apply Below.drew))) (by omega) (by omega)).mono ?_
                   rintro e k2 ⟨rfl, K2⟩)
                | (go_at_call 33
                   refine (specCosineR ((k : Int) + 1) wr _ (by repeat (first | (with_reducible assumption) | (with_reducible apply Below.drew))) (by omega) (by omega)).mono ?_
                   rintro e k3 ⟨rfl, K3⟩)
                | (go_at_call 34
                   refine (specSineR ((k : Int) + 1) wr _ (by repeat (first | (with_reducible assumption) | (with_reducible apply Below.drew))) (by omega) (by omega)).mono ?_
                   rintro e k4 ⟨rfl, K4⟩))
              go_wp2
              go_roundw
              case rel => exact ⟨k + 1, by omega, by rw [HN.out], by rfl, Lib.hid (below_call HW.out (by with_reducible assumption))⟩
              case measure => simp [intOf]; omega
          · obtain rfl : k = 359 := by omega
            have HB3 := Lib.hid (below_call HB1.out HW.out)
            go_wp2
            go_ret
            exact ⟨ret_int HE.out.symm, HB3.out⟩
  · have HE := Lib.hid (dirV_out fun h => hp h.1)
    go_enter Tryd.func16, Tryd.ntmps16
    go_wp2_with fail
    refine (specPointValidN _ _ _ hp).mono ?_
    rintro e w1 ⟨rfl, B1⟩
    have HB := Lib.hid (below_call HB0.out B1)
    go_wp2
    go_ret
    exact ⟨ret_int HE.out.symm, HB.out⟩
end Go.Proofs.YtkodlhdjibbidaaDoor
