/- The walk of the law FnDirectionOf: it returns true at every code, wherever the program's table lies as its text lays it. -/
import Derived.Test.YtkodlhdjibbidaaDoorDir
import Derived.Test.YtkodlhdjibbidaaDoorDraw2s
import Derived.OpenShut
namespace Go.Proofs.YtkodlhdjibbidaaDoor
open Go.RowKit
attribute [local go_sem ↓] Go.wp_at_zero Go.wp_at_succ
theorem bd64 {n : Int} (h : (Lit.int .i64 n).wf = true) : -9223372036854775808 ≤ n ∧ n ≤ 9223372036854775807 := bounds_i64 h
theorem axis_parts {x y : Int} (hp : okP x y) (h0 : ¬ (x = 0 ∧ y = 0)) : ((y != 0) = true) ∨ ((y != 0) = false ∧ x < 0) ∨ ((y != 0) = false ∧ ¬ x < 0 ∧ (dirV x y == 0) = true) := by
  by_cases hy : y = 0
  · subst hy
    by_cases hx : x < 0
    · exact .inr (.inl ⟨by simp, hx⟩)
    · refine .inr (.inr ⟨by simp, hx, ?_⟩)
      rw [dirV_in hp h0, bestN_zero (by omega)]
      simp
  · exact .inl (by simpa using hy)
theorem implCosineC (d : Int) (w : World) (ht : TabAt w) (h1 : -9223372036854775808 ≤ d) (h2 : d ≤ 9223372036854775807) :
    Calls Tryd.prog 17 #[.int .i64 d] w fun e w' => e = .returned (.int .i64 (cosV d)) ∧ w = w' := implCosine d w ht h1 h2
set_option maxRecDepth 20000 in
set_option maxHeartbeats 2000000 in
theorem walkFnDirectionOf (w : World) (ht : TabAt w) (a : Option Addr) (len cap : Nat) (zs : List Int) (h : Bytes w a len cap zs) :
    Calls Tryd.prog 4 #[.slice a len cap] w fun e w' => e = .returned (.bool true) ∧ Below w.heap.size w w' := by
  have hle := h.len_le
  obtain ⟨hl, hm⟩ := hle
  unfold maxLen at hm
  have HT := Lib.hid ht
  clear ht
  by_cases hbig : 1048576 < len
  · go_enter Tryd.func4, Tryd.ntmps4
    go_wp2
    go_ret
    exact ⟨rfl, Below.refl _ _⟩
  · go_enter Tryd.func4, Tryd.ntmps4
    go_wp2_with fail
    refine (drawDirectionOf w a len cap zs h).mono ?_
    rintro e w0 ⟨x, y, hx, hy, rfl, hb⟩
    obtain ⟨x0, x1⟩ := hx
    obtain ⟨y0, y1⟩ := hy
    have HB := Lib.hid (below_call hb (below_box w0 (.cells #[.int .i64 x, .int .i64 y] 24)))
    have P := AtP.box w0 x y 24
    have e0 : (dirV x y != dirV x y) = false := by simp
    clear h hl hm hbig hb
    go_wp2_with fail
    refine (implDirectionOf x y _ (HT.out.below HB.out HT.out.lt)).mono ?_
    rintro e w1 ⟨rfl, B1⟩
    replace P := P.next B1
    replace HB := Lib.hid (below_call HB.out B1)
    obtain ⟨p1, p2, p3⟩ := id P
    clear B1
    go_wp2_with fail
    refine (specDirectionOf x y _).mono ?_
    rintro e w2 ⟨rfl, B2⟩
    clear p1 p2 p3
    replace P := P.next B2
    replace HB := Lib.hid (below_call HB.out B2)
    obtain ⟨p1, p2, p3⟩ := id P
    clear B2
    by_cases hv : okP x y ∧ ¬ (x = 0 ∧ y = 0)
    · obtain ⟨hp, h0⟩ := hv
      have HE := Lib.hid (dirV_in hp h0)
      have HM := Lib.hid (best_all x y)
      have HO := Lib.hid (fun d => wraps hp d)
      have HA := Lib.hid (axis_parts hp h0)
      have HN := Lib.hid (dir_opp h0)
      have HF := Lib.hid (dirV_in (x := -x) (y := -y) (by unfold okP at *; omega) (by omega))
      have b1 := bestN_le x y 359
      have b2 := bestN_le (-x) (-y) 359
      have v0 : 0 ≤ dirV x y := by rw [HE.out]; omega
      have v1 : dirV x y < 360 := by rw [HE.out]; omega
      have v2 : 0 ≤ dirV (-x) (-y) := by rw [HF.out]; omega
      have v3 : dirV (-x) (-y) < 360 := by rw [HF.out]; omega
      have v4 : 177 ≤ ang (dirV x y) (dirV (-x) (-y)) := by rw [HE.out, HF.out]; exact HN.out
      have HG := Lib.hid (show ∀ n, proj x y n ≤ proj x y (dirV x y) by rw [HE.out]; exact HM.out)
      have T2 := HT.out.below HB.out HT.out.lt
      have P2 := P.next (below_drew w2)
      have T2' := T2.below (below_drew w2) T2.lt
      obtain ⟨o1, o2, o3⟩ := HO.out (dirV x y)
      clear HE HM HN HF b1 b2 hp h0
      go_wp2
      go_region_held3 (fun u => u.cell? ⟨w0.heap.size, 0, none⟩ = some (.int .i64 x) ∧ u.cell? ⟨w0.heap.size, 1, none⟩ = some (.int .i64 y)) (exact ⟨P2.c0, P2.c1⟩) (first
        | (go_at_call 17
           refine (implCosineC (dirV x y) _ T2' (by omega) (by omega)).mono ?_
           rintro e w' ⟨rfl, rfl⟩)
        | (go_at_call 18
           refine (implSine (dirV x y) _ T2' (by omega) (by omega)).mono ?_
           rintro e w' ⟨rfl, rfl⟩))
      replace HB := Lib.hid HB.out.drew
      clear P p1 p2 p3 T2 o1 o2 o3
      generalize w2.drew = w3 at *
      go_wp2
      go_loopw [6] (fun n wr => ∃ k : Nat, k ≤ 72 ∧ n = .int .i64 ((k : Int) * 5) ∧ Hid (Below w3.heap.size w3 wr)) (fun n _ => (360 - intOf n).toNat)
      case atStart => exact ⟨0, by omega, rfl, Lib.hid (Below.refl _ _)⟩
      case round =>
        obtain ⟨k, hk, rfl, HW⟩ := hrel
        by_cases hlt : k < 72
        · have P4 := (P2.next HW.out).next (below_drew wr)
          have T4 := (T2'.below HW.out T2'.lt).below (below_drew wr) (T2'.below HW.out T2'.lt).lt
          obtain ⟨p1, p2, p3⟩ := id P4
          obtain ⟨o1, o2, o3⟩ := HO.out ((k : Int) * 5)
          have hg := HG.out ((k : Int) * 5)
          unfold proj at hg
          go_wp2
          go_region_held3 (fun u => u.cell? ⟨w0.heap.size, 0, none⟩ = some (.int .i64 x) ∧ u.cell? ⟨w0.heap.size, 1, none⟩ = some (.int .i64 y)) (exact ⟨P4.c0, P4.c1⟩) (first
            | (go_at_call 17
               refine (implCosineC ((k : Int) * 5) _ T4 (by omega) (by omega)).mono ?_
               rintro e w' ⟨rfl, rfl⟩)
            | (go_at_call 18
               refine (implSine ((k : Int) * 5) _ T4 (by omega) (by omega)).mono ?_
               rintro e w' ⟨rfl, rfl⟩))
          go_wp2
          go_roundw
          case rel => exact ⟨k + 1, by omega, by congr 1; omega, Lib.hid HW.out.drew⟩
          case measure => simp [intOf]; omega
        · obtain rfl : k = 72 := by omega
          have P4 := P2.next HW.out
          have T4 := T2'.below HW.out T2'.lt
          replace HB := Lib.hid (below_call HB.out HW.out)
          obtain ⟨p1, p2, p3⟩ := id P4
          clear HW P2 T2'
          rcases HA.out with hA | ⟨hA, hA2⟩ | ⟨hA, hA2, hA3⟩
          all_goals
            go_wp2_with fail
            refine (implDirectionOf (-x) (-y) _ T4).mono ?_
            rintro e w5 ⟨rfl, B5⟩
            have HB5 := Lib.hid (below_call HB.out B5)
            obtain ⟨q1, q2, q3⟩ := P4.next B5
            clear p1 p2 p3 B5
            go_wp2_with fail
            refine (implAngleBetween _ _ _ (by omega) (by omega) (by omega) (by omega)).mono ?_
            rintro e w' ⟨rfl, rfl⟩
            go_wp2
            go_ret
            exact ⟨rfl, HB5.out⟩
    · have HE := Lib.hid (dirV_out hv)
      have v0 : dirV x y < 0 := by rw [HE.out]; omega
      have v1 : (dirV x y == -1) = true := by rw [HE.out]; simp
      clear hv
      go_wp2_with fail
      refine (alive _).mono ?_
      rintro e w' ⟨rfl, rfl⟩
      go_wp2
      go_ret
      exact ⟨rfl, HB.out⟩
end Go.Proofs.YtkodlhdjibbidaaDoor
