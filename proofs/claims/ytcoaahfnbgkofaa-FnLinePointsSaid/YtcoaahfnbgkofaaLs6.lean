/- LinePoints, of the document. -/
import Derived.Test.YtcoaahfnbgkofaaRow6
import Derived.Test.YtcoaahfnbgkofaaKApp
import Derived.Test.YtcoaahfnbgkofaaNum6
import Derived.Outline
import Derived.Deep.DeepCutAuto
import Derived.Deep.RegionHeld3
namespace Go.Proofs.Ytcoaahfnbgkofaa
set_option maxRecDepth 100000
open Go.RowKit
attribute [local go_sem ↓] Go.wp_at_zero Go.wp_at_succ
set_option maxHeartbeats 2000000 in
theorem specLineIn (ax ay bx b_y n : Int) (w : World) (h : okLine ax ay bx b_y n) :
    Calls Try.prog 23 #[pt ax ay, pt bx b_y, .int .i64 n] w (PtRow (lineL ax ay bx b_y n.toNat) w) := by
  obtain ⟨i0, hi0, hz0, hz1, hz2⟩ := info_parts infoPt6
  obtain ⟨ha, hb, n1, n2⟩ := h
  obtain ⟨m, rfl⟩ : ∃ m : Nat, n = (m : Int) := ⟨n.toNat, by omega⟩
  rw [Int.toNat_natCast]
  have HA := Lib.hid ha
  have HBb := Lib.hid hb
  obtain ⟨a1, a2, a3, a4⟩ := ha
  obtain ⟨b1, b2, b3, b4⟩ := hb
  have W2 := Lib.hid (below_box3 w (.cells #[.int .i64 ax, .int .i64 ay] 38) (.cells #[.int .i64 bx, .int .i64 b_y] 38) (.cells #[] 38))
  obtain ⟨PA, PB⟩ := at2 w ax ay bx b_y 38
  have O := ownPt_empty ((w.alloc (.cells #[.int .i64 ax, .int .i64 ay] 38)).alloc (.cells #[.int .i64 bx, .int .i64 b_y] 38)) 38 rfl
  rw [show ((w.alloc (.cells #[.int .i64 ax, .int .i64 ay] 38)).alloc (.cells #[.int .i64 bx, .int .i64 b_y] 38)).heap.size = w.heap.size + 1 + 1 by simp] at O
  replace PA := PA.alloc (.cells #[] 38)
  replace PB := PB.alloc (.cells #[] 38)
  have HMUL := Lib.hid (fun (k : Nat) (hk : k ≤ m) => And.intro (lnC_mul (a := ax) (b := bx) (n := (m : Int)) (k := (k : Int)) (by omega) (by omega) n2 a1 a2 b1 b2) (lnC_mul (a := ay) (b := b_y) (n := (m : Int)) (k := (k : Int)) (by omega) (by omega) n2 a3 a4 b3 b4))
  have HBX := Lib.hid (fun (k : Nat) (hk : k ≤ m) => And.intro (lnC_box (a := ax) (b := bx) (n := (m : Int)) (k := (k : Int)) n1 (by omega) (by omega)) (lnC_box (a := ay) (b := b_y) (n := (m : Int)) (k := (k : Int)) n1 (by omega) (by omega)))
  have HTK := Lib.hid (fun (k : Nat) (hk : k ≤ m) => (pvals_take6 (lineL ax ay bx b_y m) k (by rw [lineL_len]; omega)).trans (by rw [lineL_at ax ay bx b_y m k hk]))
  have HLEN := Lib.hid (lineL_len ax ay bx b_y m)
  simp only [lnC] at HTK HBX
  generalize lineL ax ay bx b_y m = L at *
  go_enter Try.func23, Try.ntmps23
  go_wp2_with fail
  refine (specPointValidY ax ay _ HA.out).mono ?_
  generalize ((w.alloc (.cells #[.int .i64 ax, .int .i64 ay] 38)).alloc (.cells #[.int .i64 bx, .int .i64 b_y] 38)).alloc (.cells #[] 38) = u0 at *
  rintro e u1 ⟨rfl, B1⟩
  replace PA := PA.next B1
  replace PB := PB.next B1
  replace O := O.next B1
  replace W2 := Lib.hid (below_call W2.out B1)
  clear B1
  obtain ⟨q0, q1, q2⟩ := id PB
  go_wp2_with fail
  refine (specPointValidY bx b_y _ HBb.out).mono ?_
  rintro e u2 ⟨rfl, B2⟩
  replace PA := PA.next B2
  replace PB := PB.next B2
  replace O := O.next B2
  replace W2 := Lib.hid (below_call W2.out B2)
  clear B2 q0 q1 q2
  go_wp2_with fail
  refine (l1In_yes (m : Int) 1 400 _ n1 n2).mono ?_
  rintro e w' ⟨rfl, rfl⟩
  go_wp2
  clear HA HBb
  go_loopw [7, 8] (fun v i wr => ∃ k : Nat, k ≤ m + 1 ∧ i = .int .i64 (k : Int) ∧ Hid (wr.ownsRow (w.heap.size + 1 + 1) 38 2 v k (pvals (L.take k))) ∧ Hid (Below w.heap.size w wr) ∧ Hid (AtP wr w.heap.size ax ay ∧ AtP wr (w.heap.size + 1) bx b_y)) (fun _ i _ => m + 1 - (intOf i).toNat)
  case atStart => exact ⟨0, Nat.zero_le _, rfl, Lib.hid O, W2, Lib.hid ⟨PA, PB⟩⟩
  case round =>
    obtain ⟨k, hk, rfl, HO, HW, HP⟩ := hrel
    clear O W2 PA PB
    by_cases hlt : k < m + 1
    · have j1 : (0 : Int) ≤ (k : Int) := by omega
      have j2 : (k : Int) ≤ (m : Int) := by omega
      have HT := Lib.hid (HTK.out k (by omega))
      obtain ⟨⟨x1, x2⟩, y1, y2⟩ := HMUL.out k (by omega)
      obtain ⟨⟨x3, x4⟩, y3, y4⟩ := HBX.out k (by omega)
      have o3 : IntKind.i64.wrap (bx - ax) = bx - ax := wrap_in (by omega) (by omega)
      have o4 : IntKind.i64.wrap (b_y - ay) = b_y - ay := wrap_in (by omega) (by omega)
      have o1 : IntKind.i64.wrap ((k : Int) * (bx - ax)) = (k : Int) * (bx - ax) := wrap_in (by omega) (by omega)
      have o2 : IntKind.i64.wrap ((k : Int) * (b_y - ay)) = (k : Int) * (b_y - ay) := wrap_in (by omega) (by omega)
      have o5 : IntKind.i64.wrap (ax + flo ((k : Int) * (bx - ax)) (m : Int)) = ax + flo ((k : Int) * (bx - ax)) (m : Int) := wrap_in (by omega) (by omega)
      have o6 : IntKind.i64.wrap (ay + flo ((k : Int) * (b_y - ay)) (m : Int)) = ay + flo ((k : Int) * (b_y - ay)) (m : Int) := wrap_in (by omega) (by omega)
      have HFX := Lib.hid (fun (q : Kept wr) => keptSame (l1Floor ((k : Int) * (bx - ax)) (m : Int) q.u (by omega) (by omega) (by omega) (by omega)))
      have HFY := Lib.hid (fun (q : Kept wr) => keptSame (l1Floor ((k : Int) * (b_y - ay)) (m : Int) q.u (by omega) (by omega) (by omega) (by omega)))
      obtain ⟨e1, e2⟩ := HP.out.1.kepts
      obtain ⟨e3, e4⟩ := HP.out.2.kepts
      clear x1 x2 x3 x4 y1 y2 y3 y4
      go_upto_region 7 with fail
      refine wp_region_app 25 (by kernel_rfl) rfl rfl (by kernel_rfl) ?_
      simp only [List.take_succ_cons, List.take_zero, List.drop_succ_cons, List.drop_zero]
      repeat (go_big_quiet_step ((first | (go_at_call_of 62 (Value.int IntKind.i64 ((k : Int) * (bx - ax))); with_reducible exact HFX.out _) | (go_at_call_of 62 (Value.int IntKind.i64 ((k : Int) * (b_y - ay))); with_reducible exact HFY.out _))))
      refine wpQuiet_nil ?_
      rintro w2 ⟨⟨_, K2⟩, rfl⟩
      clear e1 e2 e3 e4
      generalize ax + flo ((k : Int) * (bx - ax)) (m : Int) = nx at *
      generalize ay + flo ((k : Int) * (b_y - ay)) (m : Int) = ny at *
      have HOa := Lib.hid ((World.ownsRow.kept (row := none) HO.out ⟨K2.os, K2.tape, K2.output, K2.size, fun k hk _ => K2.block k hk⟩ (by cases Value.ownBlock _ <;> simp)).alloc (.cells #[.int .i64 nx, .int .i64 ny] 38))
      have HN := Lib.hid (two_new6 w2 (.int .i64 nx) (.int .i64 ny) 38)
      have HP2 := Lib.hid (And.intro (HP.out.1.next K2) (HP.out.2.next K2))
      have HW2 := Lib.hid (below_call (below_call HW.out K2) (below_box w2 (.cells #[.int .i64 nx, .int .i64 ny] 38)))
      have HH := Lib.hid (show w.heap.size + 1 + 1 ≤ (w2.alloc (.cells #[.int .i64 nx, .int .i64 ny] 38)).heap.size by have := HP2.out.2.lt; simp; omega)
      have HRB := Lib.hid (fun q hq => (World.ownsRow.lt HOa.out q hq).1)
      clear K2
      go_wp2_with (at_builtin; refine wpList_append_lies _ rfl (.tmp 29) (.tmp 55) 41 rfl (w.heap.size + 1 + 1) 38 i0 (pt 0 0) 2 16 Try.underlying41 hi0 hz0 hz1 hz2 rfl (by decide) _ k (pvals (L.take k)) rfl HOa.out ⟨w2.heap.size, 0, none⟩ 1 1 [.int .i64 nx, .int .i64 ny] rfl rfl HN.out (by intro u hu; simp at hu; rcases hu with rfl | rfl <;> rfl) (by omega) (by unfold maxLen; omega) (by omega) HH.out _ rfl ?_; intro g cap6 w7 own7 grow7 at7 ltg7; have HA7 := Lib.hid (And.intro own7 grow7); clear own7 grow7 at7 ltg7)
      have HO7 := Lib.hid HA7.out.1
      rw [← HT.out] at HO7
      have HW7 := Lib.hid (HW2.out.grown HA7.out.2 HW2.out.size (fun q hq => by have := HRB.out q hq; omega))
      have HP7 := Lib.hid (And.intro ((HP2.out.1.alloc (.cells #[.int .i64 nx, .int .i64 ny] 38)).row6 HA7.out.2 (fun e => by have := HRB.out _ e.symm; omega)) ((HP2.out.2.alloc (.cells #[.int .i64 nx, .int .i64 ny] 38)).row6 HA7.out.2 (fun e => by have := HRB.out _ e.symm; omega)))
      refine NoPanic.normal ?_
      go_wp2
      go_roundw
      case rel => exact ⟨k + 1, by omega, by congr 1, HO7, HW7, HP7⟩
      case measure => simp [intOf]; omega
    · obtain rfl : k = m + 1 := by omega
      have j2 : ¬ (((m + 1 : Nat) : Int) ≤ (m : Int)) := by omega
      go_wp2
      go_ret
      refine OwnPt.slv (B := w.heap.size + 1 + 1) ?_ w (by omega) HW.out
      have o := HO.out
      rw [List.take_of_length_le (by rw [HLEN.out]; omega)] at o
      unfold OwnPt
      rw [HLEN.out]
      exact o
theorem specLinePoints (ax ay bx b_y n : Int) (w : World) :
    Calls Try.prog 23 #[pt ax ay, pt bx b_y, .int .i64 n] w (PtRow (lineV ax ay bx b_y n) w) := by
  by_cases h : okLine ax ay bx b_y n
  · rw [lineV_in h]; exact specLineIn ax ay bx b_y n w h
  · rw [lineV_out h]
    have W2 := Lib.hid (below_box3 w (.cells #[.int .i64 ax, .int .i64 ay] 38) (.cells #[.int .i64 bx, .int .i64 b_y] 38) (.cells #[] 38))
    obtain ⟨PA, PB⟩ := at2 w ax ay bx b_y 38
    have O := ownPt_empty ((w.alloc (.cells #[.int .i64 ax, .int .i64 ay] 38)).alloc (.cells #[.int .i64 bx, .int .i64 b_y] 38)) 38 rfl
    rw [show ((w.alloc (.cells #[.int .i64 ax, .int .i64 ay] 38)).alloc (.cells #[.int .i64 bx, .int .i64 b_y] 38)).heap.size = w.heap.size + 1 + 1 by simp] at O
    replace PB := PB.alloc (.cells #[] 38)
    clear PA
    by_cases ha : okP ax ay
    · by_cases hb : okP bx b_y
      · have hn : n < 1 ∨ 400 < n := by
          rcases Int.lt_or_le n 1 with k | k
          · exact .inl k
          · exact .inr (by rcases Int.lt_or_le 400 n with k2 | k2; exact k2; exact absurd ⟨ha, hb, k, k2⟩ h)
        have HA := Lib.hid ha
        have HBb := Lib.hid hb
        clear h ha hb
        go_enter Try.func23, Try.ntmps23
        go_wp2_with fail
        refine (specPointValidY ax ay _ HA.out).mono ?_
        generalize ((w.alloc (.cells #[.int .i64 ax, .int .i64 ay] 38)).alloc (.cells #[.int .i64 bx, .int .i64 b_y] 38)).alloc (.cells #[] 38) = u0 at *
        rintro e u1 ⟨rfl, B1⟩
        replace PB := PB.next B1
        replace O := O.next B1
        replace W2 := Lib.hid (below_call W2.out B1)
        clear B1
        obtain ⟨q0, q1, q2⟩ := id PB
        go_wp2_with fail
        refine (specPointValidY bx b_y _ HBb.out).mono ?_
        rintro e u2 ⟨rfl, B2⟩
        replace O := O.next B2
        replace W2 := Lib.hid (below_call W2.out B2)
        clear B2 q0 q1 q2
        go_wp2_with fail
        refine (l1In_no n 1 400 _ hn).mono ?_
        rintro e w' ⟨rfl, rfl⟩
        go_wp2
        go_ret
        exact O.slv w (by omega) W2.out
      · have HA := Lib.hid ha
        have HBb := Lib.hid hb
        clear h ha hb
        go_enter Try.func23, Try.ntmps23
        go_wp2_with fail
        refine (specPointValidY ax ay _ HA.out).mono ?_
        generalize ((w.alloc (.cells #[.int .i64 ax, .int .i64 ay] 38)).alloc (.cells #[.int .i64 bx, .int .i64 b_y] 38)).alloc (.cells #[] 38) = u0 at *
        rintro e u1 ⟨rfl, B1⟩
        replace PB := PB.next B1
        replace O := O.next B1
        replace W2 := Lib.hid (below_call W2.out B1)
        clear B1
        obtain ⟨q0, q1, q2⟩ := id PB
        go_wp2_with fail
        refine (specPointValidN bx b_y _ HBb.out).mono ?_
        rintro e u2 ⟨rfl, B2⟩
        replace O := O.next B2
        replace W2 := Lib.hid (below_call W2.out B2)
        clear B2 q0 q1 q2
        go_wp2
        go_ret
        exact O.slv w (by omega) W2.out
    · have HA := Lib.hid ha
      clear h ha
      go_enter Try.func23, Try.ntmps23
      go_wp2_with fail
      refine (specPointValidN ax ay _ HA.out).mono ?_
      generalize ((w.alloc (.cells #[.int .i64 ax, .int .i64 ay] 38)).alloc (.cells #[.int .i64 bx, .int .i64 b_y] 38)).alloc (.cells #[] 38) = u0 at *
      rintro e u1 ⟨rfl, B1⟩
      replace O := O.next B1
      replace W2 := Lib.hid (below_call W2.out B1)
      clear B1
      go_wp2
      go_ret
      exact O.slv w (by omega) W2.out
end Go.Proofs.Ytcoaahfnbgkofaa
