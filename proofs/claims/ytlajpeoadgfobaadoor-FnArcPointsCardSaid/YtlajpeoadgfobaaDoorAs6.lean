/- ArcPoints of the document. -/
import Derived.Test.YtlajpeoadgfobaaDoorNumArc
import Derived.Test.YtlajpeoadgfobaaDoorRow6
import Derived.Test.YtlajpeoadgfobaaDoorKApp
import Derived.Test.YtlajpeoadgfobaaDoorRot
import Derived.Outline
import Derived.Deep.DeepCutAuto
namespace Go.Proofs.YtlajpeoadgfobaaDoor
set_option maxRecDepth 100000
open Go.RowKit
attribute [local go_sem ↓] Go.wp_at_zero Go.wp_at_succ
set_option maxHeartbeats 2000000 in
theorem specArcIn (cx cy r f t s : Int) (w : World) (h : okArc cx cy r f t s) :
    Calls Tryd.prog 19 #[pt cx cy, .int .i64 r, .int .i64 f, .int .i64 t, .int .i64 s] w (PtRow (arcL cx cy r f s (arcN f t s)) w) := by
  obtain ⟨i0, hi0, hz0, hz1, hz2⟩ := info_parts infoPt6
  have HOK := Lib.hid h
  obtain ⟨hp, ⟨r1, r2⟩, ⟨f1, f2⟩, ⟨t1, t2⟩, s1, s2⟩ := h
  obtain ⟨c1, c2, c3, c4⟩ := id hp
  have HP := Lib.hid hp
  have HIN := Lib.hid (fun k => arcN_in k s1 t1)
  have HLE := Lib.hid (arcN_le s1 t1 f1 t2)
  have HTK := Lib.hid (fun (k : Nat) (hk : k < arcN f t s) => (pvals_take6 (arcL cx cy r f s (arcN f t s)) k (by rw [arcL_len]; exact hk)).trans (by rw [arcL_at cx cy r f s _ k hk]))
  have HLEN := Lib.hid (arcL_len cx cy r f s (arcN f t s))
  have HMS := Lib.hid (fun (k : Nat) => (show f + ((k + 1 : Nat) : Int) * s = f + (k : Int) * s + s by rw [Int.natCast_add, Int.add_mul]; simp; omega))
  have HGE := Lib.hid (fun (k : Nat) => (show f ≤ f + (k : Int) * s by have := Int.mul_nonneg (show (0 : Int) ≤ (k : Int) by omega) (show 0 ≤ s by omega); omega))
  have H00 := Lib.hid (show f = f + ((0 : Nat) : Int) * s by simp)
  clear hp
  generalize arcL cx cy r f s (arcN f t s) = L at *
  generalize arcN f t s = n at *
  have O0 := ownPt_empty (w.alloc (.cells #[.int .i64 cx, .int .i64 cy] 24)) 24 rfl
  rw [show (w.alloc (.cells #[.int .i64 cx, .int .i64 cy] 24)).heap.size = w.heap.size + 1 by simp] at O0
  have PA := (AtP.box w cx cy 24).alloc (.cells #[] 24)
  go_enter Tryd.func19, Tryd.ntmps19
  go_wp2_with fail
  refine (specPointValidY cx cy _ HP.out).mono ?_
  rintro e u1 ⟨rfl, B1⟩
  have W1 := Lib.hid (below_call (below_box2 w (.cells #[.int .i64 cx, .int .i64 cy] 24) (.cells #[] 24)) B1)
  have O := O0.next B1
  replace PA := PA.next B1
  clear B1 O0
  go_wp2_with fail
  refine (l1In_yes r 1 500 _ r1 r2).mono ?_
  rintro e w' ⟨rfl, rfl⟩
  go_wp2_with fail
  refine (l1In_yes f (-360) 360 _ f1 f2).mono ?_
  rintro e w' ⟨rfl, rfl⟩
  go_wp2_with fail
  refine (l1In_yes t f 360 _ t1 t2).mono ?_
  rintro e w' ⟨rfl, rfl⟩
  go_wp2_with fail
  refine (l1In_yes s 1 360 _ s1 s2).mono ?_
  rintro e w' ⟨rfl, rfl⟩
  go_wp2
  have O1 := Lib.hid (show u1.ownsRow (w.heap.size + 1) 24 2 (.slice (some ⟨w.heap.size + 1, 0, none⟩) 0 0) 0 (pvals (L.take 0)) from O)
  clear O HOK
  go_loopw [11, 12] (fun v di wr => ∃ (k : Nat) (d : Int), k ≤ n ∧ di = .int .i64 d ∧ Hid (d = f + (k : Int) * s ∧ f ≤ d ∧ d ≤ 720) ∧ Hid (wr.ownsRow (w.heap.size + 1) 24 2 v k (pvals (L.take k))) ∧ Hid (Below w.heap.size w wr) ∧ Hid (AtP wr w.heap.size cx cy)) (fun _ di _ => (1000 - intOf di).toNat)
  case atStart => exact ⟨0, f, Nat.zero_le _, rfl, Lib.hid ⟨H00.out, by omega, by omega⟩, O1, W1, Lib.hid PA⟩
  case round =>
    obtain ⟨k, d, hk, rfl, hd, HO, HW, HPA⟩ := hrel
    clear O1 W1 PA
    obtain ⟨d1, d2⟩ := hd.out.2
    by_cases hlt : d ≤ t
    · have HKN := Lib.hid ((HIN.out k).2 (by rw [← hd.out.1]; exact hlt))
      have HT := Lib.hid (HTK.out k HKN.out)
      rw [← hd.out.1] at HT
      have hk7 : k < 721 := Nat.lt_of_lt_of_le HKN.out HLE.out
      obtain ⟨⟨v1, v2⟩, v3, v4⟩ := vec_bd d r1 r2
      have hol := okLen r1 r2
      replace hol := Lib.hid hol
      go_wp2_with fail
      refine (l2Turn r 0 d _ hol.out (by omega) (by omega)).mono ?_
      rintro e w3 ⟨rfl, K3⟩
      generalize hrx : rotX r 0 d = rx at *
      generalize hry : rotY r 0 d = ry at *
      clear hrx hry
      have o5 : IntKind.i64.wrap (cx + rx) = cx + rx := wrap_in (by omega) (by omega)
      have o6 : IntKind.i64.wrap (cy + ry) = cy + ry := wrap_in (by omega) (by omega)
      replace HPA := Lib.hid (HPA.out.next K3)
      replace HO := Lib.hid (World.ownsRow.kept (row := none) HO.out ⟨K3.os, K3.tape, K3.output, K3.size, fun k hk _ => K3.block k hk⟩ (by cases Value.ownBlock _ <;> simp))
      replace HW := Lib.hid (below_call HW.out K3)
      have PR := AtP.box w3 rx ry 24
      have PL := HPA.out.alloc (.cells #[.int .i64 rx, .int .i64 ry] 24)
      obtain ⟨e1, e2⟩ := PL.kepts
      obtain ⟨e3, e4⟩ := PR.kepts
      clear K3
      go_upto_region 8 with fail
      replace HO := Lib.hid (HO.out.alloc (.cells #[.int .i64 rx, .int .i64 ry] 24))
      replace HW := Lib.hid (below_call HW.out (below_box w3 (.cells #[.int .i64 rx, .int .i64 ry] 24)))
      obtain ⟨_, e5, e6⟩ := id PL
      obtain ⟨_, e7, e8⟩ := id PR
      generalize w3.alloc (.cells #[.int .i64 rx, .int .i64 ry] 24) = w4 at *
      generalize w3.heap.size = gb at *
      have K2 : Below w4.heap.size w4 w4 := Below.refl _ _
      have HOa := Lib.hid ((World.ownsRow.kept (row := none) HO.out ⟨K2.os, K2.tape, K2.output, K2.size, fun k hk _ => K2.block k hk⟩ (by cases Value.ownBlock _ <;> simp)).alloc (.cells #[.int .i64 (cx + rx), .int .i64 (cy + ry)] 24))
      have HN := Lib.hid (two_new6 w4 (.int .i64 (cx + rx)) (.int .i64 (cy + ry)) 24)
      have HW2 := Lib.hid (below_call (below_call HW.out K2) (below_box w4 (.cells #[.int .i64 (cx + rx), .int .i64 (cy + ry)] 24)))
      have HH := Lib.hid (show w.heap.size + 1 ≤ (w4.alloc (.cells #[.int .i64 (cx + rx), .int .i64 (cy + ry)] 24)).heap.size by have := PL.lt; simp; omega)
      have HRB := Lib.hid (fun q hq => (World.ownsRow.lt HOa.out q hq).1)
      clear K2 e1 e2 e3 e4
      go_wp2_with (at_builtin; refine wpList_append_lies _ rfl (.tmp 51) (.tmp 63) 38 rfl (w.heap.size + 1) 24 i0 (pt 0 0) 2 16 Tryd.underlying38 hi0 hz0 hz1 hz2 rfl (by decide) _ k (pvals (L.take k)) rfl HOa.out ⟨w4.heap.size, 0, none⟩ 1 1 [.int .i64 (cx + rx), .int .i64 (cy + ry)] rfl rfl HN.out (by intro u hu; simp at hu; rcases hu with rfl | rfl <;> rfl) (by omega) (by unfold maxLen; omega) (by omega) HH.out _ rfl ?_; intro g cap6 w7 own7 grow7 at7 ltg7; have HA7 := Lib.hid (And.intro own7 grow7); clear own7 grow7 at7 ltg7)
      have HO7 := Lib.hid HA7.out.1
      rw [← HT.out] at HO7
      have HW7 := Lib.hid (HW2.out.grown HA7.out.2 HW2.out.size (fun q hq => by have := HRB.out q hq; omega))
      have HPA7 := Lib.hid ((PL.alloc (.cells #[.int .i64 (cx + rx), .int .i64 (cy + ry)] 24)).row6 HA7.out.2 (fun e => by have := HRB.out _ e.symm; omega))
      go_roundw
      case rel => exact ⟨k + 1, d + s, HKN.out, rfl, Lib.hid ⟨by rw [HMS.out, ← hd.out.1], by omega, by omega⟩, HO7, HW7, HPA7⟩
      case measure => simp [intOf]; omega
    · have HKE : Hid (k = n) := Lib.hid (by rcases Nat.lt_or_ge k n with q | q; exact absurd (by rw [hd.out.1]; exact (HIN.out k).1 q) hlt; omega)
      go_wp2
      go_ret
      refine OwnPt.slv (B := (w.heap.size + 1)) ?_ w (by omega) HW.out
      have o := HO.out
      rw [List.take_of_length_le (by rw [HLEN.out, HKE.out]; exact Nat.le_refl _), HKE.out] at o
      unfold OwnPt
      rw [HLEN.out]
      exact o
set_option maxHeartbeats 2000000 in
theorem specArcPoints (cx cy r f t s : Int) (w : World) :
    Calls Tryd.prog 19 #[pt cx cy, .int .i64 r, .int .i64 f, .int .i64 t, .int .i64 s] w (PtRow (arcV cx cy r f t s) w) := by
  by_cases h : okArc cx cy r f t s
  · rw [arcV_in h]; exact specArcIn cx cy r f t s w h
  rw [arcV_out h]
  have O0 := ownPt_empty (w.alloc (.cells #[.int .i64 cx, .int .i64 cy] 24)) 24 rfl
  rw [show (w.alloc (.cells #[.int .i64 cx, .int .i64 cy] 24)).heap.size = w.heap.size + 1 by simp] at O0
  have PA := (AtP.box w cx cy 24).alloc (.cells #[] 24)
  by_cases hp : okP cx cy
  rotate_left
  · have HP := Lib.hid hp
    clear h hp
    go_enter Tryd.func19, Tryd.ntmps19
    go_wp2_with fail
    refine (specPointValidN cx cy _ HP.out).mono ?_
    rintro e u1 ⟨rfl, B1⟩
    have W1 := Lib.hid (below_call (below_box2 w (.cells #[.int .i64 cx, .int .i64 cy] 24) (.cells #[] 24)) B1)
    have O := O0.next B1
    replace PA := PA.next B1
    clear B1 O0
    go_wp2
    go_ret
    exact O.slv w (by omega) W1.out
  by_cases q1 : 1 ≤ r ∧ r ≤ 500
  rotate_left
  · have HP := Lib.hid hp
    have hn : Hid (r < 1 ∨ 500 < r) := Lib.hid (by omega)
    clear h hp q1
    go_enter Tryd.func19, Tryd.ntmps19
    go_wp2_with fail
    refine (specPointValidY cx cy _ HP.out).mono ?_
    rintro e u1 ⟨rfl, B1⟩
    have W1 := Lib.hid (below_call (below_box2 w (.cells #[.int .i64 cx, .int .i64 cy] 24) (.cells #[] 24)) B1)
    have O := O0.next B1
    replace PA := PA.next B1
    clear B1 O0
    go_wp2_with fail
    refine (l1In_no r 1 500 _ hn.out).mono ?_
    rintro e w' ⟨rfl, rfl⟩
    go_wp2
    go_ret
    exact O.slv w (by omega) W1.out
  by_cases q2 : -360 ≤ f ∧ f ≤ 360
  rotate_left
  · have HP := Lib.hid hp
    have hn : Hid (f < -360 ∨ 360 < f) := Lib.hid (by omega)
    obtain ⟨r1, r2⟩ := q1
    clear h hp q2
    go_enter Tryd.func19, Tryd.ntmps19
    go_wp2_with fail
    refine (specPointValidY cx cy _ HP.out).mono ?_
    rintro e u1 ⟨rfl, B1⟩
    have W1 := Lib.hid (below_call (below_box2 w (.cells #[.int .i64 cx, .int .i64 cy] 24) (.cells #[] 24)) B1)
    have O := O0.next B1
    replace PA := PA.next B1
    clear B1 O0
    go_wp2_with fail
    refine (l1In_yes r 1 500 _ r1 r2).mono ?_
    rintro e w' ⟨rfl, rfl⟩
    go_wp2_with fail
    refine (l1In_no f (-360) 360 _ hn.out).mono ?_
    rintro e w' ⟨rfl, rfl⟩
    go_wp2
    go_ret
    exact O.slv w (by omega) W1.out
  by_cases q3 : f ≤ t ∧ t ≤ 360
  rotate_left
  · have HP := Lib.hid hp
    have hn : Hid (t < f ∨ 360 < t) := Lib.hid (by omega)
    obtain ⟨r1, r2⟩ := q1
    obtain ⟨f1, f2⟩ := q2
    clear h hp q3
    go_enter Tryd.func19, Tryd.ntmps19
    go_wp2_with fail
    refine (specPointValidY cx cy _ HP.out).mono ?_
    rintro e u1 ⟨rfl, B1⟩
    have W1 := Lib.hid (below_call (below_box2 w (.cells #[.int .i64 cx, .int .i64 cy] 24) (.cells #[] 24)) B1)
    have O := O0.next B1
    replace PA := PA.next B1
    clear B1 O0
    go_wp2_with fail
    refine (l1In_yes r 1 500 _ r1 r2).mono ?_
    rintro e w' ⟨rfl, rfl⟩
    go_wp2_with fail
    refine (l1In_yes f (-360) 360 _ f1 f2).mono ?_
    rintro e w' ⟨rfl, rfl⟩
    go_wp2_with fail
    refine (l1In_no t f 360 _ hn.out).mono ?_
    rintro e w' ⟨rfl, rfl⟩
    go_wp2
    go_ret
    exact O.slv w (by omega) W1.out
  by_cases q4 : 1 ≤ s ∧ s ≤ 360
  rotate_left
  · have HP := Lib.hid hp
    have hn : Hid (s < 1 ∨ 360 < s) := Lib.hid (by omega)
    obtain ⟨r1, r2⟩ := q1
    obtain ⟨f1, f2⟩ := q2
    obtain ⟨t1, t2⟩ := q3
    clear h hp q4
    go_enter Tryd.func19, Tryd.ntmps19
    go_wp2_with fail
    refine (specPointValidY cx cy _ HP.out).mono ?_
    rintro e u1 ⟨rfl, B1⟩
    have W1 := Lib.hid (below_call (below_box2 w (.cells #[.int .i64 cx, .int .i64 cy] 24) (.cells #[] 24)) B1)
    have O := O0.next B1
    replace PA := PA.next B1
    clear B1 O0
    go_wp2_with fail
    refine (l1In_yes r 1 500 _ r1 r2).mono ?_
    rintro e w' ⟨rfl, rfl⟩
    go_wp2_with fail
    refine (l1In_yes f (-360) 360 _ f1 f2).mono ?_
    rintro e w' ⟨rfl, rfl⟩
    go_wp2_with fail
    refine (l1In_yes t f 360 _ t1 t2).mono ?_
    rintro e w' ⟨rfl, rfl⟩
    go_wp2_with fail
    refine (l1In_no s 1 360 _ hn.out).mono ?_
    rintro e w' ⟨rfl, rfl⟩
    go_wp2
    go_ret
    exact O.slv w (by omega) W1.out
  exact absurd ⟨hp, q1, q2, q3, q4⟩ h
end Go.Proofs.YtlajpeoadgfobaaDoor
