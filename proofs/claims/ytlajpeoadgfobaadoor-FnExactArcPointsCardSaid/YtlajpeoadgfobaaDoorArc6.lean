/- ArcPoints of the program. -/
import Derived.Test.YtlajpeoadgfobaaDoorNumArc
import Derived.Test.YtlajpeoadgfobaaDoorRow6
import Derived.Test.YtlajpeoadgfobaaDoorKApp
import Derived.Test.YtlajpeoadgfobaaDoorRot
import Derived.Outline
import Derived.Deep.DeepCutAuto
namespace Go.Proofs.YtlajpeoadgfobaaDoor
set_option maxRecDepth 100000
open Go.RowKit
attribute [local go_sem ↓] Go.wp_at_zero Go.wp_at_succ
theorem arcDirY (d : Int) (w : World) (h : -360 ≤ d ∧ d ≤ 360) : Calls Tryd.prog 45 #[.int .i64 d] w fun e w' => e = .returned (.bool true) ∧ w = w' := by
  obtain ⟨h1, h2⟩ := h
  go_enter Tryd.func45, Tryd.ntmps45
  go_wp2
  go_ret
  exact ⟨rfl, rfl⟩
theorem arcDirN (d : Int) (w : World) (h : ¬ (-360 ≤ d ∧ d ≤ 360)) : Calls Tryd.prog 45 #[.int .i64 d] w fun e w' => e = .returned (.bool false) ∧ w = w' := by
  by_cases h1 : -360 ≤ d
  · have h2 : ¬ d ≤ 360 := fun k => h ⟨h1, k⟩
    clear h
    go_enter Tryd.func45, Tryd.ntmps45
    go_wp2
    go_ret
    exact ⟨rfl, rfl⟩
  · clear h
    go_enter Tryd.func45, Tryd.ntmps45
    go_wp2
    go_ret
    exact ⟨rfl, rfl⟩
set_option maxHeartbeats 2000000 in
theorem arcValid (cx cy r f t s : Int) (w : World) : Calls Tryd.prog 34 #[pt cx cy, .int .i64 r, .int .i64 f, .int .i64 t, .int .i64 s] w fun e w' => e = .returned (.bool (decide (okArc cx cy r f t s))) ∧ Below w.heap.size w w' := by
  by_cases h0 : okP cx cy
  rotate_left
  · have HOK := Lib.hid (show ¬ okArc cx cy r f t s from fun k => h0 k.1)
    replace h0 := Lib.hid h0
    go_enter Tryd.func34, Tryd.ntmps34
    go_wp2_with fail
    refine (validN cx cy _ h0.out).mono ?_
    rintro e u1 ⟨rfl, B1⟩
    have HB := Lib.hid (below_call (below_box w (.cells #[.int .i64 cx, .int .i64 cy] 24)) B1)
    clear B1
    go_wp2
    go_ret
    exact ⟨by rw [decide_eq_false HOK.out]; first | rfl | (simp; omega), HB.out⟩
  by_cases h1 : 1 ≤ r
  rotate_left
  · have HOK := Lib.hid (show ¬ okArc cx cy r f t s from fun k => h1 k.2.1.1)
    replace h0 := Lib.hid h0
    go_enter Tryd.func34, Tryd.ntmps34
    go_wp2_with fail
    refine (validY cx cy _ h0.out).mono ?_
    rintro e u1 ⟨rfl, B1⟩
    have HB := Lib.hid (below_call (below_box w (.cells #[.int .i64 cx, .int .i64 cy] 24)) B1)
    clear B1
    go_wp2
    go_ret
    exact ⟨by rw [decide_eq_false HOK.out]; first | rfl | (simp; omega), HB.out⟩
  by_cases h2 : r ≤ 500
  rotate_left
  · have HOK := Lib.hid (show ¬ okArc cx cy r f t s from fun k => h2 k.2.1.2)
    replace h0 := Lib.hid h0
    go_enter Tryd.func34, Tryd.ntmps34
    go_wp2_with fail
    refine (validY cx cy _ h0.out).mono ?_
    rintro e u1 ⟨rfl, B1⟩
    have HB := Lib.hid (below_call (below_box w (.cells #[.int .i64 cx, .int .i64 cy] 24)) B1)
    clear B1
    go_wp2
    go_ret
    exact ⟨by rw [decide_eq_false HOK.out]; first | rfl | (simp; omega), HB.out⟩
  by_cases h3 : -360 ≤ f ∧ f ≤ 360
  rotate_left
  · have HOK := Lib.hid (show ¬ okArc cx cy r f t s from fun k => h3 k.2.2.1)
    replace h0 := Lib.hid h0
    replace h3 := Lib.hid h3
    go_enter Tryd.func34, Tryd.ntmps34
    go_wp2_with fail
    refine (validY cx cy _ h0.out).mono ?_
    rintro e u1 ⟨rfl, B1⟩
    have HB := Lib.hid (below_call (below_box w (.cells #[.int .i64 cx, .int .i64 cy] 24)) B1)
    clear B1
    go_wp2_with fail
    refine (arcDirN f _ h3.out).mono ?_
    rintro e w' ⟨rfl, rfl⟩
    go_wp2
    go_ret
    exact ⟨by rw [decide_eq_false HOK.out]; first | rfl | (simp; omega), HB.out⟩
  by_cases h4 : -360 ≤ t ∧ t ≤ 360
  rotate_left
  · have HOK := Lib.hid (show ¬ okArc cx cy r f t s from fun k => h4 (show -360 ≤ t ∧ t ≤ 360 from ⟨Int.le_trans k.2.2.1.1 k.2.2.2.1.1, k.2.2.2.1.2⟩))
    replace h0 := Lib.hid h0
    replace h3 := Lib.hid h3
    replace h4 := Lib.hid h4
    go_enter Tryd.func34, Tryd.ntmps34
    go_wp2_with fail
    refine (validY cx cy _ h0.out).mono ?_
    rintro e u1 ⟨rfl, B1⟩
    have HB := Lib.hid (below_call (below_box w (.cells #[.int .i64 cx, .int .i64 cy] 24)) B1)
    clear B1
    go_wp2_with fail
    refine (arcDirY f _ h3.out).mono ?_
    rintro e w' ⟨rfl, rfl⟩
    go_wp2_with fail
    refine (arcDirN t _ h4.out).mono ?_
    rintro e w' ⟨rfl, rfl⟩
    go_wp2
    go_ret
    exact ⟨by rw [decide_eq_false HOK.out]; first | rfl | (simp; omega), HB.out⟩
  by_cases h5 : f ≤ t
  rotate_left
  · have HOK := Lib.hid (show ¬ okArc cx cy r f t s from fun k => h5 k.2.2.2.1.1)
    replace h0 := Lib.hid h0
    replace h3 := Lib.hid h3
    replace h4 := Lib.hid h4
    go_enter Tryd.func34, Tryd.ntmps34
    go_wp2_with fail
    refine (validY cx cy _ h0.out).mono ?_
    rintro e u1 ⟨rfl, B1⟩
    have HB := Lib.hid (below_call (below_box w (.cells #[.int .i64 cx, .int .i64 cy] 24)) B1)
    clear B1
    go_wp2_with fail
    refine (arcDirY f _ h3.out).mono ?_
    rintro e w' ⟨rfl, rfl⟩
    go_wp2_with fail
    refine (arcDirY t _ h4.out).mono ?_
    rintro e w' ⟨rfl, rfl⟩
    go_wp2
    go_ret
    exact ⟨by rw [decide_eq_false HOK.out]; first | rfl | (simp; omega), HB.out⟩
  by_cases h6 : 1 ≤ s
  rotate_left
  · have HOK := Lib.hid (show ¬ okArc cx cy r f t s from fun k => h6 k.2.2.2.2.1)
    replace h0 := Lib.hid h0
    replace h3 := Lib.hid h3
    replace h4 := Lib.hid h4
    go_enter Tryd.func34, Tryd.ntmps34
    go_wp2_with fail
    refine (validY cx cy _ h0.out).mono ?_
    rintro e u1 ⟨rfl, B1⟩
    have HB := Lib.hid (below_call (below_box w (.cells #[.int .i64 cx, .int .i64 cy] 24)) B1)
    clear B1
    go_wp2_with fail
    refine (arcDirY f _ h3.out).mono ?_
    rintro e w' ⟨rfl, rfl⟩
    go_wp2_with fail
    refine (arcDirY t _ h4.out).mono ?_
    rintro e w' ⟨rfl, rfl⟩
    go_wp2
    go_ret
    exact ⟨by rw [decide_eq_false HOK.out]; first | rfl | (simp; omega), HB.out⟩
  by_cases h7 : s ≤ 360
  rotate_left
  · have HOK := Lib.hid (show ¬ okArc cx cy r f t s from fun k => h7 k.2.2.2.2.2)
    replace h0 := Lib.hid h0
    replace h3 := Lib.hid h3
    replace h4 := Lib.hid h4
    go_enter Tryd.func34, Tryd.ntmps34
    go_wp2_with fail
    refine (validY cx cy _ h0.out).mono ?_
    rintro e u1 ⟨rfl, B1⟩
    have HB := Lib.hid (below_call (below_box w (.cells #[.int .i64 cx, .int .i64 cy] 24)) B1)
    clear B1
    go_wp2_with fail
    refine (arcDirY f _ h3.out).mono ?_
    rintro e w' ⟨rfl, rfl⟩
    go_wp2_with fail
    refine (arcDirY t _ h4.out).mono ?_
    rintro e w' ⟨rfl, rfl⟩
    go_wp2
    go_ret
    exact ⟨by rw [decide_eq_false HOK.out]; first | rfl | (simp; omega), HB.out⟩
  · have HOK := Lib.hid (show okArc cx cy r f t s from ⟨h0, ⟨h1, h2⟩, h3, ⟨h5, h4.2⟩, h6, h7⟩)
    replace h0 := Lib.hid h0
    replace h3 := Lib.hid h3
    replace h4 := Lib.hid h4
    go_enter Tryd.func34, Tryd.ntmps34
    go_wp2_with fail
    refine (validY cx cy _ h0.out).mono ?_
    rintro e u1 ⟨rfl, B1⟩
    have HB := Lib.hid (below_call (below_box w (.cells #[.int .i64 cx, .int .i64 cy] 24)) B1)
    clear B1
    go_wp2_with fail
    refine (arcDirY f _ h3.out).mono ?_
    rintro e w' ⟨rfl, rfl⟩
    go_wp2_with fail
    refine (arcDirY t _ h4.out).mono ?_
    rintro e w' ⟨rfl, rfl⟩
    go_wp2
    go_ret
    exact ⟨by rw [decide_eq_true HOK.out]; rfl, HB.out⟩
set_option maxHeartbeats 2000000 in
theorem implArcIn (cx cy r f t s : Int) (w : World) (ht : TabAt w) (h : okArc cx cy r f t s) :
    Calls Tryd.prog 17 #[pt cx cy, .int .i64 r, .int .i64 f, .int .i64 t, .int .i64 s] w (PtRow (arcL cx cy r f s (arcN f t s)) w) := by
  obtain ⟨i0, hi0, hz0, hz1, hz2⟩ := info_parts infoPt6
  have HOK := Lib.hid h
  obtain ⟨hp, ⟨r1, r2⟩, ⟨f1, f2⟩, ⟨t1, t2⟩, s1, s2⟩ := h
  obtain ⟨c1, c2, c3, c4⟩ := id hp
  have HP := Lib.hid hp
  have HIN := Lib.hid (fun k => arcN_in k s1 t1)
  have HLE := Lib.hid (arcN_le s1 t1 f1 t2)
  have HTK := Lib.hid (fun (k : Nat) (hk : k < arcN f t s) => (pvals_take6 (arcL cx cy r f s (arcN f t s)) k (by rw [arcL_len]; exact hk)).trans (by rw [arcL_at cx cy r f s _ k hk]))
  have HLEN := Lib.hid (arcL_len cx cy r f s (arcN f t s))
  have HMS := Lib.hid (fun (k : Nat) => (show f + ((k + 1 : Nat) : Int) * s = f + (k : Int) * s + s by rw [Int.natCast_add, Int.add_mul]; simp; omega))
  have HGE := Lib.hid (fun (k : Nat) => (show f ≤ f + (k : Int) * s by have := Int.mul_nonneg (show (0 : Int) ≤ (k : Int) by omega) (show 0 ≤ s by omega); omega))
  have H00 := Lib.hid (show f = f + ((0 : Nat) : Int) * s by simp)
  clear hp
  generalize arcL cx cy r f s (arcN f t s) = L at *
  generalize arcN f t s = n at *
  have PA := AtP.box w cx cy 24
  have HTAB := Lib.hid ht
  clear ht
  go_enter Tryd.func17, Tryd.ntmps17
  go_wp2_with fail
  refine (arcValid cx cy r f t s _).mono ?_
  rintro e u1 ⟨rfl, B1⟩
  rw [decide_eq_true HOK.out]
  have W1 := Lib.hid (below_call (below_box w (.cells #[.int .i64 cx, .int .i64 cy] 24)) B1)
  replace PA := PA.next B1
  clear B1 HOK
  go_wp2
  go_loopw [11, 12] (fun v di wr => ∃ (k : Nat) (d : Int), k ≤ n ∧ di = .int .i64 d ∧ Hid (d = f + (k : Int) * s ∧ f ≤ d ∧ d ≤ 720) ∧ Hid (wr.ownsRow u1.heap.size 24 2 v k (pvals (L.take k))) ∧ Hid (Below u1.heap.size u1 wr)) (fun _ di _ => (1000 - intOf di).toNat)
  case atStart => exact ⟨0, f, Nat.zero_le _, rfl, Lib.hid ⟨H00.out, by omega, by omega⟩, Lib.hid (World.ownsRow_nil _ _ _ _), Lib.hid (Below.refl _ _)⟩
  case round =>
    obtain ⟨k, d, hk, rfl, hd, HO, HW⟩ := hrel
    obtain ⟨d1, d2⟩ := hd.out.2
    by_cases hlt : d ≤ t
    · have HKN := Lib.hid ((HIN.out k).2 (by rw [← hd.out.1]; exact hlt))
      have HT := Lib.hid (HTK.out k HKN.out)
      rw [← hd.out.1] at HT
      have hk7 : k < 721 := Nat.lt_of_lt_of_le HKN.out HLE.out
      obtain ⟨⟨v1, v2⟩, v3, v4⟩ := vec_bd d r1 r2
      have HRP := Lib.hid (fun (q : Kept wr) => keptCall (implRotatePoint r 0 d q.u (HTAB.out.below (below_call (below_call W1.out HW.out) q.b) HTAB.out.lt) (by omega) (by omega)))
      have HPL := Lib.hid (fun (q : Kept wr) => keptCall (plusW cx cy (rotX r 0 d) (rotY r 0 d) q.u (by omega) (by omega) (by omega) (by omega) (by omega) (by omega) (by omega) (by omega)))
      obtain ⟨e1, e2⟩ := (PA.next HW.out).kepts
      go_upto_region 7 with fail
      refine wp_region_app 6 (by kernel_rfl) rfl rfl (by kernel_rfl) ?_
      simp only [List.take_succ_cons, List.take_zero, List.drop_succ_cons, List.drop_zero]
      repeat (go_big_quiet_step ((first | (go_at_call 8; with_reducible exact HRP.out _) | (go_at_call 35; with_reducible exact HPL.out _))))
      refine wpQuiet_nil ?_
      rintro w2 ⟨⟨_, K2⟩, rfl⟩
      clear e1 e2 HRP HPL v1 v2 v3 v4
      generalize cx + rotX r 0 d = nx at *
      generalize cy + rotY r 0 d = ny at *
      have HOa := Lib.hid ((World.ownsRow.kept (row := none) HO.out ⟨K2.os, K2.tape, K2.output, K2.size, fun k hk _ => K2.block k hk⟩ (by cases Value.ownBlock _ <;> simp)).alloc (.cells #[.int .i64 nx, .int .i64 ny] 24))
      have HN := Lib.hid (two_new6 w2 (.int .i64 nx) (.int .i64 ny) 24)
      have HW2 := Lib.hid (below_call (below_call HW.out K2) (below_box w2 (.cells #[.int .i64 nx, .int .i64 ny] 24)))
      have HH := Lib.hid (HW2.out.size)
      have HRB := Lib.hid (fun q hq => (World.ownsRow.lt HOa.out q hq).1)
      clear K2
      go_wp2_with (at_builtin; refine wpList_append_lies _ rfl (.tmp 27) (.tmp 34) 38 rfl u1.heap.size 24 i0 (pt 0 0) 2 16 Tryd.underlying38 hi0 hz0 hz1 hz2 rfl (by decide) _ k (pvals (L.take k)) rfl HOa.out ⟨w2.heap.size, 0, none⟩ 1 1 [.int .i64 nx, .int .i64 ny] rfl rfl HN.out (by intro u hu; simp at hu; rcases hu with rfl | rfl <;> rfl) (by omega) (by unfold maxLen; omega) (by omega) HH.out _ rfl ?_; intro g cap6 w7 own7 grow7 at7 ltg7; have HA7 := Lib.hid (And.intro own7 grow7); clear own7 grow7 at7 ltg7)
      have HO7 := Lib.hid HA7.out.1
      rw [← HT.out] at HO7
      have HW7 := Lib.hid (HW2.out.grown HA7.out.2 HW2.out.size HRB.out)
      refine NoPanic.normal ?_
      go_wp2
      go_roundw
      case rel => exact ⟨k + 1, d + s, HKN.out, rfl, Lib.hid ⟨by rw [HMS.out, ← hd.out.1], by omega, by omega⟩, HO7, HW7⟩
      case measure => simp [intOf]; omega
    · have HKE : Hid (k = n) := Lib.hid (by rcases Nat.lt_or_ge k n with q | q; exact absurd (by rw [hd.out.1]; exact (HIN.out k).1 q) hlt; omega)
      go_wp2
      go_ret
      refine OwnPt.slv (B := u1.heap.size) ?_ w W1.out.size (below_call W1.out HW.out)
      have o := HO.out
      rw [List.take_of_length_le (by rw [HLEN.out, HKE.out]; exact Nat.le_refl _), HKE.out] at o
      unfold OwnPt
      rw [HLEN.out]
      exact o
theorem implArcPoints (cx cy r f t s : Int) (w : World) (ht : TabAt w) :
    Calls Tryd.prog 17 #[pt cx cy, .int .i64 r, .int .i64 f, .int .i64 t, .int .i64 s] w (PtRow (arcV cx cy r f t s) w) := by
  by_cases h : okArc cx cy r f t s
  · rw [arcV_in h]; exact implArcIn cx cy r f t s w ht h
  · rw [arcV_out h]
    have HOK := Lib.hid h
    clear h ht
    go_enter Tryd.func17, Tryd.ntmps17
    go_wp2_with fail
    refine (arcValid cx cy r f t s _).mono ?_
    rintro e u1 ⟨rfl, B1⟩
    rw [decide_eq_false HOK.out]
    have W1 := Lib.hid (below_call (below_box w (.cells #[.int .i64 cx, .int .i64 cy] 24)) B1)
    clear B1 HOK
    go_wp2
    go_ret
    exact nilPt _ _ W1.out
end Go.Proofs.YtlajpeoadgfobaaDoor
