/- The walk of the law FnArcPoints: it returns true at every code. -/
import Derived.Test.YtlajpeoadgfobaaDoorArc6
import Derived.Test.YtlajpeoadgfobaaDoorAs6
import Derived.Test.YtlajpeoadgfobaaDoorDArc
namespace Go.Proofs.YtlajpeoadgfobaaDoor
set_option maxRecDepth 100000
open Go.RowKit
attribute [local go_sem ↓] Go.wp_at_zero Go.wp_at_succ
theorem sq_600 {x : Int} (h0 : -600 ≤ x) (h1 : x ≤ 600) : 0 ≤ x * x ∧ x * x ≤ 360000 := by
  have := mul_bd (A := 600) (B := 600) h0 h1 h0 h1
  exact ⟨sq_nn x, by omega⟩
set_option maxHeartbeats 4000000 in
theorem walkFnArcPoints (w : World) (ht : TabAt w) (a : Option Addr) (len cap : Nat) (zs : List Int) (h : Bytes w a len cap zs) :
    Calls Tryd.prog 5 #[.slice a len cap] w fun e w' => e = .returned (.bool true) ∧ Below w.heap.size w w' := by
  have hle := h.len_le
  obtain ⟨hl, hm⟩ := hle
  unfold maxLen at hm
  have HT := Lib.hid ht
  clear ht
  by_cases hlen : len ≤ 1048576
  · go_enter Tryd.func5, Tryd.ntmps5
    go_wp2_with fail
    refine (drawArcPoints w a len cap zs h).mono ?_
    rintro e w1 ⟨cx, cy, r, f, t, s, rfl, B1⟩
    have PA := AtP.box w1 cx cy 24
    have HB := Lib.hid (below_call B1 (below_box w1 (.cells #[.int .i64 cx, .int .i64 cy] 24)))
    clear B1 h
    have HLE := Lib.hid (arcV_len cx cy r f t s)
    generalize hL : arcV cx cy r f t s = L at *
    have HE := Lib.hid hL
    clear hL
    go_upto_region 4 with fail
    generalize hA : w1.heap.size = A at *
    clear hA
    generalize w1.alloc (.cells #[.int .i64 cx, .int .i64 cy] 24) = w2 at *
    obtain ⟨q0, q1, q2⟩ := id PA
    go_wp2_with fail
    refine (implArcPoints cx cy r f t s _ (HT.out.below HB.out HT.out.lt)).mono ?_
    rintro e w3 ⟨⟨sa, sl, sc⟩, rfl, l3, O3, B3⟩
    rw [HE.out] at l3 O3
    have hl3 : sl ≤ 721 := by simp only at l3; rw [l3]; exact HLE.out
    replace l3 := Lib.hid l3
    simp only at *
    replace PA := PA.next B3
    replace HB := Lib.hid (below_call HB.out B3)
    clear B3 q0 q1 q2
    obtain ⟨q0, q1, q2⟩ := id PA
    go_wp2_with fail
    refine (specArcPoints cx cy r f t s _).mono ?_
    rintro e w4 ⟨⟨ta, tl, tc⟩, rfl, l4, O4, B4⟩
    rw [HE.out] at O4
    clear l4
    simp only at *
    replace PA := PA.next B4
    replace O3 := O3.next B4
    replace HB := Lib.hid (below_call HB.out B4)
    clear B4 q0 q1 q2
    go_wp2_with fail
    refine (samePoints sa ta sl tl sc tc L _ O3.ints O4.ints (by omega)).mono ?_
    rintro e w5 ⟨rfl, B5⟩
    replace PA := PA.next B5
    replace O3 := Lib.hid (O3.next B5).ints
    replace HB := Lib.hid (below_call HB.out B5)
    clear B5 O4
    replace l3 := l3.out
    by_cases hok : okArc cx cy r f t s
    · have HE2 := HE.out
      rw [arcV_in hok] at HE2
      rw [← HE2] at l3 O3
      clear HE2 HE
      rw [arcL_len] at l3
      obtain ⟨hp, ⟨r1, r2⟩, ⟨f1, f2⟩, ⟨t1, t2⟩, s1, s2⟩ := hok
      obtain ⟨c1, c2, c3, c4⟩ := hp
      have HQ := Lib.hid (arcN_quo s1 t1)
      rw [← l3] at HQ O3
      have hn1 : 1 ≤ sl := by rw [l3]; unfold arcN; omega
      clear l3
      obtain ⟨b, rfl, hbl, hc⟩ := O3.out.some hn1
      have HC := Lib.hid (fun k (hk : k < sl) => (show _ ∧ _ from by have := hc k hk; rw [arcL_at cx cy r f s sl k hk] at this; exact this))
      have HVB := Lib.hid (fun d => And.intro (vec_bd d r1 r2) (vec_len d r1 r2))
      clear hc O3 HLE
      have e0 : ((sl : Int) == 0) = false := by simp; omega
      go_wp2
      go_loopw [9] (fun i wr => ∃ k : Nat, k ≤ sl ∧ i = .int .i64 (k : Int) ∧ Hid (Below w5.heap.size w5 wr)) (fun i _ => sl - (intOf i).toNat)
      case atStart => exact ⟨0, Nat.zero_le _, rfl, Lib.hid (Below.refl _ _)⟩
      case round =>
        obtain ⟨k, hk, rfl, HW⟩ := hrel
        have hbr := Nat.lt_of_lt_of_le hbl HW.out.size
        by_cases hlt : k < sl
        · obtain ⟨d0, d1⟩ := HC.out k hlt
          obtain ⟨⟨⟨v1, v2⟩, v3, v4⟩, v5, v6⟩ := HVB.out (f + (k : Int) * s)
          generalize f + (k : Int) * s = d at *
          generalize rotX r 0 d = x at *
          generalize rotY r 0 d = y at *
          obtain ⟨a0, a1⟩ := (PA.next HW.out).kepts
          have g0 := keptCell hbr ((HW.out.cell (p := ⟨b, k * 2, none⟩) hbl).trans d0)
          have j1 : (0 : Int) ≤ (k : Int) := by omega
          have j2 : (k : Int) < (sl : Int) := by omega
          have o1 : IntKind.i64.wrap (cx + x - cx) = x := by rw [show cx + x - cx = x by omega]; exact wrap_in (by omega) (by omega)
          have o2 : IntKind.i64.wrap (cy + y - cy) = y := by rw [show cy + y - cy = y by omega]; exact wrap_in (by omega) (by omega)
          go_upto_region 12 with fail
          refine wp_region_kept (by kernel_rfl) (by kernel_rfl) ?_
          repeat (go_big_quiet_step (fail))
          refine wpQuiet_nil ?_
          rintro w6 ⟨⟨_, B6⟩, rfl⟩
          have HW6 := Lib.hid (below_call HW.out B6)
          have hbr6 := Nat.lt_of_lt_of_le hbl HW6.out.size
          clear a0 a1 g0 B6
          obtain ⟨a0, a1⟩ := (PA.next HW6.out).kepts
          have g1 := keptCell hbr6 ((HW6.out.cell (p := ⟨b, k * 2 + 1, none⟩) hbl).trans d1)
          go_upto_region 13 with fail
          refine wp_region_kept (by kernel_rfl) (by kernel_rfl) ?_
          repeat (go_big_quiet_step (fail))
          refine wpQuiet_nil ?_
          rintro w7 ⟨⟨_, B7⟩, rfl⟩
          have HW7 := Lib.hid (below_call HW6.out B7)
          clear a0 a1 g1 B7 d0 d1 o1 o2
          obtain ⟨z1, z2⟩ := sq_600 (x := x) (by omega) (by omega)
          obtain ⟨z3, z4⟩ := sq_600 (x := y) (by omega) (by omega)
          obtain ⟨z5, z6⟩ := sq_600 (x := r - 1) (by omega) (by omega)
          obtain ⟨z7, z8⟩ := sq_600 (x := r + 1) (by omega) (by omega)
          obtain ⟨xx, hxx⟩ : ∃ q, x * x = q := ⟨_, rfl⟩
          obtain ⟨yy, hyy⟩ : ∃ q, y * y = q := ⟨_, rfl⟩
          obtain ⟨la, hla⟩ : ∃ q, (r - 1) * (r - 1) = q := ⟨_, rfl⟩
          obtain ⟨ua, hua⟩ : ∃ q, (r + 1) * (r + 1) = q := ⟨_, rfl⟩
          rw [hxx] at z1 z2 v5 v6
          rw [hyy] at z3 z4 v5 v6
          rw [hla] at z5 z6 v5
          rw [hua] at z7 z8 v6
          have o1 : IntKind.i64.wrap (x * x) = xx := by rw [hxx]; exact wrap_in (by omega) (by omega)
          have o2 : IntKind.i64.wrap (y * y) = yy := by rw [hyy]; exact wrap_in (by omega) (by omega)
          have o3 : IntKind.i64.wrap ((r - 1) * (r - 1)) = la := by rw [hla]; exact wrap_in (by omega) (by omega)
          have o4 : IntKind.i64.wrap ((r + 1) * (r + 1)) = ua := by rw [hua]; exact wrap_in (by omega) (by omega)
          have f1' : ¬ xx + yy < la := by omega
          have f2' : ¬ ua < xx + yy := by omega
          clear hxx hyy hla hua
          go_wp2
          go_roundw
          case rel => exact ⟨k + 1, by omega, by congr 1, HW7⟩
          case measure => simp [intOf]; omega
        · obtain rfl : k = sl := by omega
          have j2 : ¬ ((k : Int) < (k : Int)) := by omega
          have zs0 : ¬ s = 0 := by omega
          have zs1 : (s == 0) = false := by simp; omega
          obtain ⟨qq, hqq⟩ : ∃ q, (t - f).tdiv s = q := ⟨_, rfl⟩
          have hq2 := HQ.out
          rw [hqq] at hq2
          have o1 : IntKind.i64.wrap qq = qq := wrap_in (by omega) (by omega)
          have o2 : ((k : Int) == qq + 1) = true := by simp; omega
          have q5 : -1 ≤ qq := by omega
          have q6 : qq ≤ 721 := by omega
          replace hq2 := Lib.hid hq2
          have HBB := Lib.hid (below_call HB.out HW.out)
          go_wp2
          go_ret
          exact ⟨rfl, HBB.out⟩
    · have HE2 := HE.out
      rw [arcV_out hok] at HE2
      rw [← HE2] at l3
      clear HE2 HE
      simp only [List.length_nil] at l3
      subst l3
      clear hok O3 HLE
      go_wp2_with fail
      refine (alive _).mono ?_
      rintro e w' ⟨rfl, rfl⟩
      go_wp2
      go_ret
      exact ⟨rfl, HB.out⟩
  · clear h
    go_enter Tryd.func5, Tryd.ntmps5
    go_wp2
    go_ret
    exact ⟨rfl, Below.refl _ _⟩
end Go.Proofs.YtlajpeoadgfobaaDoor
