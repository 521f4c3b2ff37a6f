/- The walk of the law FnMoveJoints: it returns true at every code. -/
import Derived.Test.YtcoaahfnbgkofaaMs6
import Derived.Test.YtcoaahfnbgkofaaMk6
import Derived.Test.YtcoaahfnbgkofaaDMove
import Derived.Test.YtcoaahfnbgkofaaWMoveT
namespace Go.Proofs.Ytcoaahfnbgkofaa
set_option maxRecDepth 100000
open Go.RowKit
attribute [local go_sem ↓] Go.wp_at_zero Go.wp_at_succ
theorem rowA_none (fs ts : List Int) (d : Int) : rowA fs ts 0 d = fs :=
  list_eq_getD (rowA_len fs ts 0 d) fun i hi => by rw [rowA_len] at hi; rw [rowA_at fs ts 0 d i hi, angA_none]
theorem rowA_all (fs ts : List Int) (d : Int) (hl : fs.length = ts.length) (hd : 0 < d) : rowA fs ts d d = ts :=
  list_eq_getD (by rw [rowA_len, hl]) fun i hi => by rw [rowA_len] at hi; rw [rowA_at fs ts d d i hi, angA_all hd]
/-- Every row has valid angles. -/
theorem rowA_ok {ls lo hi fs ts : List Int} (h : okBoth ls lo hi fs ts) (p d : Int) (hp : 0 ≤ p) (hp1 : p ≤ d) (hd : 0 < d) : okJoints ls lo hi (rowA fs ts p d) := by
  have hl := h.len
  refine ⟨h.1.1, by rw [rowA_len]; exact h.1.2.1, fun i hi' => ?_⟩
  have hi2 : i < fs.length := by have := hi'; rw [rowA_len] at this; exact this
  rw [rowA_at fs ts p d i hi2]
  have a := h.1.2.2 i (by omega)
  have b := h.2.2.2 i (by omega)
  have c := angA_in (f := fs.getD i 0) (t := ts.getD i 0) hp hp1 hd
  omega
/-- A slice that reads as zs. -/
def BefR (w : World) (zs : List Int) (v : Value) : Prop := ∃ s : Sl, v = .slice s.a s.len s.cap ∧ IntsAt w s.a s.len zs
theorem abs6 (n : Int) (w : World) (h0 : -1000000 ≤ n) (h1 : n ≤ 1000000) : Calls Try.prog 15 #[.int .i64 n] w fun e w' => e = .returned (.int .i64 (if n < -n then -n else n)) ∧ w = w' := by
  have o : IntKind.i64.wrap (-n) = -n := IntWalk.i64_in _ (by omega)
  obtain ⟨m, hm⟩ : ∃ m, (if n < -n then -n else n) = m := ⟨_, rfl⟩
  rw [hm]
  go_enter Try.func15, Try.ntmps15
  go_wp2
  go_ret
  exact ⟨rfl, rfl⟩
set_option maxHeartbeats 4000000 in
theorem walkFnMoveJoints (w : World) (a : Option Addr) (len cap : Nat) (zs : List Int) (h : Bytes w a len cap zs) :
    Calls Try.prog 3 #[.slice a len cap] w fun e w' => e = .returned (.bool true) ∧ Below w.heap.size w w' := by
  have hle := h.len_le
  obtain ⟨hl, hm⟩ := hle
  unfold maxLen at hm
  by_cases hlen : len ≤ 1048576
  rotate_left
  · clear h
    go_enter Try.func3, Try.ntmps3
    go_wp2
    go_ret
    exact ⟨rfl, Below.refl _ _⟩
  go_enter Try.func3, Try.ntmps3
  go_wp2_with fail
  refine (drawMoveJoints w a len cap zs h).mono ?_
  rintro e w1 ⟨⟨xa, xl, xc⟩, ⟨ya, yl, yc⟩, ⟨za, zl, zc⟩, ⟨aa, al, ac⟩, ⟨ba, bl, bc⟩, ls, lo, hi, fs, ts, t, r, rfl, i1, i2, i3, i4, i5, ⟨lx, ly, lz, la, lb⟩, _, _, B1⟩
  simp only at i1 i2 i3 i4 i5 lx ly lz la lb
  have P := AtA.box w1 (.slice xa xl xc) (.slice ya yl yc) (.slice za zl zc) 25
  have Bx := below_box w1 (.cells #[.slice xa xl xc, .slice ya yl yc, .slice za zl zc] 25)
  have HI := Lib.hid (And.intro (i1.ints.next Bx) (And.intro (i2.ints.next Bx) (And.intro (i3.ints.next Bx) (And.intro (i4.ints.next Bx) (i5.ints.next Bx)))))
  have HB := Lib.hid (below_call B1 Bx)
  clear B1 Bx h i1 i2 i3 i4 i5
  go_upto_region 4 with fail
  generalize hA : w1.heap.size = A at *
  clear hA
  generalize w1.alloc (.cells #[.slice xa xl xc, .slice ya yl yc, .slice za zl zc] 25) = w2 at *
  obtain ⟨_, p1, p2, p3, _, _, _⟩ := id P
  go_wp2_with fail
  refine (implMoveJoints ⟨xa, xl, xc⟩ ⟨ya, yl, yc⟩ ⟨za, zl, zc⟩ ⟨aa, al, ac⟩ ⟨ba, bl, bc⟩ ls lo hi fs ts t r _ HI.out.1 HI.out.2.1 HI.out.2.2.1 HI.out.2.2.2.1 HI.out.2.2.2.2 (by simp only; omega) (by simp only; omega) (by simp only; omega) (by simp only; omega) (by simp only; omega)).mono ?_
  rintro e w3 ⟨⟨sa, sl, sc⟩, rfl, l3, _, R3, B3⟩
  have HMR := Lib.hid (fun i => Nat.le_trans (moveV_rl ls lo hi fs ts t r i) (show 4 ≤ 1000000 by decide))
  have hl3 : sl ≤ 360 := by simp only at l3; rw [l3]; exact moveV_len ls lo hi fs ts t r
  replace l3 := Lib.hid l3
  simp only at R3
  have HK := Lib.hid B3
  replace P := P.next B3
  clear B3 p1 p2 p3
  obtain ⟨_, p1, p2, p3, _, _, _⟩ := id P
  go_wp2_with fail
  refine (specMoveJoints ⟨xa, xl, xc⟩ ⟨ya, yl, yc⟩ ⟨za, zl, zc⟩ ⟨aa, al, ac⟩ ⟨ba, bl, bc⟩ ls lo hi fs ts t r _ (HI.out.1.next HK.out) (HI.out.2.1.next HK.out) (HI.out.2.2.1.next HK.out) (HI.out.2.2.2.1.next HK.out) (HI.out.2.2.2.2.next HK.out) (by simp only; omega) (by simp only; omega) (by simp only; omega) (by simp only; omega) (by simp only; omega)).mono ?_
  rintro e w4 ⟨⟨ta, tl, tc⟩, rfl, l4, R4, B4⟩
  simp only at R4
  clear l4
  replace HK := Lib.hid (below_call HK.out B4)
  replace P := P.next B4
  replace R3 := R3.next B4
  clear B4 p1 p2 p3
  go_wp2_with fail
  refine (sameRows sa ta sl tl sc tc (moveV ls lo hi fs ts t r) _ R3 R4 (by omega) (fun i _ => HMR.out i)).mono ?_
  rintro e w5 ⟨rfl, B5⟩
  replace HK := Lib.hid (below_call HK.out B5)
  replace P := P.next B5
  replace R3 := Lib.hid (R3.next B5)
  clear B5 R4 HMR
  by_cases hok : okMv ls lo hi fs ts t r
  rotate_left
  · have hz : sl = 0 := by have := l3.out; rw [moveV_out hok] at this; exact this
    subst hz
    clear hok R3 P l3
    go_wp2_with fail
    refine (alive _).mono ?_
    rintro e w' ⟨rfl, rfl⟩
    go_wp2
    go_ret
    exact ⟨rfl, below_call HB.out HK.out⟩
  have HOK := Lib.hid hok
  have HSP := Lib.hid (spd_of hok)
  have HMT := Lib.hid (moveT_len hok)
  rw [moveV_in hok, rowsA_len] at l3
  rw [moveV_in hok] at R3
  have hll := hok.1.len
  have hmost := hok.1.most
  have HMG := Lib.hid (fun i (hi : i < al) => mostD_ge fs ts (i := i) (k := fs.length) (by have := HI.out.2.2.2.1.1; omega))
  rw [show mostD fs ts fs.length = mostV fs ts from rfl] at HMG
  have HRO := Lib.hid (fun p (q1 : 0 ≤ p) (q2 : p ≤ mostV fs ts) (q3 : 0 < mostV fs ts) => rowA_ok hok.1 p (mostV fs ts) q1 q2 q3)
  have ht1 := hok.2.1
  generalize mostV fs ts = d at *
  generalize profV d t r = ps at *
  have m4 := HI.out.2.2.2.1.1
  have m5 := HI.out.2.2.2.2.1
  obtain rfl : bl = al := by omega
  have hw1 : 1 ≤ bl := by omega
  have hw4 : bl ≤ 4 := by omega
  generalize hnn : ps.length = n at *
  obtain rfl : sl = n := l3.out
  have HNL := Lib.hid hnn
  have HRL := Lib.hid (fun p => (rowA_len fs ts p d).trans m4.symm)
  have HR0 := Lib.hid (rowA_none fs ts d)
  have HRD := Lib.hid (fun (q : 0 < d) => rowA_all fs ts d (by omega) q)
  have HPL := Lib.hid (show partS ps sl = d by rw [← hnn]; exact HSP.out.all)
  have HP0 := Lib.hid (partS_zero ps)
  have hd4 : d ≤ 360 := hmost.2
  have hb180 := Lib.hid (And.intro hok.1.1.half hok.1.2.half)
  clear hok hll hmost l3 hnn
  by_cases hn : 1 ≤ sl
  rotate_left
  · obtain rfl : sl = 0 := by omega
    clear R3 P
    go_wp2_with fail
    refine (alive _).mono ?_
    rintro e w' ⟨rfl, rfl⟩
    go_wp2
    go_ret
    exact ⟨rfl, below_call HB.out HK.out⟩
  obtain ⟨b, rfl, hbl, hc⟩ := R3.out.some hn
  have HC := Lib.hid (fun k (hk : k < sl) => (show ∃ s : Sl, w5.cell? ⟨b, k, none⟩ = some (.slice s.a s.len s.cap) ∧ IntsAt w5 s.a s.len (rowA fs ts (partS ps (k + 1)) d) from by
    obtain ⟨s, q1, q2⟩ := hc k hk
    rw [rowsA_at fs ts ps d k (by rw [HNL.out]; exact hk)] at q2
    exact ⟨s, q1, q2⟩))
  have d0 : 0 < d := HSP.out.pos (by rw [HNL.out]; exact hn)
  have e0 : ((sl : Int) == 0) = false := by simp; omega
  have HIF := Lib.hid (HI.out.2.2.2.1.next HK.out)
  have HIT := Lib.hid (HI.out.2.2.2.2.next HK.out)
  have HB0 : Hid (BefR w5 (rowA fs ts (partS ps 0) d) (.slice aa bl ac)) := Lib.hid ⟨⟨aa, bl, ac⟩, rfl, by rw [HP0.out, HR0.out]; exact HIF.out⟩
  clear hc R3 m4 m5
  go_wp2
  go_loopw [9, 10] (fun bv iv wr => ∃ k : Nat, k ≤ sl ∧ iv = .int .i64 (k : Int) ∧ Hid (BefR w5 (rowA fs ts (partS ps k) d) bv) ∧ Hid (Below w5.heap.size w5 wr)) (fun _ iv _ => sl - (intOf iv).toNat)
  case atStart => exact ⟨0, Nat.zero_le _, rfl, HB0, Lib.hid (Below.refl _ _)⟩
  case round =>
    obtain ⟨k, hk, rfl, HBF, HW⟩ := hrel
    clear HB0
    obtain ⟨⟨fa, fl, fc⟩, rfl, IF⟩ := HBF.out
    clear HBF
    simp only at IF
    have hfl : fl = bl := IF.1.trans (HRL.out _)
    subst hfl
    by_cases hlt : k < sl
    · obtain ⟨⟨ra, rl, rc⟩, dr, IR⟩ := HC.out k hlt
      simp only at dr IR
      have hrl : rl = fl := IR.1.trans (HRL.out _)
      subst hrl
      have HNX := Lib.hid (show BefR w5 (rowA fs ts (partS ps (k + 1)) d) (.slice ra rl rc) from ⟨⟨ra, rl, rc⟩, rfl, IR⟩)
      obtain ⟨p3, p4⟩ := HSP.out.sum (k + 1) (by rw [HNL.out]; omega)
      have HPK := Lib.hid (partS_succ ps k (by rw [HNL.out]; exact hlt))
      obtain ⟨s1, s2⟩ := HSP.out.one k (by rw [HNL.out]; exact hlt)
      have HJV := Lib.hid (fun (q : Kept wr) => keptCall (implJointsValid ⟨xa, xl, xc⟩ ⟨ya, yl, yc⟩ ⟨za, zl, zc⟩ ⟨ra, rl, rc⟩ ls lo hi (rowA fs ts (partS ps (k + 1)) d) q.u (((HI.out.1.next HK.out).next HW.out).next q.b) (((HI.out.2.1.next HK.out).next HW.out).next q.b) (((HI.out.2.2.1.next HK.out).next HW.out).next q.b) ((IR.next HW.out).next q.b) (by simp only; omega) (by simp only; omega) (by simp only; omega) (by simp only; omega)))
      rw [decide_eq_true (HRO.out _ p3 p4 d0)] at HJV
      have hbr := Nat.lt_of_lt_of_le hbl HW.out.size
      have dr1 := keptCell hbr ((HW.out.cell (p := ⟨b, k, none⟩) hbl).trans dr)
      obtain ⟨a0, a1, a2⟩ := (P.next HW.out).kepts
      have j1 : (0 : Int) ≤ (k : Int) := by omega
      have j2 : (k : Int) < (sl : Int) := by omega
      go_upto_region 13 with fail
      refine wp_region_kept (by kernel_rfl) (by kernel_rfl) ?_
      repeat (go_big_quiet_step ((go_at_call 14; with_reducible exact HJV.out _)))
      refine wpQuiet_nil ?_
      rintro w6 ⟨⟨_, B6⟩, rfl⟩
      have HW6 := Lib.hid (below_call HW.out B6)
      obtain ⟨b6, o6, rfl, lt6, c6⟩ := IF.some hw1
      obtain ⟨b7, o7, rfl, lt7, c7⟩ := IR.some hw1
      obtain ⟨b1, o1, rfl, lt1, c1⟩ := HIF.out.some hw1
      obtain ⟨b2, o2, rfl, lt2, c2⟩ := HIT.out.some hw1
      have H6 := Lib.hid c6
      have H7 := Lib.hid c7
      have H1 := Lib.hid c1
      have H2 := Lib.hid c2
      have HDR := Lib.hid dr
      clear a0 a1 a2 dr1 dr B6 HJV c6 c7 c1 c2 hbr
      go_upto_region 16 with fail
      go_loopw [11] (fun iv wr => ∃ j : Nat, j ≤ rl ∧ iv = .int .i64 (j : Int) ∧ Hid (Below w5.heap.size w5 wr)) (fun iv _ => rl - (intOf iv).toNat)
      case atStart => exact ⟨0, Nat.zero_le _, rfl, HW6⟩
      case round =>
        clear HW HW6
        obtain ⟨j, hj, rfl, HW⟩ := hrel
        by_cases hj2 : j < rl
        · have g1 := keptCell (Nat.lt_of_lt_of_le lt6 HW.out.size) ((HW.out.cell (p := ⟨b6, o6 + j, none⟩) lt6).trans (H6.out j hj2))
          have g2 := keptCell (Nat.lt_of_lt_of_le lt7 HW.out.size) ((HW.out.cell (p := ⟨b7, o7 + j, none⟩) lt7).trans (H7.out j hj2))
          have g3 := keptCell (Nat.lt_of_lt_of_le hbl HW.out.size) ((HW.out.cell (p := ⟨b, k, none⟩) hbl).trans HDR.out)
          have hjf : j < fs.length := by have := HRL.out 0; rw [rowA_len] at this; omega
          rw [rowA_at fs ts _ d j hjf] at g1 g2
          obtain ⟨m1, m2⟩ := HMG.out j hj2
          have AS := angA_step (f := fs.getD j 0) (t := ts.getD j 0) (p := partS ps k) (s := ps.getD k 0) (d := d) m1 m2 (by omega) d0
          rw [← HPK.out] at AS
          have F1 := Lib.hid (H1.out j hj2)
          have F2 := Lib.hid (H2.out j hj2)
          obtain ⟨v1, v2⟩ := angA_in (f := fs.getD j 0) (t := ts.getD j 0) (p := partS ps (k + 1)) (d := d) p3 p4 d0
          obtain ⟨p5, p6⟩ := HSP.out.sum k (by rw [HNL.out]; omega)
          obtain ⟨v3, v4⟩ := angA_in (f := fs.getD j 0) (t := ts.getD j 0) (p := partS ps k) (d := d) p5 p6 d0
          obtain ⟨u1, u2⟩ := hb180.out.1 j hjf
          obtain ⟨u3, u4⟩ := hb180.out.2 j (by have := HIT.out.1; have := HRL.out 0; rw [rowA_len] at this; omega)
          generalize angA (fs.getD j 0) (ts.getD j 0) (partS ps (k + 1)) d = xr at *
          generalize angA (fs.getD j 0) (ts.getD j 0) (partS ps k) d = xb at *
          generalize fs.getD j 0 = xf at *
          generalize ts.getD j 0 = xt at *
          obtain ⟨dd, hdd⟩ : ∃ dd, xr - xb = dd := ⟨_, rfl⟩
          rw [hdd] at AS
          have od : IntKind.i64.wrap (xr - xb) = dd := by rw [hdd]; exact IntWalk.i64_in _ (by omega)
          obtain ⟨s3, s4, s5, s6⟩ := AS
          have k1 : (0 : Int) ≤ (j : Int) := by omega
          have k2 : (j : Int) < (rl : Int) := by omega
          have hd9 : -1000 ≤ dd ∧ dd ≤ 1000 := by omega
          replace hdd := Lib.hid hdd
          go_upto_region 18 with fail
          refine wp_region_kept (by kernel_rfl) (by kernel_rfl) ?_
          repeat (go_big_quiet_step (fail))
          refine wpQuiet_nil ?_
          rintro w7 ⟨⟨_, B7⟩, rfl⟩
          have HW7 := Lib.hid (below_call HW.out B7)
          have f1 := keptCell (Nat.lt_of_lt_of_le lt1 HW7.out.size) ((HW7.out.cell (p := ⟨b1, o1 + j, none⟩) lt1).trans F1.out)
          have f2 := keptCell (Nat.lt_of_lt_of_le lt2 HW7.out.size) ((HW7.out.cell (p := ⟨b2, o2 + j, none⟩) lt2).trans F2.out)
          have HAB := Lib.hid (fun (q : Kept w7) => keptSame (abs6 dd q.u (by omega) (by omega)))
          obtain ⟨ad, had⟩ : ∃ ad, (if dd < -dd then -dd else dd) = ad := ⟨_, rfl⟩
          have had2 : ¬ (t < ad) := by rw [← had]; split <;> omega
          rw [had] at HAB
          have h01 : decide (t < ad) = false := decide_eq_false had2
          clear g1 g2 g3 B7 od F1 F2 v1 v2 v3 v4 had had2 s3 s4
          go_upto_region 19 with fail
          rcases Int.lt_trichotomy dd 0 with hc0 | hc0 | hc0
          · have c1 : decide (0 < dd) = false := decide_eq_false (by omega)
            have c2 : decide (dd < 0) = true := decide_eq_true hc0
            have c3 : decide (xf < xt) = false := decide_eq_false (fun q => by have := s6 q; omega)
            clear s5 s6 hc0
            refine wp_region_kept (by kernel_rfl) (by kernel_rfl) ?_
            repeat (go_big_quiet_step ((go_at_call 15; with_reducible exact HAB.out _)))
            refine wpQuiet_nil ?_
            rintro w8 ⟨⟨_, B8⟩, rfl⟩
            have HW8 := Lib.hid (below_call HW7.out B8)
            clear f1 f2 B8 HAB
            go_wp2
            go_roundw
            case rel => exact ⟨j + 1, by omega, by congr 1, HW8⟩
            case measure => simp [intOf]; omega
          · subst hc0
            clear s5 s6
            refine wp_region_kept (by kernel_rfl) (by kernel_rfl) ?_
            repeat (go_big_quiet_step ((go_at_call 15; with_reducible exact HAB.out _)))
            refine wpQuiet_nil ?_
            rintro w8 ⟨⟨_, B8⟩, rfl⟩
            have HW8 := Lib.hid (below_call HW7.out B8)
            clear f1 f2 B8 HAB
            go_wp2
            go_roundw
            case rel => exact ⟨j + 1, by omega, by congr 1, HW8⟩
            case measure => simp [intOf]; omega
          · have c1 : decide (0 < dd) = true := decide_eq_true hc0
            have c2 : decide (dd < 0) = false := decide_eq_false (by omega)
            have c3 : decide (xt < xf) = false := decide_eq_false (fun q => by have := s5 q; omega)
            clear s5 s6 hc0
            refine wp_region_kept (by kernel_rfl) (by kernel_rfl) ?_
            repeat (go_big_quiet_step ((go_at_call 15; with_reducible exact HAB.out _)))
            refine wpQuiet_nil ?_
            rintro w8 ⟨⟨_, B8⟩, rfl⟩
            have HW8 := Lib.hid (below_call HW7.out B8)
            clear f1 f2 B8 HAB
            go_wp2
            go_roundw
            case rel => exact ⟨j + 1, by omega, by congr 1, HW8⟩
            case measure => simp [intOf]; omega
        · obtain rfl : j = rl := by omega
          have k2 : ¬ ((j : Int) < (j : Int)) := by omega
          have g3 : wr.cell? ⟨b, k, none⟩ = _ := (HW.out.cell (p := ⟨b, k, none⟩) hbl).trans HDR.out
          go_wp2
          go_roundw
          case rel => exact ⟨k + 1, by omega, by congr 1, HNX, HW⟩
          case measure => simp [intOf]; omega
    · obtain rfl : k = sl := by omega
      have k2 : ¬ ((k : Int) < (k : Int)) := by omega
      rw [HPL.out, HRD.out d0] at IF
      go_wp2_with fail
      refine (sameInts fa ba fl fl fc bc ts _ (IF.next HW.out) (HIT.out.next HW.out) (by omega)).mono ?_
      rintro e w6 ⟨rfl, B6⟩
      have HW6 := Lib.hid (below_call HW.out B6)
      obtain ⟨_, p1, p2, p3, _, _, _⟩ := id (P.next HW6.out)
      have HKK := Lib.hid (below_call HK.out HW6.out)
      clear B6
      go_wp2_with fail
      refine (implMoveTime ⟨xa, xl, xc⟩ ⟨ya, yl, yc⟩ ⟨za, zl, zc⟩ ⟨aa, fl, ac⟩ ⟨ba, fl, bc⟩ ls lo hi fs ts t r _ (HI.out.1.next HKK.out) (HI.out.2.1.next HKK.out) (HI.out.2.2.1.next HKK.out) (HI.out.2.2.2.1.next HKK.out) (HI.out.2.2.2.2.next HKK.out) (by simp only; omega) (by simp only; omega) (by simp only; omega) (by simp only; omega) (by simp only; omega)).mono ?_
      rintro e w7 ⟨rfl, B7⟩
      rw [HMT.out]
      have e9 : ((k : Int) == (k : Int)) = true := by simp
      have HKF := Lib.hid (below_call HKK.out B7)
      clear B7 p1 p2 p3
      go_wp2
      go_ret
      exact ⟨rfl, below_call HB.out HKF.out⟩
end Go.Proofs.Ytcoaahfnbgkofaa
