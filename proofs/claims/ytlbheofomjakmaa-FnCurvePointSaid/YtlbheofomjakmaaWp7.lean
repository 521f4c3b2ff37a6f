/- The walk of the law FnCurvePoint: it returns true at every code. -/
import Derived.Test.YtlbheofomjakmaaWc7
import Derived.Test.YtlbheofomjakmaaBx7
import Derived.Test.YtlbheofomjakmaaSr7
namespace Go.Proofs.Ytlbheofomjakmaa
set_option maxRecDepth 100000
open Go.RowKit
attribute [local go_sem ↓] Go.wp_at_zero Go.wp_at_succ
theorem rev_getD (ps : List (Int × Int)) (m : Nat) (h : m < ps.length) : ps.reverse.getD (ps.length - (m + 1)) (0, 0) = (pX ps m, pY ps m) := by
  rw [List.getD_eq_getElem?_getD, List.getElem?_reverse (by omega)]
  unfold pX pY
  rw [show ps.length - 1 - (ps.length - (m + 1)) = m by omega, List.getD_eq_getElem?_getD]
theorem crv_ends {ps : List (Int × Int)} (h : okCurve ps) : (crvX ps 0 = pX ps 0 ∧ crvY ps 0 = pY ps 0) ∧ crvX ps 64 = pX ps (ps.length - 1) ∧ crvY ps 64 = pY ps (ps.length - 1) := by
  obtain ⟨a1, a2⟩ := crv_in (ps := ps) (t := 0) ⟨h, by omega, by omega⟩
  obtain ⟨b1, b2⟩ := crv_in (ps := ps) (t := 64) ⟨h, by omega, by omega⟩
  rw [a1, a2, b1, b2]
  exact ⟨cur_first ps, cur_last ps⟩
theorem crv_rev {ps : List (Int × Int)} {t : Int} (h : okCurve ps) (h0 : 0 ≤ t) (h1 : t ≤ 64) : crvX ps.reverse (64 - t) = crvX ps t ∧ crvY ps.reverse (64 - t) = crvY ps t := by
  obtain ⟨a1, a2⟩ := crv_in (ps := ps) (t := t) ⟨h, h0, h1⟩
  obtain ⟨b1, b2⟩ := crv_in (ps := ps.reverse) (t := 64 - t) ⟨okCurve_rev h, by omega, by omega⟩
  rw [a1, a2, b1, b2]
  exact cur_rev ps t h.1
theorem crv_box {ps : List (Int × Int)} {t : Int} (h : okCurve ps) (h0 : 0 ≤ t) (h1 : t ≤ 64) :
    boxV lowF pX ps ≤ crvX ps t ∧ crvX ps t ≤ boxV topF pX ps ∧ boxV lowF pY ps ≤ crvY ps t ∧ crvY ps t ≤ boxV topF pY ps := by
  have hb : okBox ps := ⟨h.1, by have := h.2.1; omega, h.2.2⟩
  obtain ⟨a1, a2⟩ := crv_in (ps := ps) (t := t) ⟨h, h0, h1⟩
  rw [boxV_in hb, boxV_in hb, boxV_in hb, boxV_in hb, a1, a2]
  exact cur_box ps h0 h1
set_option maxHeartbeats 4000000 in
theorem walkFnCurvePoint (w : World) (a : Option Addr) (len cap : Nat) (zs : List Int) (h : Bytes w a len cap zs) :
    Calls Try.prog 4 #[.slice a len cap] w fun e w' => e = .returned (.bool true) ∧ Below w.heap.size w w' := by
  have hle := h.len_le
  obtain ⟨hl, hm⟩ := hle
  unfold maxLen at hm
  by_cases hlen : len ≤ 1048576
  · go_enter Try.func4, Try.ntmps4
    go_wp2_with fail
    refine (drawCurvePoint w a len cap zs h).mono ?_
    rintro e w1 ⟨s, ps, t, rfl, hsl, hn, _, O, t0, t1, B1⟩
    have HL := Lib.hid hsl
    have hs5 : s.len ≤ 5 := by omega
    have HB := Lib.hid B1
    clear B1 h hsl
    generalize hcx : crvX ps t = cx at *
    generalize hcy : crvY ps t = cy at *
    have HE := Lib.hid (And.intro hcx hcy)
    clear hcx hcy
    go_wp2_with fail
    refine (implCurvePoint s.a s.len s.cap ps t _ O.ints (by omega)).mono ?_
    rw [HE.out.1, HE.out.2]
    rintro e w2 ⟨rfl, B2⟩
    replace O := (O.next B2).next (below_box w2 (.cells #[.int .i64 cx, .int .i64 cy] 31))
    replace HB := Lib.hid (below_call (below_call HB.out B2) (below_box w2 (.cells #[.int .i64 cx, .int .i64 cy] 31)))
    have P5 := AtP.box w2 cx cy 31
    clear B2
    go_upto_region 5 with fail
    generalize w2.alloc (.cells #[.int .i64 cx, .int .i64 cy] 31) = w3 at *
    generalize w2.heap.size = g5 at *
    obtain ⟨e1, e2⟩ := P5.kepts
    have HSP := Lib.hid (fun (q : Kept w3) => keptCall (specCurvePoint s.a s.len s.cap ps t q.u (O.next q.b).ints (by omega)))
    rw [HE.out.1, HE.out.2] at HSP
    have z1 : (cx != cx) = false := by simp
    have z2 : (cy != cy) = false := by simp
    have z3 : (cx == cx) = true := by simp
    have z4 : (cy == cy) = true := by simp
    refine wp_region_kept (by kernel_rfl) (by kernel_rfl) ?_
    repeat (go_big_quiet_step ((go_at_call 18; with_reducible exact HSP.out _)))
    refine wpQuiet_nil ?_
    rintro w4 ⟨⟨_, K4⟩, rfl⟩
    replace O := O.next K4
    replace P5 := P5.next K4
    replace HB := Lib.hid (below_call HB.out K4)
    clear K4 e1 e2 HSP
    by_cases hin : okCurve ps ∧ 0 ≤ t ∧ t ≤ 64
    · obtain ⟨hk, i0, i1⟩ := hin
      have HK := Lib.hid hk
      have HBX := crv_box hk i0 i1
      have HEN := Lib.hid (crv_ends hk)
      have HREV := Lib.hid (crv_rev hk i0 i1)
      have HIMP := Lib.hid (fun (w : World) (a : Option Addr) (len cap : Nat) (t : Int) (h : PtsAt w a len ps) (hl : len ≤ 9223372036854775807) => implCurvePoint a len cap ps t w h hl)
      rw [HE.out.1, HE.out.2] at HBX HREV
      have hlen4 : ps.length ≤ 4 := hk.2.1
      obtain ⟨g, c, hv, _, hc⟩ := O.at7 hk.1
      simp only [Value.slice.injEq] at hv
      obtain ⟨hv1, hv2, hv3⟩ := hv
      rw [hv1, hv2, hv3] at O ⊢
      obtain ⟨m, hm'⟩ : ∃ m, ps.length = m + 1 := ⟨ps.length - 1, by have := hk.1; omega⟩
      rw [hm'] at O hc hlen4 ⊢
      have HM := Lib.hid hm'
      have j0 : ¬ t < 0 := by omega
      have j1 : ¬ 64 < t := by omega
      clear hk hv1 hv2 hv3 hm' HL hs5 hn HE
      go_wp2_with fail
      refine (specCurveValid (some ⟨g, 0, none⟩) (m + 1) c ps _ O.ints (by omega)).mono ?_
      rw [decide_eq_true HK.out]
      rintro e w5 ⟨rfl, B5⟩
      replace O := O.next B5
      replace P5 := P5.next B5
      replace HB := Lib.hid (below_call HB.out B5)
      clear B5
      go_wp2_with fail
      refine (implBoxOf (some ⟨g, 0, none⟩) (m + 1) c ps _ O.ints (by omega) (by omega)).mono ?_
      unfold boxE
      generalize boxV lowF pX ps = lx at *
      generalize boxV lowF pY ps = ly at *
      generalize boxV topF pX ps = hx at *
      generalize boxV topF pY ps = hy at *
      rintro e w6 ⟨rfl, B6⟩
      replace O := (O.next B6).next (below_box2 w6 (.cells #[.int .i64 lx, .int .i64 ly] 31) (.cells #[.int .i64 hx, .int .i64 hy] 31))
      replace P5 := (P5.next B6).next (below_box2 w6 (.cells #[.int .i64 lx, .int .i64 ly] 31) (.cells #[.int .i64 hx, .int .i64 hy] 31))
      replace HB := Lib.hid (below_call (below_call HB.out B6) (below_box2 w6 (.cells #[.int .i64 lx, .int .i64 ly] 31) (.cells #[.int .i64 hx, .int .i64 hy] 31)))
      obtain ⟨P6, P7⟩ := at2 w6 lx ly hx hy 31
      clear B6
      go_upto_region 10 with fail
      generalize (w6.alloc (.cells #[.int .i64 lx, .int .i64 ly] 31)).alloc (.cells #[.int .i64 hx, .int .i64 hy] 31) = w7 at *
      generalize w6.heap.size = g6 at *
      have R := Lib.hid (ownPt_empty w7 31 rfl)
      have HW0 := Lib.hid (below_box w7 (.cells #[] 31))
      have HO := Lib.hid O.ints
      clear O
      have HPP := Lib.hid (And.intro P5 (And.intro P6 P7))
      clear P5 P6 P7
      obtain ⟨i00, hi0, hz0, hz1, hz2⟩ := info_parts infoPt6
      go_upto_region 11 with fail
      generalize w7.alloc (.cells #[] 31) = w8 at *
      obtain ⟨b, hb, lt8, hc8⟩ := HO.out.somes (by omega)
      simp only [Option.some.injEq, Addr.mk.injEq, and_true] at hb
      subst hb
      have HC := Lib.hid hc8
      have HLT := Lib.hid lt8
      clear hc8 lt8
      go_wp2
      go_loopw [8, 9] (fun v i wr => ∃ q : Nat, q ≤ m + 1 ∧ i = .int .i64 ((q : Int) - 1) ∧ Hid (wr.ownsRow w7.heap.size 31 2 v (m + 1 - q) (pvals (ps.reverse.take (m + 1 - q)))) ∧ Hid (Below w7.heap.size w7 wr)) (fun _ i _ => (intOf i + 1).toNat)
      case atStart => exact ⟨m + 1, Nat.le_refl _, by congr 1; omega, Lib.hid (by rw [Nat.sub_self]; exact R.out), HW0⟩
      case round =>
        obtain ⟨q, hq, rfl, HR, HW⟩ := hrel
        clear R HW0
        by_cases hq0 : 0 < q
        · obtain ⟨q, rfl⟩ : ∃ q', q = q' + 1 := ⟨q - 1, by omega⟩
          rw [show (((q + 1 : Nat) : Int) - 1) = (q : Int) by omega]
          obtain ⟨j, hj⟩ : ∃ j, m + 1 - (q + 1) = j := ⟨_, rfl⟩
          have hj2 : m + 1 - q = j + 1 := by omega
          rw [hj] at HR
          have HJ := Lib.hid hj2
          have HT : Hid (pvals (ps.reverse.take (j + 1)) = pvals (ps.reverse.take j) ++ [.int .i64 (pX ps q), .int .i64 (pY ps q)]) := Lib.hid (by
            rw [pvals_take6 ps.reverse j (by rw [List.length_reverse, HM.out]; omega)]
            have e := rev_getD ps q (by rw [HM.out]; omega)
            rw [HM.out, hj] at e
            rw [e])
          have hjm : j ≤ 4 := by omega
          obtain ⟨c0, c1⟩ := HC.out q (by omega)
          have d1 : wr.cell? ⟨g, q * 2, none⟩ = _ := (HW.out.cell (p := ⟨g, q * 2, none⟩) HLT.out).trans c0
          have d2 : wr.cell? ⟨g, q * 2 + 1, none⟩ = _ := (HW.out.cell (p := ⟨g, q * 2 + 1, none⟩) HLT.out).trans c1
          have k1 : (0 : Int) ≤ (q : Int) := by omega
          have k2 : (q : Int) < ((m + 1 : Nat) : Int) := by omega
          have k3 : (q : Int) < (m : Int) + 1 := by omega
          clear hj hj2 c0 c1
          generalize pX ps q = px at *
          generalize pY ps q = py at *
          have HOa := Lib.hid (HR.out.alloc (.cells #[.int .i64 px, .int .i64 py] 31))
          have HN := Lib.hid (two_new6 wr (.int .i64 px) (.int .i64 py) 31)
          have HW2 := Lib.hid (below_call HW.out (below_box wr (.cells #[.int .i64 px, .int .i64 py] 31)))
          have HRB := Lib.hid (fun q hq => (World.ownsRow.lt HOa.out q hq).1)
          go_wp2_with (at_builtin; refine wpList_append_lies _ rfl (.tmp 57) (.tmp 62) 23 rfl w7.heap.size 31 i00 (pt 0 0) 2 16 Try.underlying23 hi0 hz0 hz1 hz2 rfl (by decide) _ j (pvals (ps.reverse.take j)) rfl HOa.out ⟨wr.heap.size, 0, none⟩ 1 1 [.int .i64 px, .int .i64 py] rfl rfl HN.out (by intro u hu; simp at hu; rcases hu with rfl | rfl <;> rfl) (by omega) (by unfold maxLen; omega) (by omega) HW2.out.size _ rfl ?_; intro g7 cap6 w9 own7 grow7 at7 ltg7; have HA7 := Lib.hid (And.intro own7 grow7); clear own7 grow7 at7 ltg7)
          have HO7 := Lib.hid HA7.out.1
          rw [← HT.out] at HO7
          have HW7 := Lib.hid (HW2.out.grown HA7.out.2 HW2.out.size HRB.out)
          go_roundw
          case rel => exact ⟨q, by omega, by congr 1, Lib.hid (by rw [HJ.out]; exact HO7.out), HW7⟩
          case measure => simp [intOf]
        · obtain rfl : q = 0 := by omega
          rw [show (((0 : Nat) : Int) - 1) = -1 from rfl]
          rw [Nat.sub_zero, List.take_of_length_le (by rw [List.length_reverse, HM.out]; omega)] at HR
          have OR : OwnPt wr w7.heap.size u8 ps.reverse := by
            have o := HR.out
            unfold OwnPt
            rw [List.length_reverse, HM.out]
            exact o
          obtain ⟨r, rfl, hr⟩ := OR.sl
          rw [List.length_reverse, HM.out] at hr
          have hr5 : r.len ≤ 5 := by omega
          have P5 := HPP.out.1.next HW.out
          have P6 := HPP.out.2.1.next HW.out
          have P7 := HPP.out.2.2.next HW.out
          have PL := HO.out.next HW.out
          have HB9 := Lib.hid (below_call HB.out HW.out)
          clear HR hr HO HPP
          go_wp2_with fail
          refine (implCurvePoint r.a r.len r.cap ps.reverse (64 - t) _ OR.ints (by omega)).mono ?_
          rw [HREV.out.1, HREV.out.2]
          rintro e w9 ⟨rfl, B9⟩
          have B10 := below_call B9 (below_box w9 (.cells #[.int .i64 cx, .int .i64 cy] 31))
          replace P5 := P5.next B10
          replace P6 := P6.next B10
          replace P7 := P7.next B10
          replace PL := PL.next B10
          replace HB9 := Lib.hid (below_call HB9.out B10)
          have P10 := AtP.box w9 cx cy 31
          clear B9 B10 OR
          go_upto_region 16 with fail
          generalize w9.alloc (.cells #[.int .i64 cx, .int .i64 cy] 31) = w10 at *
          generalize w9.heap.size = g10 at *
          have HEN2 := HEN.out
          rw [HM.out, Nat.add_sub_cancel] at HEN2
          have HI0 := Lib.hid (fun (q : Kept w10) => keptCall (HIMP.out q.u (some ⟨g, 0, none⟩) (m + 1) c 0 (PL.next q.b) (by omega)))
          have HI64 := Lib.hid (fun (q : Kept w10) => keptCall (HIMP.out q.u (some ⟨g, 0, none⟩) (m + 1) c 64 (PL.next q.b) (by omega)))
          rw [HEN2.1.1, HEN2.1.2] at HI0
          rw [HEN2.2.1, HEN2.2.2] at HI64
          have HABS := Lib.hid (fun (q : Kept w10) => keptSame (abs7 0 q.u (by omega) (by omega)))
          rw [show max (0 : Int) (-0) = 0 from rfl] at HABS
          obtain ⟨b', hb', lt', hc'⟩ := PL.somes (by omega)
          simp only [Option.some.injEq, Addr.mk.injEq, and_true] at hb'
          subst hb'
          obtain ⟨f0, f1⟩ := hc' 0 (by omega)
          obtain ⟨f2, f3⟩ := hc' m (by omega)
          rw [Nat.zero_mul] at f0 f1
          rw [Nat.zero_add] at f1
          generalize pX ps 0 = x0 at *
          generalize pY ps 0 = y0 at *
          generalize pX ps m = xm at *
          generalize pY ps m = ym at *
          replace f0 := keptCell lt' f0
          replace f1 := keptCell lt' f1
          replace f2 := keptCell lt' f2
          replace f3 := keptCell lt' f3
          obtain ⟨p0, p1⟩ := P5.kepts
          obtain ⟨p2, p3⟩ := P6.kepts
          obtain ⟨p4, p5⟩ := P7.kepts
          obtain ⟨p6, p7⟩ := P10.kepts
          have y1 : (x0 == x0) = true := by simp
          have y2 : (y0 == y0) = true := by simp
          have y3 : (xm == xm) = true := by simp
          have y4 : (ym == ym) = true := by simp
          have k1 : (0 : Int) ≤ (m : Int) := by omega
          have k2 : (m : Int) < ((m + 1 : Nat) : Int) := by omega
          have k3 : (m : Int) < (m : Int) + 1 := by omega
          have k4 : 0 < m + 1 := by omega
          have k5 : (0 : Int) < (m : Int) + 1 := by omega
          have ow : IntKind.i64.wrap (cx - cx) = 0 := by rw [Int.sub_self]; rfl
          have ow2 : IntKind.i64.wrap (cy - cy) = 0 := by rw [Int.sub_self]; rfl
          have ow3 : IntKind.i64.wrap 0 = 0 := rfl
          have ow4 : IntKind.i64.wrap (m : Int) = (m : Int) := wrap_in (by omega) (by omega)
          obtain ⟨b1, b2, b3, b4⟩ := HBX
          clear HEN2 PL P5 P6 P7 P10 hc' lt' HC HLT
          refine wp_region_kept (by kernel_rfl) (by kernel_rfl) ?_
          repeat (go_big_quiet_step ((first | (go_at_call_of 17 (Value.int IntKind.i64 0); with_reducible exact HI0.out _) | (go_at_call_of 17 (Value.int IntKind.i64 64); with_reducible exact HI64.out _) | (go_at_call 20; with_reducible exact HABS.out _))))
          trace_state
          refine wpQuiet_nil ?_
          rintro w11 ⟨⟨_, K11⟩, rfl⟩
          go_wp2
          go_ret
          exact ⟨rfl, below_call HB9.out K11⟩
    · have HZ := crv_out hin
      rw [HE.out.1, HE.out.2] at HZ
      obtain ⟨rfl, rfl⟩ := HZ
      have z5 : ((0 : Int) == 0) = true := rfl
      by_cases hk : okCurve ps
      · have HCV := Lib.hid (specCurveValid s.a s.len s.cap ps _ O.ints (by omega))
        rw [decide_eq_true hk] at HCV
        have ht : t < 0 ∨ (¬ t < 0 ∧ 64 < t) := by
          by_cases q : t < 0
          · exact .inl q
          · exact .inr ⟨q, by have : ¬ t ≤ 64 := fun q2 => hin ⟨hk, by omega, q2⟩; omega⟩
        clear hk hin HL HE hs5 hn
        go_wp2_with fail
        refine HCV.out.mono ?_
        rintro e w5 ⟨rfl, B5⟩
        obtain ⟨_, p0, p1⟩ := P5.next B5
        replace HB := Lib.hid (below_call HB.out B5)
        clear B5 HCV O P5
        rcases ht with ht | ⟨ht, ht2⟩
        · go_wp2_with fail
          refine (alive _).mono ?_
          rintro e w' ⟨rfl, rfl⟩
          go_wp2
          go_ret
          exact ⟨rfl, HB.out⟩
        · go_wp2_with fail
          refine (alive _).mono ?_
          rintro e w' ⟨rfl, rfl⟩
          go_wp2
          go_ret
          exact ⟨rfl, HB.out⟩
      · have HCV := Lib.hid (specCurveValid s.a s.len s.cap ps _ O.ints (by omega))
        rw [decide_eq_false hk] at HCV
        clear hk hin HL HE hs5 hn
        go_wp2_with fail
        refine HCV.out.mono ?_
        rintro e w5 ⟨rfl, B5⟩
        obtain ⟨_, p0, p1⟩ := P5.next B5
        replace HB := Lib.hid (below_call HB.out B5)
        clear B5 HCV O P5
        go_wp2_with fail
        refine (alive _).mono ?_
        rintro e w' ⟨rfl, rfl⟩
        go_wp2
        go_ret
        exact ⟨rfl, HB.out⟩
  · clear h
    go_enter Try.func4, Try.ntmps4
    go_wp2
    go_ret
    exact ⟨rfl, Below.refl _ _⟩
end Go.Proofs.Ytlbheofomjakmaa
