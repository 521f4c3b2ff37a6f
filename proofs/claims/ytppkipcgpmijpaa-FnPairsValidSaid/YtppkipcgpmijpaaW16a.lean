/- The walks of the laws on pairs and their offset. -/
import Derived.Test.YtppkipcgpmijpaaD16
import Derived.Test.YtppkipcgpmijpaaE16
import Derived.Test.YtppkipcgpmijpaaKApp
namespace Go.Proofs.Ytppkipcgpmijpaa
set_option maxRecDepth 100000
open Go.RowKit
attribute [local go_sem ↓] Go.wp_at_zero Go.wp_at_succ
theorem mapR_take {f : Int × Int → Int × Int} {L : List (Int × Int)} {k : Nat} (hk : k < L.length) : (L.map f).take (k + 1) = (L.map f).take k ++ [f (L.getD k (0, 0))] := by
  rw [List.take_succ_eq_append_getElem (by rw [List.length_map]; exact hk), List.getElem_map, List.getD_eq_getElem?_getD, List.getElem?_eq_getElem hk, Option.getD_some]
theorem bad16 : decide (okPairs [((0 : Int), (1001 : Int))]) = false := by decide
theorem none16 : decide (okPairs ([] : List (Int × Int))) = false := by decide
theorem okPairs_first {L : List (Int × Int)} (h : okPairs L) : decide (okPairs (L.take 1)) = true := decide_eq_true ⟨⟨by rw [List.length_take]; have := h.1.1; omega, by rw [List.length_take]; omega⟩, fun c hc => h.2 c (List.mem_of_mem_take hc)⟩
theorem one_pts16 (w : World) (x y : Int) : Prr.PtsAt (w.alloc (.cells #[.int .i64 x, .int .i64 y] 27)) (some ⟨w.heap.size, 0, none⟩) 1 [(x, y)] := by
  refine ⟨rfl, .inr ⟨w.heap.size, rfl, by simp, fun i hi => ?_⟩⟩
  obtain rfl : i = 0 := by simp at hi; omega
  exact ⟨by rw [World.cell?_alloc_at _ _ _ _ rfl]; rfl, by rw [World.cell?_alloc_at _ _ _ _ rfl]; rfl⟩
theorem Prr.PtsAt.take {w : World} {a : Option Addr} {len : Nat} {ps : List (Int × Int)} (h : Prr.PtsAt w a len ps) {k : Nat} (hk : k ≤ len) : Prr.PtsAt w a k (ps.take k) := by
  have hn := h.1
  refine ⟨by rw [List.length_take]; omega, ?_⟩
  rcases h.2 with h2 | ⟨b, h1, h2, h3⟩
  · exact .inl (by rw [h2]; simp)
  · refine .inr ⟨b, h1, h2, fun i hi => ?_⟩
    rw [List.length_take] at hi
    have e : (ps.take k).getD i (0, 0) = ps.getD i (0, 0) := by
      rw [List.getD_eq_getElem?_getD, List.getElem?_take_of_lt (by omega), ← List.getD_eq_getElem?_getD]
    rw [e]
    exact h3 i (by omega)
set_option maxHeartbeats 4000000 in
theorem walkFnPairsValid (w : World) (a : Option Addr) (len cap : Nat) (zs : List Int) (h : Bytes w a len cap zs) :
    Calls Try.prog 3 #[.slice a len cap] w fun e w' => e = .returned (.bool true) ∧ Below w.heap.size w w' := by
  have hle := h.len_le
  obtain ⟨hl, hm⟩ := hle
  unfold maxLen at hm
  obtain ⟨i0, hi0, hz0, hz1, hz2⟩ := info_parts Prr.infoPt6
  by_cases hbig : 1048576 < len
  · go_enter Try.func3, Try.ntmps3
    go_wp2
    go_ret
    exact ⟨rfl, Below.refl _ _⟩
  · go_enter Try.func3, Try.ntmps3
    go_wp2_with fail
    refine (drawPairsValid w a len cap zs h).mono ?_
    rintro e w1 ⟨⟨sa, sl, sc⟩, L, rfl, hsl, hn, hsm, O, hb⟩
    have HB := Lib.hid hb
    have HN := Lib.hid (show sl = L.length from hsl)
    have HSM := Lib.hid hsm
    have hsl21 : sl ≤ 21 := by rw [HN.out]; exact hn
    have hcap : sl ≤ sc := by
      rcases O.2 with ⟨hv, _⟩ | ⟨g, c, cur, hv, _, _, hc, _⟩
      · simp only [Value.slice.injEq] at hv; omega
      · simp only [Value.slice.injEq] at hv; obtain ⟨_, e1, e2⟩ := hv; omega
    clear h hb hsl hn hsm
    have HI := Lib.hid (fun u (q : Prr.OwnPt u w.heap.size (.slice sa sl sc) L) => implPairsValid sa sl sc L u  q.ints (by omega))
    have HS := Lib.hid (fun u (q : Prr.OwnPt u w.heap.size (.slice sa sl sc) L) => specPairsValid sa sl sc L  u q.ints (by omega))
    have HNL := Lib.hid (fun u => implPairsValid none 0 0 [] u ⟨rfl, .inl rfl⟩ (by omega))
    rw [none16] at HNL
    have HX := Lib.hid (fun u => implPairsValid (some ⟨u.heap.size, 0, none⟩) 1 1 [(0, 1001)] (u.alloc (.cells #[.int .i64 0, .int .i64 1001] 27)) (one_pts16 u 0 1001) (by omega))
    rw [bad16] at HX
    by_cases hok : okPairs L
    · rw [decide_eq_true hok] at HI HS
      have h1 : 1 ≤ sl := by rw [HN.out]; exact hok.1.1
      have HF := Lib.hid (fun u (q : Prr.OwnPt u w.heap.size (.slice sa sl sc) L) => implPairsValid sa 1 sc (L.take 1) u (q.ints.take (k := 1) h1) (by omega))
      rw [okPairs_first hok] at HF
      clear hok
      go_wp2_with fail
      refine (HI.out _ O).mono ?_
      rintro e u1 ⟨rfl, B1⟩
      replace O := O.next B1
      replace HB := Lib.hid (below_call HB.out B1)
      clear B1
      go_wp2_with fail
      refine (HS.out _ O).mono ?_
      rintro e w' ⟨rfl, rfl⟩
      go_wp2_with fail
      refine (HNL.out _).mono ?_
      rintro e u2 ⟨rfl, B2⟩
      replace O := O.next B2
      replace HB := Lib.hid (below_call HB.out B2)
      clear B2
      go_wp2_with fail
      refine (HF.out _ O).mono ?_
      rintro e u3 ⟨rfl, B3⟩
      replace O := O.next B3
      replace HB := Lib.hid (below_call HB.out B3)
      clear B3
      go_wp2_with fail
      refine (HX.out _).mono ?_
      rintro e w9 ⟨rfl, B9⟩
      have HB9 := Lib.hid (below_call (below_call HB.out (below_box _ (.cells #[.int .i64 0, .int .i64 1001] 27))) B9)
      clear B9
      go_wp2
      go_ret
      exact ⟨rfl, HB9.out⟩
    · rw [decide_eq_false hok] at HI HS
      clear hok
      go_wp2_with fail
      refine (HI.out _ O).mono ?_
      rintro e u1 ⟨rfl, B1⟩
      replace O := O.next B1
      replace HB := Lib.hid (below_call HB.out B1)
      clear B1
      go_wp2_with fail
      refine (HS.out _ O).mono ?_
      rintro e w' ⟨rfl, rfl⟩
      go_wp2_with fail
      refine (HNL.out _).mono ?_
      rintro e u2 ⟨rfl, B2⟩
      replace O := O.next B2
      replace HB := Lib.hid (below_call HB.out B2)
      clear B2
      go_wp2_with fail
      refine (HX.out _).mono ?_
      rintro e w9 ⟨rfl, B9⟩
      have HB9 := Lib.hid (below_call (below_call HB.out (below_box _ (.cells #[.int .i64 0, .int .i64 1001] 27))) B9)
      clear B9
      go_wp2
      go_ret
      exact ⟨rfl, HB9.out⟩
theorem offN_near {L : List (Int × Int)} (h : okPairs L) (hs : Prr.SmP L) : -1170 ≤ offN L ∧ offN L ≤ 1170 := by
  have hb := sumR_bd (f := dif) (m := 1170) (L := L) (fun c hc => by
    have h1 := h.2 c hc
    have h2 := hs c hc
    obtain ⟨⟨_, _⟩, _, _⟩ := h1
    unfold dif
    omega)
  have h1 := h.1.1
  unfold offN flo
  constructor
  · exact Int.le_ediv_of_mul_le (by omega) (by omega)
  · exact Int.lt_add_one_iff.1 (Int.ediv_lt_of_lt_mul (by omega) (by omega))
set_option maxHeartbeats 4000000 in
theorem walkFnFitOffset (w : World) (a : Option Addr) (len cap : Nat) (zs : List Int) (h : Bytes w a len cap zs) :
    Calls Try.prog 4 #[.slice a len cap] w fun e w' => e = .returned (.bool true) ∧ Below w.heap.size w w' := by
  have hle := h.len_le
  obtain ⟨hl, hm⟩ := hle
  unfold maxLen at hm
  obtain ⟨i0, hi0, hz0, hz1, hz2⟩ := info_parts Prr.infoPt6
  by_cases hbig : 1048576 < len
  · go_enter Try.func4, Try.ntmps4
    go_wp2
    go_ret
    exact ⟨rfl, Below.refl _ _⟩
  · go_enter Try.func4, Try.ntmps4
    go_wp2_with fail
    refine (drawFitOffset w a len cap zs h).mono ?_
    rintro e w1 ⟨⟨sa, sl, sc⟩, L, rfl, hsl, hn, hsm, O, hb⟩
    have HB := Lib.hid hb
    have HN := Lib.hid (show sl = L.length from hsl)
    have HSM := Lib.hid hsm
    have hsl21 : sl ≤ 21 := by rw [HN.out]; exact hn
    have hcap : sl ≤ sc := by
      rcases O.2 with ⟨hv, _⟩ | ⟨g, c, cur, hv, _, _, hc, _⟩
      · simp only [Value.slice.injEq] at hv; omega
      · simp only [Value.slice.injEq] at hv; obtain ⟨_, e1, e2⟩ := hv; omega
    clear h hb hsl hn hsm
    have HI := Lib.hid (fun u (q : Prr.OwnPt u w.heap.size (.slice sa sl sc) L) => implFitOffset sa sl sc L u  q.ints (by omega))
    have HS := Lib.hid (fun u (q : Prr.OwnPt u w.heap.size (.slice sa sl sc) L) => specFitOffset sa sl sc L  u q.ints (by omega))
    have HV := Lib.hid (fun u (q : Prr.OwnPt u w.heap.size (.slice sa sl sc) L) => specPairsValid sa sl sc L  u q.ints (by omega))
    have e1 : (offV L != offV L) = false := by simp
    by_cases hok : okPairs L
    rotate_left
    · rw [show offV L = 0 from if_neg hok] at HI HS e1
      rw [decide_eq_false hok] at HV
      clear hok
      go_wp2_with fail
      refine (HI.out _ O).mono ?_
      rintro e u1 ⟨rfl, B1⟩
      replace O := O.next B1
      replace HB := Lib.hid (below_call HB.out B1)
      clear B1
      go_wp2_with fail
      refine (HS.out _ O).mono ?_
      rintro e u2 ⟨rfl, B2⟩
      replace O := O.next B2
      replace HB := Lib.hid (below_call HB.out B2)
      clear B2
      go_wp2_with fail
      refine (HV.out _ O).mono ?_
      rintro e w' ⟨rfl, rfl⟩
      go_wp2_with fail
      refine (alive _).mono ?_
      rintro e w' ⟨rfl, rfl⟩
      go_wp2
      go_ret
      exact ⟨rfl, HB.out⟩
    rw [show offV L = offN L from if_pos hok] at HI HS e1
    rw [decide_eq_true hok] at HV
    have hbd : -1170 ≤ offN L ∧ offN L ≤ 1170 := offN_near hok HSM.out
    have hbest := offN_best hok.1.1
    have HSH := Lib.hid (fun q : okPairs (shf 1 L) => show offV (shf 1 L) = offN L + 1 from (if_pos q).trans (offN_shift hok.1.1))
    obtain ⟨o, ho⟩ : ∃ o, offN L = o := ⟨_, rfl⟩
    rw [ho] at HI HS e1 hbd hbest HSH
    have HE0 := Lib.hid (fun u (q : Prr.OwnPt u w.heap.size (.slice sa sl sc) L) => implOffsetError sa sl sc L u o q.ints (by omega))
    rw [show errV L o = errN L o from if_pos ⟨hok, by omega⟩] at HE0
    have HE1 := Lib.hid (fun u (q : Prr.PtsAt u sa sl L) => implOffsetError sa sl sc L u (o - 1) q (by omega))
    rw [show errV L (o - 1) = errN L (o - 1) from if_pos ⟨hok, by omega⟩] at HE1
    have HE2 := Lib.hid (fun u (q : Prr.PtsAt u sa sl L) => implOffsetError sa sl sc L u (o + 1) q (by omega))
    rw [show errV L (o + 1) = errN L (o + 1) from if_pos ⟨hok, by omega⟩] at HE2
    obtain ⟨b1, b2⟩ := hbest
    generalize errN L o = n0 at *
    generalize errN L (o - 1) = n1 at *
    generalize errN L (o + 1) = n2 at *
    have o1 : IntKind.i64.wrap (o - 1) = o - 1 := wrap_in (by omega) (by omega)
    have o2 : IntKind.i64.wrap (o + 1) = o + 1 := wrap_in (by omega) (by omega)
    have e3 : ((o + 1 : Int) == o + 1) = true := by simp
    clear ho hok hbd
    go_wp2_with fail
    refine (HI.out _ O).mono ?_
    rintro e u1 ⟨rfl, B1⟩
    replace O := O.next B1
    replace HB := Lib.hid (below_call HB.out B1)
    clear B1
    go_wp2_with fail
    refine (HS.out _ O).mono ?_
    rintro e u2 ⟨rfl, B2⟩
    replace O := O.next B2
    replace HB := Lib.hid (below_call HB.out B2)
    clear B2
    go_wp2_with fail
    refine (HV.out _ O).mono ?_
    rintro e w' ⟨rfl, rfl⟩
    go_wp2_with fail
    refine (HE0.out _ O).mono ?_
    rintro e u3 ⟨rfl, B3⟩
    replace O := O.next B3
    replace HB := Lib.hid (below_call HB.out B3)
    clear B3
    clear HI HS HV HE0
    have BZ := below_box u3 (.cells #[] 27)
    have O0 := Lib.hid O.ints
    have HZ0 := Lib.hid (Prr.ownPt_empty u3 27 rfl)
    have HU0 := Lib.hid BZ
    have HBU := HB
    clear BZ HB O
    go_wp2
    go_loopw [6, 7] (fun v iv wr => ∃ (k : Nat) (zs : List (Int × Int)), k ≤ sl ∧ iv = .int .i64 (k : Int) ∧ Hid (zs = (shf 1 L).take k) ∧ Hid (Prr.OwnPt wr u3.heap.size v zs) ∧ Hid (Below u3.heap.size u3 wr)) (fun _ iv _ => sl - (intOf iv).toNat)
    case atStart => exact ⟨0, [], Nat.zero_le _, rfl, Lib.hid rfl, HZ0, HU0⟩
    case round =>
      obtain ⟨k, zs, hk, rfl, HZS, HO, HU⟩ := hrel
      clear HZ0 HU0
      by_cases hlt : k < sl
      · have HTK := Lib.hid (show (shf 1 L).take (k + 1) = (shf 1 L).take k ++ [(fun c => (c.1, c.2 + 1)) (L.getD k (0, 0))] from mapR_take (f := (fun c => (c.1, c.2 + 1))) (L := L) (k := k) (by rw [← HN.out]; exact hlt))
        have hsm := (HSM.out.at k)
        have HLZ := Lib.hid (show zs.length ≤ 21 by rw [HZS.out, List.length_take, shf_len]; have := HN.out; omega)
        obtain ⟨b, rfl, ltb, hc⟩ := (O0.out.next HU.out).some (by omega)
        obtain ⟨d0, d1⟩ := hc k hlt
        have j1 : (0 : Int) ≤ (k : Int) := by omega
        have j2 : (k : Int) < (sl : Int) := by omega
        unfold pX pY at hsm
        generalize L.getD k (0, 0) = c at *
        obtain ⟨x, y⟩ := c
        simp only at d0 d1 hsm
        obtain ⟨z, hz⟩ : ∃ z, y + 1 = z := ⟨_, rfl⟩
        have p1 : IntKind.i64.wrap (y + 1) = z := by rw [hz]; exact wrap_in (by omega) (by omega)
        simp only [hz] at HTK
        clear hz hsm
        have kc0 := keptCell ltb d0
        have kc1 := keptCell ltb d1
        clear hc
        go_upto_region 14 with fail
        refine wp_region_app 12 (by kernel_rfl) rfl rfl (by kernel_rfl) ?_
        simp only [List.take_succ_cons, List.take_zero, List.drop_succ_cons, List.drop_zero]
        repeat (go_big_quiet_step (fail))
        refine wpQuiet_nil ?_
        rintro wx ⟨⟨_, K2⟩, rfl⟩
        have BX := below_box wx (.cells #[.int .i64 x, .int .i64 z] 27)
        have O2 := HO.out.next K2
        have HW5 := Lib.hid (below_call (below_call HU.out K2) BX)
        have O5 := Lib.hid (O2.next BX)
        have own0 := Lib.hid (World.ownsRow.lt O2)
        have HNW := Lib.hid (two_cs16 wx (.int .i64 x) (.int .i64 z) 27)
        have HP6 := Lib.hid (Prr.pvals_snoc6 zs (x, z))
        have HSZ : Hid (u3.heap.size ≤ (wx.alloc (.cells #[.int .i64 x, .int .i64 z] 27)).heap.size) := Lib.hid HW5.out.size
        have hzl := HLZ.out
        clear BX O2 K2 HO HU HLZ kc0 kc1 d0 d1
        go_wp2_with (at_builtin; refine wpList_append_lies _ rfl (.tmp 37) (.tmp 50) 23 rfl u3.heap.size 27 i0 (pt 0 0) 2 16 Try.underlying23 hi0 hz0 hz1 hz2 rfl (by decide) _ zs.length (Prr.pvals zs) rfl O5.out ⟨wx.heap.size, 0, none⟩ 1 1 [.int .i64 x, .int .i64 z] rfl rfl HNW.out (by intro u hu; simp at hu; rcases hu with rfl | rfl <;> rfl) (by omega) (by unfold maxLen; omega) (by omega) HSZ.out _ rfl ?_; intro g9 cap9 w9 own9 grow9 at9 ltg9; have HA9 := Lib.hid (And.intro own9 grow9); clear own9 grow9 at9 ltg9)
        have HW9 := Lib.hid (HW5.out.grown HA9.out.2 HW5.out.size (fun q hq => (own0.out q hq).1))
        have O9 := Lib.hid (show Prr.OwnPt w9 u3.heap.size (.slice (some ⟨g9, 0, none⟩) (zs.length + 1) cap9) (zs ++ [(x, z)]) by
          have o9 := HA9.out.1
          rw [← HP6.out] at o9
          unfold Prr.OwnPt
          rw [List.length_append]
          exact o9)
        clear HA9 HW5 O5
        refine NoPanic.normal ?_
        go_wp2
        go_roundw
        case rel => exact ⟨k + 1, zs ++ [(x, z)], by omega, by congr 1, Lib.hid (by rw [HTK.out, ← HZS.out]), O9, HW9⟩
        case measure => simp [intOf]; omega
      · obtain rfl : k = sl := by omega
        have ZS := HO
        rw [HZS.out, show (shf 1 L).take k = shf 1 L by rw [HN.out, show L.length = (shf 1 L).length from (shf_len ..).symm, List.take_length]] at ZS
        clear HZS HO
        have HP := O0.out.next HU.out
        have HB1 := Lib.hid (below_call HBU.out HU.out)
        have zl : (shf 1 L).length = k := by rw [shf_len, ← HN.out]
        obtain ⟨⟨za, zn, zc⟩, rfl, hzn⟩ := ZS.out.sl
        obtain rfl : zn = k := by simp only at hzn; rw [hzn]; exact zl
        have ZP := Prr.OwnPt.ints ZS.out
        have HV2 := Lib.hid (fun u q => implPairsValid za zn zc (shf 1 L) u q (by omega))
        have HF2 := Lib.hid (fun u q => implFitOffset za zn zc (shf 1 L) u q (by omega))
        clear ZS HU hzn zl
        go_wp2_with fail
        refine (HE1.out _ HP).mono ?_
        rintro e v1 ⟨rfl, B1⟩
        replace HP := HP.next B1
        replace ZP := ZP.next B1
        have HB2 := Lib.hid (below_call HB1.out B1)
        clear B1
        go_wp2_with fail
        refine (HE2.out _ HP).mono ?_
        rintro e v2 ⟨rfl, B2⟩
        replace ZP := ZP.next B2
        have HB3 := Lib.hid (below_call HB2.out B2)
        clear B2 HP
        by_cases hs : okPairs (shf 1 L)
        · rw [decide_eq_true hs] at HV2
          rw [HSH.out hs] at HF2
          clear hs
          go_wp2_with fail
          refine (HV2.out _ ZP).mono ?_
          rintro e v3 ⟨rfl, B3⟩
          replace ZP := ZP.next B3
          have HB4 := Lib.hid (below_call HB3.out B3)
          clear B3
          go_wp2_with fail
          refine (HF2.out _ ZP).mono ?_
          rintro e v4 ⟨rfl, B4⟩
          have HB5 := Lib.hid (below_call HB4.out B4)
          clear B4 ZP
          go_wp2
          go_ret
          exact ⟨rfl, HB5.out⟩
        · rw [decide_eq_false hs] at HV2
          clear hs
          go_wp2_with fail
          refine (HV2.out _ ZP).mono ?_
          rintro e v3 ⟨rfl, B3⟩
          have HB4 := Lib.hid (below_call HB3.out B3)
          clear B3 ZP
          go_wp2
          go_ret
          exact ⟨rfl, HB4.out⟩
end Go.Proofs.Ytppkipcgpmijpaa
