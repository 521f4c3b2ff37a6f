/- The walks of the laws on pairs and their slope. -/
import Derived.Test.YtppkipcgpmijpaaD16
import Derived.Test.YtppkipcgpmijpaaW16a
import Derived.Test.YtppkipcgpmijpaaKApp
namespace Go.Proofs.Ytppkipcgpmijpaa
set_option maxRecDepth 100000
open Go.RowKit
attribute [local go_sem ↓] Go.wp_at_zero Go.wp_at_succ
/-- Two rows in blocks of their own. -/
def Apart16 (v v2 : Value) : Prop := ∀ q, v.ownBlock = some q → v2.ownBlock ≠ some q
theorem Apart16.symm {v v2 : Value} (h : Apart16 v v2) : Apart16 v2 v := fun q hq h2 => h q h2 hq
theorem Apart16.row {v v2 : Value} (h : Apart16 v v2) : v2.ownBlock = none ∨ v2.ownBlock ≠ v.ownBlock := by
  cases hq : v2.ownBlock with
  | none => exact .inl rfl
  | some q => exact .inr (fun e => h q e.symm hq)
/-- The row that has grown lies apart still. -/
theorem Apart16.grown {v v2 : Value} {g n c H : Nat} (h : Apart16 v v2) (hg : v.ownBlock = some g ∨ g = H) (h2 : ∀ q, v2.ownBlock = some q → q < H) : Apart16 (.slice (some ⟨g, 0, none⟩) n c) v2 := fun q hq k => by
  have e : g = q := by simpa [Value.ownBlock] using hq
  subst e
  rcases hg with h1 | h1
  · exact h _ h1 k
  · have := h2 _ k; omega
theorem slope_low {L : List (Int × Int)} {d : Int} (h : okPairs L ∧ denN L ≠ 0) (hd : 2 ≤ d) (h1 : (slpA L).tmod d = 0) (h2 : (slpB L).tmod d = 0) : False := by
  rw [show slpA L = numN L / gcdI (numN L) (denN L) from if_pos h] at h1
  rw [show slpB L = denN L / gcdI (numN L) (denN L) from if_pos h] at h2
  exact gcdI_low h.2 hd (Int.dvd_of_tmod_eq_zero h1) (Int.dvd_of_tmod_eq_zero h2)
theorem slpB_zero {L : List (Int × Int)} (h : ¬ (okPairs L ∧ denN L ≠ 0)) : slpA L = 0 ∧ slpB L = 0 := ⟨if_neg h, if_neg h⟩
theorem tmod_small {a d : Int} (hd : 0 < d) : -d < a.tmod d ∧ a.tmod d < d := by
  constructor
  · have := Int.lt_tmod_of_pos a hd; omega
  · exact Int.tmod_lt_of_pos a hd
set_option maxHeartbeats 4000000 in
theorem walkFnFitSlope (w : World) (a : Option Addr) (len cap : Nat) (zs : List Int) (h : Bytes w a len cap zs) :
    Calls Try.prog 6 #[.slice a len cap] w fun e w' => e = .returned (.bool true) ∧ Below w.heap.size w w' := by
  have hle := h.len_le
  obtain ⟨hl, hm⟩ := hle
  unfold maxLen at hm
  obtain ⟨i0, hi0, hz0, hz1, hz2⟩ := info_parts Prr.infoPt6
  by_cases hbig : 1048576 < len
  · go_enter Try.func6, Try.ntmps6
    go_wp2
    go_ret
    exact ⟨rfl, Below.refl _ _⟩
  · go_enter Try.func6, Try.ntmps6
    go_wp2_with fail
    refine (drawFitSlope w a len cap zs h).mono ?_
    rintro e w1 ⟨⟨sa, sl, sc⟩, L, rfl, hsl, hn, hsm, O, hb⟩
    have HB := Lib.hid hb
    have HN := Lib.hid (show sl = L.length from hsl)
    have HSM := Lib.hid hsm
    have hsl21 : sl ≤ 21 := by rw [HN.out]; exact hn
    have hcap : sl ≤ sc := by
      rcases O.2 with ⟨hv, _⟩ | ⟨g, c, cur, hv, _, _, hc, _⟩
      · simp only [Value.slice.injEq] at hv; omega
      · simp only [Value.slice.injEq] at hv; obtain ⟨_, e1, e2⟩ := hv; omega
    clear h hb hsl hn hsm
    have HI := Lib.hid (fun u (q : Prr.OwnPt u w.heap.size (.slice sa sl sc) L) => implFitSlope sa sl sc L u  q.ints (by omega))
    have HS := Lib.hid (fun u (q : Prr.OwnPt u w.heap.size (.slice sa sl sc) L) => specFitSlope sa sl sc L  u q.ints (by omega))
    have HLOW := Lib.hid (fun (d : Int) (h : okPairs L ∧ denN L ≠ 0) (hd : 2 ≤ d) h1 h2 => slope_low (L := L) (d := d) h hd h1 h2)
    have HPOS := Lib.hid (fun h => slpB_pos (L := L) h)
    have HZER := Lib.hid (fun h => slpB_zero (L := L) h)
    have HLN := Lib.hid (fun (h : okPairs (lnr L)) (hd : denN L ≠ 0) => slp_lin h hd)
    have HSF := Lib.hid (fun (h : okPairs L) (h2 : okPairs (shf 5 L)) => slp_shift h h2)
    generalize slpA L = ra at *
    generalize slpB L = rb at *
    have e1 : (ra != ra) = false := by simp
    have e2 : (rb != rb) = false := by simp
    go_wp2_with fail
    refine (HI.out _ O).mono ?_
    rintro e u1 ⟨rfl, B1⟩
    replace O := O.next B1
    replace HB := Lib.hid (below_call HB.out B1)
    clear B1
    go_wp2_with fail
    refine (HS.out _ O).mono ?_
    rintro e u2 ⟨rfl, B2⟩
    replace O := O.next B2
    replace HB := Lib.hid (below_call HB.out B2)
    clear B2
    clear HI HS
    by_cases hok : okPairs L ∧ denN L ≠ 0
    rotate_left
    · obtain ⟨z1, z2⟩ := HZER.out hok
      have e3 : (rb == 0) = true := by rw [z2]; rfl
      have e4 : (ra == 0) = true := by rw [z1]; rfl
      clear z1 z2 hok HLOW HPOS HZER HLN HSF
      go_wp2_with fail
      refine (alive _).mono ?_
      rintro e w' ⟨rfl, rfl⟩
      go_wp2
      go_ret
      exact ⟨rfl, HB.out⟩
    have hpos := HPOS.out hok
    have HB0 := Lib.hid hpos
    have e3 : (rb == 0) = false := by simp; omega
    have HOK := Lib.hid hok
    clear hok HPOS HZER hpos
    have O0 := Lib.hid O.ints
    have BZ1 := below_box u2 (.cells #[] 27)
    have BZ2 := below_box (u2.alloc (.cells #[] 27)) (.cells #[] 27)
    have ZA := Lib.hid ((Prr.ownPt_empty u2 27 rfl).next BZ2)
    have ZB0 := Prr.ownPt_empty (u2.alloc (.cells #[] 27)) 27 rfl
    rw [show (u2.alloc (.cells #[] 27)).heap.size = u2.heap.size + 1 by simp] at ZB0
    have ZB := Lib.hid (Prr.OwnPt.down6 ZB0 (Nat.le_succ u2.heap.size))
    have ZAP := Lib.hid (show Apart16 (.slice (some ⟨u2.heap.size, 0, none⟩) 0 0) (.slice (some ⟨u2.heap.size + 1, 0, none⟩) 0 0) from fun q h1 h2 => by simp [Value.ownBlock] at h1 h2; omega)
    have HU0 := Lib.hid (below_call BZ1 BZ2)
    have HBU := HB
    clear BZ1 BZ2 ZB0 O HB
    go_wp2
    go_loopw [8, 9, 10] (fun v v2 iv wr => ∃ (k : Nat) (zs ys : List (Int × Int)), k ≤ sl ∧ iv = .int .i64 (k : Int) ∧ Hid (zs = (lnr L).take k) ∧ Hid (ys = (shf 5 L).take k) ∧ Hid (Prr.OwnPt wr u2.heap.size v zs) ∧ Hid (Prr.OwnPt wr u2.heap.size v2 ys) ∧ Hid (Apart16 v v2) ∧ Hid (Below u2.heap.size u2 wr)) (fun _ _ iv _ => sl - (intOf iv).toNat)
    case atStart => exact ⟨0, [], [], Nat.zero_le _, rfl, Lib.hid rfl, Lib.hid rfl, ZA, ZB, ZAP, HU0⟩
    case round =>
      obtain ⟨k, zs, ys, hk, rfl, HZS, HYS, HOA, HOB, HAP, HU⟩ := hrel
      clear ZA ZB ZAP HU0
      by_cases hlt : k < sl
      · have HTA := Lib.hid (show (lnr L).take (k + 1) = (lnr L).take k ++ [(fun c : Int × Int => (c.1, 3 * c.1 - 7)) (L.getD k (0, 0))] from mapR_take (f := fun c : Int × Int => (c.1, 3 * c.1 - 7)) (L := L) (k := k) (by rw [← HN.out]; exact hlt))
        have HTB := Lib.hid (show (shf 5 L).take (k + 1) = (shf 5 L).take k ++ [(fun c : Int × Int => (c.1, c.2 + 5)) (L.getD k (0, 0))] from mapR_take (f := fun c : Int × Int => (c.1, c.2 + 5)) (L := L) (k := k) (by rw [← HN.out]; exact hlt))
        have hsm := (HSM.out.at k)
        have hzl : zs.length ≤ 21 := by rw [HZS.out, List.length_take, lnr_len]; have := HN.out; omega
        have hyl : ys.length ≤ 21 := by rw [HYS.out, List.length_take, shf_len]; have := HN.out; omega
        obtain ⟨b, rfl, ltU, hcU⟩ := O0.out.some (by omega)
        obtain ⟨d0, d1⟩ := hcU k hlt
        have d0 := (HU.out.cell (p := ⟨b, k * 2, none⟩) ltU).trans d0
        have d1 := (HU.out.cell (p := ⟨b, k * 2 + 1, none⟩) ltU).trans d1
        have ltb := Nat.lt_of_lt_of_le ltU HU.out.size
        have j1 : (0 : Int) ≤ (k : Int) := by omega
        have j2 : (k : Int) < (sl : Int) := by omega
        unfold pX pY at hsm
        generalize L.getD k (0, 0) = c at *
        obtain ⟨x, y⟩ := c
        simp only at d0 d1 hsm
        obtain ⟨z, hz⟩ : ∃ z, 3 * x - 7 = z := ⟨_, rfl⟩
        obtain ⟨y5, hy5⟩ : ∃ z, y + 5 = z := ⟨_, rfl⟩
        have p0 : IntKind.i64.wrap (3 * x) = 3 * x := wrap_in (by omega) (by omega)
        have p1 : IntKind.i64.wrap (3 * x - 7) = z := by rw [hz]; exact wrap_in (by omega) (by omega)
        have p2 : IntKind.i64.wrap (y + 5) = y5 := by rw [hy5]; exact wrap_in (by omega) (by omega)
        simp only [hz, hy5] at HTA HTB
        clear hcU hz hy5 hsm
        go_upto_region 15 with fail
        have kc0 := keptCell ltb d0
        have kc1 := keptCell ltb d1
        refine wp_region_app 13 (by kernel_rfl) rfl rfl (by kernel_rfl) ?_
        simp only [List.take_succ_cons, List.take_zero, List.drop_succ_cons, List.drop_zero]
        repeat (go_big_quiet_step (fail))
        refine wpQuiet_nil ?_
        rintro wx1 ⟨⟨_, K2⟩, rfl⟩
        have BX := below_box wx1 (.cells #[.int .i64 x, .int .i64 z] 27)
        have OR := HOA.out.next K2
        have OT := (HOB.out.next K2).next BX
        have HU51 := Lib.hid (below_call (below_call HU.out K2) BX)
        have O51 := Lib.hid (OR.next BX)
        have own0 := Lib.hid (World.ownsRow.lt OR)
        have ownt := Lib.hid (World.ownsRow.lt OT)
        have HNW := Lib.hid (two_cs16 wx1 (.int .i64 x) (.int .i64 z) 27)
        have HP6 := Lib.hid (Prr.pvals_snoc6 zs (x, z))
        have HSZ : Hid (u2.heap.size ≤ (wx1.alloc (.cells #[.int .i64 x, .int .i64 z] 27)).heap.size) := Lib.hid HU51.out.size
        have c01 := ((K2.cell (p := ⟨b, k * 2, none⟩) ltb).trans d0)
        have c11 := ((K2.cell (p := ⟨b, k * 2 + 1, none⟩) ltb).trans d1)
        have lt1 := Nat.lt_of_lt_of_le ltb K2.size
        have e01 := ((BX.cell (p := ⟨b, k * 2, none⟩) lt1).trans c01)
        have e11 := ((BX.cell (p := ⟨b, k * 2 + 1, none⟩) lt1).trans c11)
        have lu1 := Nat.lt_of_lt_of_le lt1 BX.size
        have OTH := Lib.hid OT
        clear BX OR OT K2 HOA HOB HU kc0 kc1 d0 d1 c01 c11
        go_wp2_with (at_builtin; refine wpList_append_lies _ rfl (.tmp 54) (.tmp 68) 23 rfl u2.heap.size 27 i0 (pt 0 0) 2 16 Try.underlying23 hi0 hz0 hz1 hz2 rfl (by decide) _ zs.length (Prr.pvals zs) rfl O51.out ⟨wx1.heap.size, 0, none⟩ 1 1 [.int .i64 x, .int .i64 z] rfl rfl HNW.out (by intro u hu; simp at hu; rcases hu with rfl | rfl <;> rfl) (by omega) (by unfold maxLen; omega) (by omega) HSZ.out _ rfl ?_; intro g1 cap1 w1 own9 grow9 at9 ltg9; have HA9 := Lib.hid (And.intro own9 (And.intro grow9 at9)); clear own9 grow9 at9 ltg9)
        have HU1 := Lib.hid (HU51.out.grown HA9.out.2.1 HU51.out.size (fun q hq => (own0.out q hq).1))
        have O1 := Lib.hid (show Prr.OwnPt w1 u2.heap.size (.slice (some ⟨g1, 0, none⟩) (zs.length + 1) cap1) (zs ++ [(x, z)]) by
          have o9 := HA9.out.1
          rw [← HP6.out] at o9
          unfold Prr.OwnPt
          rw [List.length_append]
          exact o9)
        have T1 := Lib.hid (show Prr.OwnPt w1 u2.heap.size _ ys from World.ownsRow.kept OTH.out HA9.out.2.1 HAP.out.row)
        have AP1 := Lib.hid (HAP.out.grown (n := zs.length + 1) (c := cap1) HA9.out.2.2 (fun q hq => (ownt.out q hq).2))
        have d0 := ((World.cell?_of_block (a := ⟨b, k * 2, none⟩) (HA9.out.2.1.block b lu1 (fun e => by have := (own0.out b e.symm).1; omega))).trans e01)
        have d1 := ((World.cell?_of_block (a := ⟨b, k * 2 + 1, none⟩) (HA9.out.2.1.block b lu1 (fun e => by have := (own0.out b e.symm).1; omega))).trans e11)
        have ltb := Nat.lt_of_lt_of_le lu1 HA9.out.2.1.size
        clear HA9 HU51 O51 own0 ownt OTH e01 e11 lt1 lu1 HNW HP6 HSZ
        refine NoPanic.normal ?_
        have HAP2 := Lib.hid AP1.out.symm
        clear AP1 HAP
        go_upto_region 16 with fail
        have kc0 := keptCell ltb d0
        have kc1 := keptCell ltb d1
        refine wp_region_app 12 (by kernel_rfl) rfl rfl (by kernel_rfl) ?_
        simp only [List.take_succ_cons, List.take_zero, List.drop_succ_cons, List.drop_zero]
        repeat (go_big_quiet_step (fail))
        refine wpQuiet_nil ?_
        rintro wx2 ⟨⟨_, K2⟩, rfl⟩
        have BX := below_box wx2 (.cells #[.int .i64 x, .int .i64 y5] 27)
        have OR := T1.out.next K2
        have OT := (O1.out.next K2).next BX
        have HU52 := Lib.hid (below_call (below_call HU1.out K2) BX)
        have O52 := Lib.hid (OR.next BX)
        have own0 := Lib.hid (World.ownsRow.lt OR)
        have ownt := Lib.hid (World.ownsRow.lt OT)
        have HNW := Lib.hid (two_cs16 wx2 (.int .i64 x) (.int .i64 y5) 27)
        have HP6 := Lib.hid (Prr.pvals_snoc6 ys (x, y5))
        have HSZ : Hid (u2.heap.size ≤ (wx2.alloc (.cells #[.int .i64 x, .int .i64 y5] 27)).heap.size) := Lib.hid HU52.out.size
        have c02 := ((K2.cell (p := ⟨b, k * 2, none⟩) ltb).trans d0)
        have c12 := ((K2.cell (p := ⟨b, k * 2 + 1, none⟩) ltb).trans d1)
        have lt2 := Nat.lt_of_lt_of_le ltb K2.size
        have e02 := ((BX.cell (p := ⟨b, k * 2, none⟩) lt2).trans c02)
        have e12 := ((BX.cell (p := ⟨b, k * 2 + 1, none⟩) lt2).trans c12)
        have lu2 := Nat.lt_of_lt_of_le lt2 BX.size
        have OTH := Lib.hid OT
        clear BX OR OT K2 T1 O1 HU1 kc0 kc1 d0 d1 c02 c12
        go_wp2_with (at_builtin; refine wpList_append_lies _ rfl (.tmp 70) (.tmp 83) 23 rfl u2.heap.size 27 i0 (pt 0 0) 2 16 Try.underlying23 hi0 hz0 hz1 hz2 rfl (by decide) _ ys.length (Prr.pvals ys) rfl O52.out ⟨wx2.heap.size, 0, none⟩ 1 1 [.int .i64 x, .int .i64 y5] rfl rfl HNW.out (by intro u hu; simp at hu; rcases hu with rfl | rfl <;> rfl) (by omega) (by unfold maxLen; omega) (by omega) HSZ.out _ rfl ?_; intro g2 cap2 w2 own9 grow9 at9 ltg9; have HA9 := Lib.hid (And.intro own9 (And.intro grow9 at9)); clear own9 grow9 at9 ltg9)
        have HU2 := Lib.hid (HU52.out.grown HA9.out.2.1 HU52.out.size (fun q hq => (own0.out q hq).1))
        have O2 := Lib.hid (show Prr.OwnPt w2 u2.heap.size (.slice (some ⟨g2, 0, none⟩) (ys.length + 1) cap2) (ys ++ [(x, y5)]) by
          have o9 := HA9.out.1
          rw [← HP6.out] at o9
          unfold Prr.OwnPt
          rw [List.length_append]
          exact o9)
        have T2 := Lib.hid (show Prr.OwnPt w2 u2.heap.size _ (zs ++ [(x, z)]) from World.ownsRow.kept OTH.out HA9.out.2.1 HAP2.out.row)
        have AP2 := Lib.hid (HAP2.out.grown (n := ys.length + 1) (c := cap2) HA9.out.2.2 (fun q hq => (ownt.out q hq).2))
        have d0 := ((World.cell?_of_block (a := ⟨b, k * 2, none⟩) (HA9.out.2.1.block b lu2 (fun e => by have := (own0.out b e.symm).1; omega))).trans e02)
        have d1 := ((World.cell?_of_block (a := ⟨b, k * 2 + 1, none⟩) (HA9.out.2.1.block b lu2 (fun e => by have := (own0.out b e.symm).1; omega))).trans e12)
        have ltb := Nat.lt_of_lt_of_le lu2 HA9.out.2.1.size
        clear HA9 HU52 O52 own0 ownt OTH e02 e12 lt2 lu2 HNW HP6 HSZ
        refine NoPanic.normal ?_
        go_wp2
        go_roundw
        case rel => exact ⟨k + 1, zs ++ [(x, z)], ys ++ [(x, y5)], by omega, by congr 1, Lib.hid (by rw [HTA.out, ← HZS.out]), Lib.hid (by rw [HTB.out, ← HYS.out]), T2, O2, Lib.hid AP2.out.symm, HU2⟩
        case measure => simp [intOf]; omega
      · obtain rfl : k = sl := by omega
        have ZS := HOA
        rw [HZS.out, show (lnr L).take k = lnr L by rw [HN.out, show L.length = (lnr L).length from (lnr_len ..).symm, List.take_length]] at ZS
        have YS := HOB
        rw [HYS.out, show (shf 5 L).take k = shf 5 L by rw [HN.out, show L.length = (shf 5 L).length from (shf_len ..).symm, List.take_length]] at YS
        have HB1 := Lib.hid (below_call HBU.out HU.out)
        clear HZS HYS HOA HOB HAP HU HBU O0
        obtain ⟨⟨za, zn, zc⟩, rfl, hzn⟩ := ZS.out.sl
        obtain ⟨⟨ya, yn, yc⟩, rfl, hyn⟩ := YS.out.sl
        obtain rfl : zn = k := by simp only at hzn; rw [hzn, lnr_len, ← HN.out]
        obtain rfl : yn = zn := by simp only at hyn; rw [hyn, shf_len, ← HN.out]
        clear hzn hyn
        have ZP := Prr.OwnPt.ints ZS.out
        have YP := Prr.OwnPt.ints YS.out
        have HFZ := Lib.hid (fun u q => implFitSlope za yn zc (lnr L) u q (by omega))
        have HFY := Lib.hid (fun u q => implFitSlope ya yn yc (shf 5 L) u q (by omega))
        have HVZ := Lib.hid (fun u q => implPairsValid za yn zc (lnr L) u q (by omega))
        have HVY := Lib.hid (fun u q => implPairsValid ya yn yc (shf 5 L) u q (by omega))
        have HL2 := Lib.hid (fun (h : okPairs (lnr L)) => HLN.out h HOK.out.2)
        have HS2 := Lib.hid (fun (h : okPairs (shf 5 L)) => HSF.out HOK.out.1 h)
        clear ZS YS HLN HSF
        generalize slpA (lnr L) = lx at *
        generalize slpB (lnr L) = ly at *
        generalize slpA (shf 5 L) = su at *
        generalize slpB (shf 5 L) = sv at *
        go_wp2_with fail
        refine (HFZ.out _ ZP).mono ?_
        rintro e v1 ⟨rfl, B1⟩
        replace ZP := ZP.next B1
        replace YP := YP.next B1
        have HB2 := Lib.hid (below_call HB1.out B1)
        clear B1 HFZ HB1
        go_wp2_with fail
        refine (HFY.out _ YP).mono ?_
        rintro e v2 ⟨rfl, B2⟩
        replace ZP := Lib.hid (ZP.next B2)
        replace YP := Lib.hid (YP.next B2)
        have HB3 := Lib.hid (below_call HB2.out B2)
        clear B2 HFY HB2
        go_wp2
        go_loop [15] (fun dv => ∃ d : Nat, dv = .int .i64 (d : Int) ∧ 2 ≤ d ∧ d ≤ 50) (fun dv => 50 - (intOf dv).toNat)
        case atStart => exact ⟨2, rfl, by omega, by omega⟩
        case round =>
          obtain ⟨d, rfl, d2, d50⟩ := hrel
          by_cases h50 : d < 50
          · have j3 : (d : Int) < 50 := by omega
            have j4 : ¬ (d : Int) = 0 := by omega
            have j5 : (0 : Int) < (d : Int) := by omega
            have r1 := tmod_small (a := ra) j5
            have r2 := tmod_small (a := rb) j5
            have q1 : IntKind.i64.wrap (ra.tmod (d : Int)) = ra.tmod (d : Int) := wrap_in (by omega) (by omega)
            have q2 : IntKind.i64.wrap (rb.tmod (d : Int)) = rb.tmod (d : Int) := wrap_in (by omega) (by omega)
            have hlow := HLOW.out (d : Int) HOK.out (by omega)
            clear r1 r2
            by_cases h1 : ra.tmod (d : Int) = 0
            · have m1 : (ra.tmod (d : Int) == 0) = true := by rw [h1]; rfl
              have m2 : (rb.tmod (d : Int) == 0) = false := by simp; exact fun h2 => hlow h1 h2
              clear hlow h1
              go_wp2
              go_round
              case rel => exact ⟨d + 1, by congr 1, by omega, by omega⟩
              case measure => simp [intOf]; omega
            · have m1 : (ra.tmod (d : Int) == 0) = false := by simp; exact h1
              clear hlow h1
              go_wp2
              go_round
              case rel => exact ⟨d + 1, by congr 1, by omega, by omega⟩
              case measure => simp [intOf]; omega
          · obtain rfl : d = 50 := by omega
            have hpos := HB0.out
            by_cases hz : okPairs (lnr L)
            · rw [decide_eq_true hz] at HVZ
              obtain ⟨rfl, rfl⟩ := HL2.out hz
              clear hz
              go_wp2_with fail
              refine (HVZ.out _ ZP.out).mono ?_
              rintro e v3 ⟨rfl, B3⟩
              have YP3 := YP.out.next B3
              have HB4 := Lib.hid (below_call HB3.out B3)
              clear B3
              by_cases hy : okPairs (shf 5 L)
              · rw [decide_eq_true hy] at HVY
                obtain ⟨rfl, rfl⟩ := HS2.out hy
                have m3 : (su == su) = true := by simp
                have m4 : (sv == sv) = true := by simp
                clear hy
                go_wp2_with fail
                refine (HVY.out _ YP3).mono ?_
                rintro e v4 ⟨rfl, B4⟩
                have HB5 := Lib.hid (below_call HB4.out B4)
                clear B4 YP3
                go_wp2
                go_ret
                exact ⟨rfl, HB5.out⟩
              · rw [decide_eq_false hy] at HVY
                clear hy
                go_wp2_with fail
                refine (HVY.out _ YP3).mono ?_
                rintro e v4 ⟨rfl, B4⟩
                have HB5 := Lib.hid (below_call HB4.out B4)
                clear B4 YP3
                go_wp2
                go_ret
                exact ⟨rfl, HB5.out⟩
            · rw [decide_eq_false hz] at HVZ
              clear hz
              go_wp2_with fail
              refine (HVZ.out _ ZP.out).mono ?_
              rintro e v3 ⟨rfl, B3⟩
              have YP3 := YP.out.next B3
              have HB4 := Lib.hid (below_call HB3.out B3)
              clear B3
              by_cases hy : okPairs (shf 5 L)
              · rw [decide_eq_true hy] at HVY
                obtain ⟨rfl, rfl⟩ := HS2.out hy
                have m3 : (su == su) = true := by simp
                have m4 : (sv == sv) = true := by simp
                clear hy
                go_wp2_with fail
                refine (HVY.out _ YP3).mono ?_
                rintro e v4 ⟨rfl, B4⟩
                have HB5 := Lib.hid (below_call HB4.out B4)
                clear B4 YP3
                go_wp2
                go_ret
                exact ⟨rfl, HB5.out⟩
              · rw [decide_eq_false hy] at HVY
                clear hy
                go_wp2_with fail
                refine (HVY.out _ YP3).mono ?_
                rintro e v4 ⟨rfl, B4⟩
                have HB5 := Lib.hid (below_call HB4.out B4)
                clear B4 YP3
                go_wp2
                go_ret
                exact ⟨rfl, HB5.out⟩
end Go.Proofs.Ytppkipcgpmijpaa
