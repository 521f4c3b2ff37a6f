/- The walk of the law on runs. -/
import Derived.Test.YtgnchgmbflkakaaW14a
namespace Go.Proofs.Ytgnchgmbflkakaa
set_option maxRecDepth 100000
open Go.RowKit
attribute [local go_sem ↓] Go.wp_at_zero Go.wp_at_succ
theorem keep14 {w u : World} {b c i j : Nat} {x y : Value} (h : Below w.heap.size w u) (hb : b < w.heap.size) (hc : c < w.heap.size) (h0 : w.cell? ⟨b, i, none⟩ = some x) (h1 : w.cell? ⟨c, j, none⟩ = some y) :
    u.cell? ⟨b, i, none⟩ = some x ∧ u.cell? ⟨c, j, none⟩ = some y :=
  ⟨(h.cell (p := ⟨b, i, none⟩) hb).trans h0, (h.cell (p := ⟨c, j, none⟩) hc).trans h1⟩
theorem run_len14 (a v g k d f n : Int) : (runV a v g k d f n).length ≤ 400 := by
  unfold runV
  split
  · next h => rw [runL_len]; have := h.2.2; omega
  · simp
theorem three14 (w : World) (z : Int) (T : TypeId) (hT : T = 3) : OwnI (w.alloc (.cells #[.int .i64 z, .int .i64 z, .int .i64 z] T)) w.heap.size (.slice (some ⟨w.heap.size, 0, none⟩) 3 3) [z, z, z] := by
  subst hT
  exact World.ownsRow_lit (base := w.heap.size) (e := 3) (size := 1) w #[.int .i64 z, .int .i64 z, .int .i64 z] 3 (Nat.le_refl _) (by unfold maxLen; omega) rfl
set_option maxHeartbeats 4000000 in
theorem walkFnRunMotor (w : World) (a : Option Addr) (len cap : Nat) (zs : List Int) (h : Bytes w a len cap zs) :
    Calls Try.prog 7 #[.slice a len cap] w fun e w' => e = .returned (.bool true) ∧ Below w.heap.size w w' := by
  have hle := h.len_le
  obtain ⟨hl, hm⟩ := hle
  unfold maxLen at hm
  by_cases hbig : 1048576 < len
  · go_enter Try.func7, Try.ntmps7
    go_wp2
    go_ret
    exact ⟨rfl, Below.refl _ _⟩
  · go_enter Try.func7, Try.ntmps7
    go_wp2_with fail
    refine (drawRunMotor w a len cap zs h).mono ?_
    rintro e w1 ⟨x, y, g, k, d, f, n, hx, hy, hg, hkk, hd, hff, hnn, rfl, hb⟩
    have HB := Lib.hid (below_call hb (below_box w1 (.cells #[.int .i64 x, .int .i64 y] 24)))
    have P := OwnP.box w1 x y 24
    have HVW0 := Lib.hid hb.size
    clear hb h
    go_upto_region 4 with fail
    generalize w1.alloc (.cells #[.int .i64 x, .int .i64 y] 24) = w2 at *
    generalize w1.heap.size = V at *
    have HI := Lib.hid (fun u => implRunMotor x y g k d f n u)
    have HS := Lib.hid (fun u => specRunMotor x y g k d f n u)
    have HVW := Lib.hid (show w.heap.size ≤ V from HVW0.out)
    have hLn := run_len14 x y g k d f n
    obtain ⟨L, hL⟩ : ∃ L, runV x y g k d f n = L := ⟨_, rfl⟩
    rw [hL] at HI HS hLn
    have HLE := Lib.hid hL
    have HLN := Lib.hid hLn
    clear hL hLn hx hy
    have HVB := Lib.hid (show V < w2.heap.size from P.lt)
    have HWB := Lib.hid HB.out
    obtain ⟨⟨_, p0, p1⟩, _, _⟩ := id P
    go_wp2_with fail
    refine (HI.out _).mono ?_
    rintro e u1 ⟨⟨sa, sl, sc⟩, rfl, l2, O2, B1⟩
    replace P := P.next B1
    replace HB := Lib.hid (below_call HB.out B1)
    clear B1 p0 p1
    have HSL := Lib.hid (show sl = L.length from l2)
    clear l2
    have hsl : sl ≤ 400 := by rw [HSL.out]; exact HLN.out
    obtain ⟨⟨_, p0, p1⟩, _, _⟩ := id P
    go_wp2_with fail
    refine (HS.out _).mono ?_
    rintro e u2 ⟨⟨qa, ql, qc⟩, rfl, l3, O3, B2⟩
    replace P := P.next B2
    replace O2 := O2.next B2
    replace HB := Lib.hid (below_call HB.out B2)
    clear B2 p0 p1
    clear l3
    go_wp2_with fail
    refine (sameInts sa qa sl ql sc qc L _ (OwnI.ints O2) (OwnI.ints O3) (by omega)).mono ?_
    rintro e u3 ⟨rfl, B3⟩
    replace P := P.next B3
    replace O2 := O2.next B3
    replace O3 := O3.next B3
    replace HB := Lib.hid (below_call HB.out B3)
    clear B3
    clear O3 HS HI
    by_cases h0 : sl = 0
    · have e4 : ((sl : Int) == 0) = true := by rw [h0]; rfl
      clear h0
      go_wp2_with fail
      refine (alive _).mono ?_
      rintro e w' ⟨rfl, rfl⟩
      go_wp2
      go_ret
      exact ⟨rfl, HB.out⟩
    have e4 : ((sl : Int) == 0) = false := by simp; omega
    have hok : okRun x y g k d f n := by
      by_cases q : okRun x y g k d f n
      · exact q
      · have : L = [] := by rw [← HLE.out]; exact if_neg q
        rw [this] at HSL
        exact absurd HSL.out h0
    obtain ⟨N, rfl⟩ : ∃ N : Nat, n = (N : Int) := ⟨n.toNat, by have := hok.2.2.1; omega⟩
    have hL2 : L = runL g k d f N x y := by rw [← HLE.out, show runV x y g k d f (N : Int) = runL g k d f (N : Int).toNat x y from if_pos hok, Int.toNat_natCast]
    have hN : sl = N := by rw [HSL.out, hL2, runL_len]
    subst hN
    obtain ⟨hA, hF, _⟩ := hok
    have HRO := Lib.hid (runA_ok (g := g) (k := k) (d := d) (f := f) hA.1)
    have HLA := Lib.hid (fun i (q : i < sl) => hL2 ▸ runL_at g k d f sl i x y q)
    have h1 := hA.2.1
    have h2 := hA.2.2.1
    have h3 := hA.2.2.2
    have e5 : okRun g 0 g k d f 3 := ⟨⟨⟨h1, by omega, by omega⟩, h1, h2, h3⟩, hF, by omega, by omega⟩
    have HH := Lib.hid (fun u => implRunMotor g 0 g k d f 3 u)
    rw [show runV g 0 g k d f 3 = [g, g, g] from (if_pos e5).trans (runL_home h1 hF.1 3)] at HH
    clear hL2 hA e5 HLE
    have HO2 := Lib.hid (OwnI.mono O2 (show V + 1 ≤ _ from HVB.out))
    have HP2 := Lib.hid P
    clear O2 P
    go_wp2
    go_loopw [10] (fun kv wr => ∃ i : Nat, i ≤ sl ∧ kv = .int .i64 (i : Int) ∧ Hid (OwnP wr V (runA g k d f i x y).1 (runA g k d f i x y).2) ∧ Hid (OwnI wr (V + 1) (.slice sa sl sc) L) ∧ Hid (Below w.heap.size w wr)) (fun kv _ => sl - (intOf kv).toNat)
    case atStart => exact ⟨0, Nat.zero_le _, rfl, HP2, HO2, HB⟩
    case round =>
      obtain ⟨i, hi, rfl, HP, HO, HW⟩ := hrel
      clear HP2 HO2 HB
      by_cases hlt : i < sl
      · have j0 : (0 : Int) ≤ (i : Int) := by omega
        have j1 : (i : Int) < (sl : Int) := by omega
        have HOK := Lib.hid (HRO.out i)
        have HNX := Lib.hid (runA_next g k d f i x y)
        have hla := HLA.out i hlt
        generalize hp : runA g k d f i x y = p at *
        obtain ⟨px, py⟩ := p
        simp only at HOK HNX
        have HP' := HP.out
        simp only at HP'
        obtain ⟨tq, htq⟩ : ∃ tq, aimN px py g k d = tq := ⟨_, rfl⟩
        have hb := aim_bd px py g k d
        rw [htq] at hb HNX
        have e6 : okAim px py g k d := ⟨HOK.out, h1, h2, h3⟩
        have e7 : okStp px py tq f := ⟨HOK.out, hb, hF⟩
        have HA := Lib.hid (fun (q : Kept wr) => keptCall (implAimTorque px py g k d q.u))
        rw [show aimV px py g k d = tq from (if_pos e6).trans htq] at HA
        have HS := Lib.hid (fun (q : Kept wr) => keptCall (implMotorStep px py tq f q.u))
        rw [show motA px py tq f = stpA px py tq f from if_pos e7, show motS px py tq f = stpS px py tq f from if_pos e7] at HS
        generalize stpA px py tq f = nx at *
        generalize stpS px py tq f = ny at *
        rw [HNX.out] at hla
        obtain ⟨e0, e1⟩ := HP'.toAtP.kepts
        clear htq hb e6 e7 hp
        go_upto_region 12 with fail
        refine wp_region_ktail 8 (by kernel_rfl) (by kernel_rfl) ?_
        simp only [List.take_succ_cons, List.take_zero, List.drop_succ_cons, List.drop_zero]
        repeat (go_big_quiet_step ((first | (go_at_call 26; with_reducible exact HA.out _) | (go_at_call 19; with_reducible exact HS.out _))))
        refine wpQuiet_nil ?_
        rintro w9 ⟨⟨_, K2⟩, rfl⟩
        have P3 := HP'.next K2
        obtain ⟨⟨_, c0, c1⟩, z0, z1⟩ := id P3
        have P4 := Lib.hid ((P3.put0 nx).put1 ny)
        have O4 := Lib.hid (((HO.out.next K2).off (c := V) (o := 0) (Nat.lt_succ_self _) (.int .i64 nx)).off (c := V) (o := 1) (Nat.lt_succ_self _) (.int .i64 ny))
        have HW4 := Lib.hid (((below_call HW.out K2).setCell (p := ⟨V, 0, none⟩) HVW.out (.int .i64 nx)).setCell (p := ⟨V, 1, none⟩) HVW.out (.int .i64 ny))
        clear P3 K2 HO HW HP HP' HA HS e0 e1
        go_upto_region 13 with fail
        generalize (w9.setCell ⟨V, 0, none⟩ (.int .i64 nx)).setCell ⟨V, 1, none⟩ (.int .i64 ny) = wy at *
        clear c0 c1 z0 z1
        obtain ⟨⟨ltv, p0, p1⟩, _, _⟩ := id P4.out
        obtain ⟨b9, o9, rfl, lt9, hc9⟩ := (OwnI.ints O4.out).some (by omega)
        have d9 := hc9 i (by have := HSL.out; omega)
        rw [List.getD_eq_getElem?_getD, hla, Option.getD_some] at d9
        have s1 : (nx != nx) = false := by simp
        have g0 : Below wy.heap.size wy wy := Below.refl _ _
        have P5 := Lib.hid (P4.out.next (below_drew' wy))
        have O5 := Lib.hid (O4.out.next (below_drew' wy))
        have HW5 := Lib.hid HW4.out.drew
        clear hc9 hla P4 O4 HW4
        go_region_held3 (fun u => u.cell? ⟨b9, o9 + i, none⟩ = some (.int .i64 nx) ∧ u.cell? ⟨V, 0, none⟩ = some (.int .i64 nx)) (exact keep14 (by repeat (first | (with_reducible assumption) | (with_reducible apply Below.drew))) lt9 ltv d9 p0) (fail)
        go_wp2
        go_roundw
        case rel => exact ⟨i + 1, by omega, by congr 1, Lib.hid (by rw [HNX.out]; exact P5.out), O5, HW5⟩
        case measure => simp [intOf]; omega
      · obtain rfl : i = sl := by omega
        clear HP
        go_wp2_with fail
        refine (HH.out _).mono ?_
        rintro e w10 ⟨⟨ra, rl, rc⟩, rfl, l10, O10, B10⟩
        have HB10 := Lib.hid (below_call HW.out B10)
        obtain rfl : rl = 3 := l10
        have T0 := three14 w10 g 3 rfl
        have BT := below_box w10 (.cells #[.int .i64 g, .int .i64 g, .int .i64 g] 3)
        have HB11 := Lib.hid (below_call HB10.out BT)
        have HSM := Lib.hid (sameInts ra (some ⟨w10.heap.size, 0, none⟩) 3 3 rc 3 [g, g, g] _ (OwnI.ints (O10.next BT)) (OwnI.ints T0) (by omega))
        have s2 : ((i : Int) == (i : Int)) = true := by simp
        clear B10 BT O10 T0 HB10
        go_wp2_with fail
        refine HSM.out.mono ?_
        rintro e w12 ⟨rfl, B12⟩
        have HB12 := Lib.hid (below_call HB11.out B12)
        clear B12 HSM
        go_wp2
        go_ret
        exact ⟨rfl, HB12.out⟩
end Go.Proofs.Ytgnchgmbflkakaa
