/- The document's GridSize and CellJoints. -/
import Derived.Test.YtkogoflcacameaaDoorZc11g
namespace Go.Proofs.YtkogoflcacameaaDoor
set_option maxRecDepth 100000
open Go.RowKit
attribute [local go_sem ↓] Go.wp_at_zero Go.wp_at_succ
set_option maxHeartbeats 4000000 in
theorem l11SizeC (x y z : Sl) (ls lo hi : List Int) (step : Int) (w : World) (hx : IntsAt w x.a x.len ls) (hy : IntsAt w y.a y.len lo) (hz : IntsAt w z.a z.len hi) (bx : x.len ≤ 9223372036854775807) (b_y : y.len ≤ 9223372036854775807) (bz : z.len ≤ 9223372036854775807) :
    Calls Tryd.prog 31 #[av x y z, .int .i64 step] w fun e w' => e = .returned (.tuple #[.int .i64 (gridX ls lo hi step), .int .i64 (gridY ls lo hi step)]) ∧ Below w.heap.size w w' := by
  have HB := Lib.hid (below_box w (.cells #[.slice x.a x.len x.cap, .slice y.a y.len y.cap, .slice z.a z.len z.cap] 25))
  have P := AtA.box w (.slice x.a x.len x.cap) (.slice y.a y.len y.cap) (.slice z.a z.len z.cap) 25
  have HI := Lib.hid (And.intro (hx.next HB.out) (And.intro (hy.next HB.out) (hz.next HB.out)))
  have HC := Lib.hid (specArmValid x y z ls lo hi _ HI.out.1 HI.out.2.1 HI.out.2.2 bx b_y bz)
  clear hx hy hz
  obtain ⟨xa, xl, xc⟩ := x
  obtain ⟨ya, yl, yc⟩ := y
  obtain ⟨za, zl, zc⟩ := z
  simp only at *
  obtain ⟨nx, hnx⟩ : ∃ nx, gridX ls lo hi step = nx := ⟨_, rfl⟩
  obtain ⟨ny, hny⟩ : ∃ ny, gridY ls lo hi step = ny := ⟨_, rfl⟩
  rw [hnx, hny]
  have HOUT : Hid (¬ okGrid ls lo hi step → Value.tuple #[.int .i64 0, .int .i64 0] = Value.tuple #[.int .i64 nx, .int .i64 ny]) := Lib.hid fun k => by rw [← hnx, ← hny, gridX_out k, gridY_out k]
  have HIN : Hid (okGrid ls lo hi step → Value.tuple #[.int .i64 (cellsN lo hi step 0), .int .i64 (cellsN lo hi step 1)] = Value.tuple #[.int .i64 nx, .int .i64 ny]) := Lib.hid fun k => by rw [← hnx, ← hny, gridX_in k, gridY_in k]
  clear hnx hny
  by_cases hok : okArm ls lo hi
  rotate_left
  · rw [decide_eq_false hok] at HC
    have HV := Lib.hid (HOUT.out fun k => hok k.1)
    clear hok HIN HOUT
    go_enter Tryd.func31, Tryd.ntmps31
    go_wp2_with fail
    refine HC.out.mono ?_
    rintro e w1 ⟨rfl, B1⟩
    have HB1 := Lib.hid (below_call HB.out B1)
    clear B1 HC
    go_wp2
    exact bodyPost_ret (v := .tuple #[.int .i64 0, .int .i64 0]) (by simp [results, Tryd.results31, go_sem]) rfl ⟨by rw [HV.out], HB1.out⟩
  rw [decide_eq_true hok] at HC
  by_cases hl : xl = 2
  rotate_left
  · have HV := Lib.hid (HOUT.out fun k => hl (by rw [HI.out.1.1]; exact k.2.1))
    have e1 : ((xl : Int) != 2) = true := by simp; omega
    clear hok hl HIN HOUT
    go_enter Tryd.func31, Tryd.ntmps31
    go_wp2_with fail
    refine HC.out.mono ?_
    rintro e w1 ⟨rfl, B1⟩
    have HB1 := Lib.hid (below_call HB.out B1)
    obtain ⟨_, c0, c1, c2, _, _, _⟩ := P.next B1
    clear B1 HC
    go_wp2
    exact bodyPost_ret (v := .tuple #[.int .i64 0, .int .i64 0]) (by simp [results, Tryd.results31, go_sem]) rfl ⟨by rw [HV.out], HB1.out⟩
  subst hl
  have e1 : (((2 : Nat) : Int) != 2) = false := by decide
  have HLN := Lib.hid (show ls.length = 2 from HI.out.1.1.symm)
  by_cases h3 : 1 ≤ step ∧ step ≤ 360
  rotate_left
  · have HV := Lib.hid (HOUT.out fun k => h3 ⟨k.2.2.1, k.2.2.2.1⟩)
    have HN := Lib.hid (fun (u : World) => l1In_no step 1 360 u (by omega))
    clear hok h3 HIN HOUT
    go_enter Tryd.func31, Tryd.ntmps31
    go_wp2_with fail
    refine HC.out.mono ?_
    rintro e w1 ⟨rfl, B1⟩
    have HB1 := Lib.hid (below_call HB.out B1)
    obtain ⟨_, c0, c1, c2, _, _, _⟩ := P.next B1
    clear B1 HC
    go_wp2_with fail
    refine (HN.out _).mono ?_
    rintro e w' ⟨rfl, rfl⟩
    go_wp2
    exact bodyPost_ret (v := .tuple #[.int .i64 0, .int .i64 0]) (by simp [results, Tryd.results31, go_sem]) rfl ⟨by rw [HV.out], HB1.out⟩
  obtain ⟨h3, h4⟩ := h3
  have HN := Lib.hid (fun (u : World) => l1In_yes step 1 360 u h3 h4)
  have s0 := arm_span hok (k := 0) (by rw [HLN.out]; omega)
  have s1 := arm_span hok (k := 1) (by rw [HLN.out]; omega)
  have HP := Lib.hid (show (1 ≤ cellsN lo hi step 0 ∧ cellsN lo hi step 0 ≤ 361) ∧ 1 ≤ cellsN lo hi step 1 ∧ cellsN lo hi step 1 ≤ 361 from ⟨cellsN_pos hok HLN.out (by omega) (by omega), cellsN_pos hok HLN.out (by omega) (by omega)⟩)
  have hyl : yl = 2 := by rw [HI.out.2.1.1, hok.2.2.1, HLN.out]
  have hzl : zl = 2 := by rw [HI.out.2.2.1, hok.2.2.2.1, HLN.out]
  subst hyl hzl
  have HQ := Lib.hid (show okGrid ls lo hi step ↔ (cellsN lo hi step 0 ≤ 20 ∧ cellsN lo hi step 1 ≤ 20) from ⟨fun k => k.2.2.2.2, fun k => ⟨hok, HLN.out, h3, h4, k.1, k.2⟩⟩)
  have HE0 := Lib.hid (show wrap64 (wrap64 ((wrap64 (hi.getD 0 0 - lo.getD 0 0)).tdiv step) + 1) = cellsN lo hi step 0 by
    obtain ⟨k0, k1, k2⟩ := quoG11 (m := hi.getD 0 0 - lo.getD 0 0) (d := step) (by omega) (by omega) (by omega)
    rw [IntWalk.wrap64_in (hi.getD 0 0 - lo.getD 0 0) (by omega), k0, IntWalk.wrap64_in ((hi.getD 0 0 - lo.getD 0 0) / step) (by omega), IntWalk.wrap64_in ((hi.getD 0 0 - lo.getD 0 0) / step + 1) (by omega)]; rfl)
  have HE1 := Lib.hid (show wrap64 (wrap64 ((wrap64 (hi.getD 1 0 - lo.getD 1 0)).tdiv step) + 1) = cellsN lo hi step 1 by
    obtain ⟨k0, k1, k2⟩ := quoG11 (m := hi.getD 1 0 - lo.getD 1 0) (d := step) (by omega) (by omega) (by omega)
    rw [IntWalk.wrap64_in (hi.getD 1 0 - lo.getD 1 0) (by omega), k0, IntWalk.wrap64_in ((hi.getD 1 0 - lo.getD 1 0) / step) (by omega), IntWalk.wrap64_in ((hi.getD 1 0 - lo.getD 1 0) / step + 1) (by omega)]; rfl)
  have z0 : ¬ step = 0 := by omega
  have z1 : (step == 0) = false := by simp; omega
  obtain ⟨by', oy, rfl, lty, cy⟩ := HI.out.2.1.some (by omega)
  obtain ⟨bz', oz, rfl, ltz, cz'⟩ := HI.out.2.2.some (by omega)
  have HLT := Lib.hid (And.intro lty ltz)
  have HCY := Lib.hid (And.intro (cy 0 (by omega)) (cy 1 (by omega)))
  have HCZ := Lib.hid (And.intro (cz' 0 (by omega)) (cz' 1 (by omega)))
  clear hok h3 h4 s0 s1 lty ltz cy cz'
  generalize cellsN lo hi step 0 = n0 at *
  generalize cellsN lo hi step 1 = n1 at *
  generalize hi.getD 0 0 = g0 at *
  generalize hi.getD 1 0 = g1 at *
  generalize lo.getD 0 0 = o0 at *
  generalize lo.getD 1 0 = o1 at *
  go_enter Tryd.func31, Tryd.ntmps31
  go_wp2_with fail
  refine HC.out.mono ?_
  generalize w.alloc (.cells #[.slice xa 2 xc, .slice (some ⟨by', oy, none⟩) 2 yc, .slice (some ⟨bz', oz, none⟩) 2 zc] 25) = w0 at *
  rintro e w1 ⟨rfl, B1⟩
  have HB1 := Lib.hid (below_call HB.out B1)
  have HP1 := Lib.hid (P.next B1)
  have HL1 := Lib.hid (show by' < w1.heap.size ∧ bz' < w1.heap.size from ⟨Nat.lt_of_lt_of_le HLT.out.1 B1.size, Nat.lt_of_lt_of_le HLT.out.2 B1.size⟩)
  have HD := Lib.hid (show w1.cell? ⟨by', oy, none⟩ = some (.int .i64 o0) ∧ w1.cell? ⟨by', oy + 1, none⟩ = some (.int .i64 o1) ∧ w1.cell? ⟨bz', oz, none⟩ = some (.int .i64 g0) ∧ w1.cell? ⟨bz', oz + 1, none⟩ = some (.int .i64 g1) from
    ⟨(B1.cell (p := ⟨by', oy, none⟩) HLT.out.1).trans HCY.out.1, (B1.cell (p := ⟨by', oy + 1, none⟩) HLT.out.1).trans HCY.out.2, (B1.cell (p := ⟨bz', oz, none⟩) HLT.out.2).trans HCZ.out.1, (B1.cell (p := ⟨bz', oz + 1, none⟩) HLT.out.2).trans HCZ.out.2⟩)
  have HDU := Lib.hid (fun (u : World) (hu : Below w1.heap.size w1 u) => And.intro (keptCell (Nat.lt_of_lt_of_le HL1.out.1 hu.size) ((hu.cell (p := ⟨by', oy, none⟩) HL1.out.1).trans HD.out.1)) (And.intro (keptCell (Nat.lt_of_lt_of_le HL1.out.1 hu.size) ((hu.cell (p := ⟨by', oy + 1, none⟩) HL1.out.1).trans HD.out.2.1)) (And.intro (keptCell (Nat.lt_of_lt_of_le HL1.out.2 hu.size) ((hu.cell (p := ⟨bz', oz, none⟩) HL1.out.2).trans HD.out.2.2.1)) (keptCell (Nat.lt_of_lt_of_le HL1.out.2 hu.size) ((hu.cell (p := ⟨bz', oz + 1, none⟩) HL1.out.2).trans HD.out.2.2.2)))))
  obtain ⟨_, c0, c1, c2, _, _, _⟩ := id HP1.out
  clear B1 HC P HCY HCZ HI HLT
  go_wp2_with fail
  refine (HN.out _).mono ?_
  rintro e w' ⟨rfl, rfl⟩
  go_upto_region 3 with fail
  clear c0 c1 c2
  obtain ⟨c0, c1, c2⟩ := HP1.out.kepts
  obtain ⟨d0, d1, d2, d3⟩ := HDU.out w1 (Below.refl _ _)
  refine wp_region_kept (by kernel_rfl) (by kernel_rfl) ?_
  repeat (go_big_quiet_step (fail))
  refine wpQuiet_nil ?_
  rintro w5 ⟨⟨_, K2⟩, rfl⟩
  have HB5 := Lib.hid (below_call HB1.out K2)
  have HK5 := Lib.hid K2
  clear c0 c1 c2 d0 d1 d2 d3 K2
  rw [HE0.out]
  go_upto_region 4 with fail
  obtain ⟨c0, c1, c2⟩ := (HP1.out.next HK5.out).kepts
  obtain ⟨d0, d1, d2, d3⟩ := HDU.out w5 HK5.out
  refine wp_region_kept (by kernel_rfl) (by kernel_rfl) ?_
  repeat (go_big_quiet_step (fail))
  refine wpQuiet_nil ?_
  rintro w6 ⟨⟨_, K2⟩, rfl⟩
  have HB6 := Lib.hid (below_call HB5.out K2)
  clear c0 c1 c2 d0 d1 d2 d3 K2 HDU
  rw [HE1.out]
  by_cases h5 : n0 ≤ 20
  · by_cases h6 : n1 ≤ 20
    · have q5 : decide (20 < n0) = false := decide_eq_false (by omega)
      have q6 : decide (20 < n1) = false := decide_eq_false (by omega)
      have HV := Lib.hid (HIN.out (HQ.out.2 ⟨h5, h6⟩))
      clear h5 h6
      go_wp2
      exact bodyPost_ret (v := .tuple #[.int .i64 n0, .int .i64 n1]) (by simp [results, Tryd.results31, go_sem]) rfl ⟨by rw [HV.out], HB6.out⟩
    · have q5 : decide (20 < n0) = false := decide_eq_false (by omega)
      have q6 : 20 < n1 := by omega
      have HV := Lib.hid (HOUT.out (fun k => h6 (HQ.out.1 k).2))
      clear h5 h6
      go_wp2
      exact bodyPost_ret (v := .tuple #[.int .i64 0, .int .i64 0]) (by simp [results, Tryd.results31, go_sem]) rfl ⟨by rw [HV.out], HB6.out⟩
  · have q5 : 20 < n0 := by omega
    have HV := Lib.hid (HOUT.out (fun k => h5 (HQ.out.1 k).1))
    clear h5
    go_wp2
    exact bodyPost_ret (v := .tuple #[.int .i64 0, .int .i64 0]) (by simp [results, Tryd.results31, go_sem]) rfl ⟨by rw [HV.out], HB6.out⟩
end Go.Proofs.YtkogoflcacameaaDoor
