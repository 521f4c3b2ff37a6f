/- The document's GridSize and CellJoints. -/
import Derived.Test.YtkogoflcacameaaGs11
namespace Go.Proofs.Ytkogoflcacameaa
set_option maxRecDepth 100000
open Go.RowKit
attribute [local go_sem ↓] Go.wp_at_zero Go.wp_at_succ
set_option maxHeartbeats 4000000 in
theorem l11SizeC (x y z : Sl) (ls lo hi : List Int) (step : Int) (w : World) (hx : IntsAt w x.a x.len ls) (hy : IntsAt w y.a y.len lo) (hz : IntsAt w z.a z.len hi) (bx : x.len ≤ 9223372036854775807) (b_y : y.len ≤ 9223372036854775807) (bz : z.len ≤ 9223372036854775807) :
    Calls Try.prog 33 #[av x y z, .int .i64 step] w fun e w' => e = .returned (.tuple #[.int .i64 (gridX ls lo hi step), .int .i64 (gridY ls lo hi step)]) ∧ Below w.heap.size w w' := by
  have HB := Lib.hid (below_box w (.cells #[.slice x.a x.len x.cap, .slice y.a y.len y.cap, .slice z.a z.len z.cap] 25))
  have P := AtA.box w (.slice x.a x.len x.cap) (.slice y.a y.len y.cap) (.slice z.a z.len z.cap) 25
  have HI := Lib.hid (And.intro (hx.next HB.out) (And.intro (hy.next HB.out) (hz.next HB.out)))
  have HC := Lib.hid (specArmValid x y z ls lo hi _ HI.out.1 HI.out.2.1 HI.out.2.2 bx b_y bz)
  clear hx hy hz
  obtain ⟨xa, xl, xc⟩ := x
  obtain ⟨ya, yl, yc⟩ := y
  obtain ⟨za, zl, zc⟩ := z
  simp only at *
  obtain ⟨nx, hnx⟩ : ∃ nx, gridX ls lo hi step = nx := ⟨_, rfl⟩
  obtain ⟨ny, hny⟩ : ∃ ny, gridY ls lo hi step = ny := ⟨_, rfl⟩
  rw [hnx, hny]
  have HOUT : Hid (¬ okGrid ls lo hi step → Value.tuple #[.int .i64 0, .int .i64 0] = Value.tuple #[.int .i64 nx, .int .i64 ny]) := Lib.hid fun k => by rw [← hnx, ← hny, gridX_out k, gridY_out k]
  have HIN : Hid (okGrid ls lo hi step → Value.tuple #[.int .i64 (cellsN lo hi step 0), .int .i64 (cellsN lo hi step 1)] = Value.tuple #[.int .i64 nx, .int .i64 ny]) := Lib.hid fun k => by rw [← hnx, ← hny, gridX_in k, gridY_in k]
  clear hnx hny
  by_cases hok : okArm ls lo hi
  rotate_left
  · rw [decide_eq_false hok] at HC
    have HV := Lib.hid (HOUT.out fun k => hok k.1)
    clear hok HIN HOUT
    go_enter Try.func33, Try.ntmps33
    go_wp2_with fail
    refine HC.out.mono ?_
    rintro e w1 ⟨rfl, B1⟩
    have HB1 := Lib.hid (below_call HB.out B1)
    clear B1 HC
    go_wp2
    exact bodyPost_ret (v := .tuple #[.int .i64 0, .int .i64 0]) (by simp [results, Try.results33, go_sem]) rfl ⟨by rw [HV.out], HB1.out⟩
  rw [decide_eq_true hok] at HC
  by_cases hl : xl = 2
  rotate_left
  · have HV := Lib.hid (HOUT.out fun k => hl (by rw [HI.out.1.1]; exact k.2.1))
    have e1 : ((xl : Int) != 2) = true := by simp; omega
    clear hok hl HIN HOUT
    go_enter Try.func33, Try.ntmps33
    go_wp2_with fail
    refine HC.out.mono ?_
    rintro e w1 ⟨rfl, B1⟩
    have HB1 := Lib.hid (below_call HB.out B1)
    obtain ⟨_, c0, c1, c2, _, _, _⟩ := P.next B1
    clear B1 HC
    go_wp2
    exact bodyPost_ret (v := .tuple #[.int .i64 0, .int .i64 0]) (by simp [results, Try.results33, go_sem]) rfl ⟨by rw [HV.out], HB1.out⟩
  subst hl
  have e1 : (((2 : Nat) : Int) != 2) = false := by decide
  have HLN := Lib.hid (show ls.length = 2 from HI.out.1.1.symm)
  by_cases h3 : 1 ≤ step ∧ step ≤ 360
  rotate_left
  · have HV := Lib.hid (HOUT.out fun k => h3 ⟨k.2.2.1, k.2.2.2.1⟩)
    have HN := Lib.hid (fun (u : World) => l1In_no step 1 360 u (by omega))
    clear hok h3 HIN HOUT
    go_enter Try.func33, Try.ntmps33
    go_wp2_with fail
    refine HC.out.mono ?_
    rintro e w1 ⟨rfl, B1⟩
    have HB1 := Lib.hid (below_call HB.out B1)
    obtain ⟨_, c0, c1, c2, _, _, _⟩ := P.next B1
    clear B1 HC
    go_wp2_with fail
    refine (HN.out _).mono ?_
    rintro e w' ⟨rfl, rfl⟩
    go_wp2
    exact bodyPost_ret (v := .tuple #[.int .i64 0, .int .i64 0]) (by simp [results, Try.results33, go_sem]) rfl ⟨by rw [HV.out], HB1.out⟩
  obtain ⟨h3, h4⟩ := h3
  have HN := Lib.hid (fun (u : World) => l1In_yes step 1 360 u h3 h4)
  have s0 := arm_span hok (k := 0) (by rw [HLN.out]; omega)
  have s1 := arm_span hok (k := 1) (by rw [HLN.out]; omega)
  have HP := Lib.hid (show (1 ≤ cellsN lo hi step 0 ∧ cellsN lo hi step 0 ≤ 361) ∧ 1 ≤ cellsN lo hi step 1 ∧ cellsN lo hi step 1 ≤ 361 from ⟨cellsN_pos hok HLN.out (by omega) (by omega), cellsN_pos hok HLN.out (by omega) (by omega)⟩)
  have hyl : yl = 2 := by rw [HI.out.2.1.1, hok.2.2.1, HLN.out]
  have hzl : zl = 2 := by rw [HI.out.2.2.1, hok.2.2.2.1, HLN.out]
  subst hyl hzl
  have HQ := Lib.hid (show okGrid ls lo hi step ↔ (cellsN lo hi step 0 ≤ 20 ∧ cellsN lo hi step 1 ≤ 20) from ⟨fun k => k.2.2.2.2, fun k => ⟨hok, HLN.out, h3, h4, k.1, k.2⟩⟩)
  have HE0 := Lib.hid (show wrap64 (wrap64 ((wrap64 (hi.getD 0 0 - lo.getD 0 0)).tdiv step) + 1) = cellsN lo hi step 0 by
    obtain ⟨k0, k1, k2⟩ := quoG11 (m := hi.getD 0 0 - lo.getD 0 0) (d := step) (by omega) (by omega) (by omega)
    rw [IntWalk.wrap64_in (hi.getD 0 0 - lo.getD 0 0) (by omega), k0, IntWalk.wrap64_in ((hi.getD 0 0 - lo.getD 0 0) / step) (by omega), IntWalk.wrap64_in ((hi.getD 0 0 - lo.getD 0 0) / step + 1) (by omega)]; rfl)
  have HE1 := Lib.hid (show wrap64 (wrap64 ((wrap64 (hi.getD 1 0 - lo.getD 1 0)).tdiv step) + 1) = cellsN lo hi step 1 by
    obtain ⟨k0, k1, k2⟩ := quoG11 (m := hi.getD 1 0 - lo.getD 1 0) (d := step) (by omega) (by omega) (by omega)
    rw [IntWalk.wrap64_in (hi.getD 1 0 - lo.getD 1 0) (by omega), k0, IntWalk.wrap64_in ((hi.getD 1 0 - lo.getD 1 0) / step) (by omega), IntWalk.wrap64_in ((hi.getD 1 0 - lo.getD 1 0) / step + 1) (by omega)]; rfl)
  have z0 : ¬ step = 0 := by omega
  have z1 : (step == 0) = false := by simp; omega
  obtain ⟨by', oy, rfl, lty, cy⟩ := HI.out.2.1.some (by omega)
  obtain ⟨bz', oz, rfl, ltz, cz'⟩ := HI.out.2.2.some (by omega)
  have HLT := Lib.hid (And.intro lty ltz)
  have HCY := Lib.hid (And.intro (cy 0 (by omega)) (cy 1 (by omega)))
  have HCZ := Lib.hid (And.intro (cz' 0 (by omega)) (cz' 1 (by omega)))
  clear hok h3 h4 s0 s1 lty ltz cy cz'
  generalize cellsN lo hi step 0 = n0 at *
  generalize cellsN lo hi step 1 = n1 at *
  generalize hi.getD 0 0 = g0 at *
  generalize hi.getD 1 0 = g1 at *
  generalize lo.getD 0 0 = o0 at *
  generalize lo.getD 1 0 = o1 at *
  go_enter Try.func33, Try.ntmps33
  go_wp2_with fail
  refine HC.out.mono ?_
  generalize w.alloc (.cells #[.slice xa 2 xc, .slice (some ⟨by', oy, none⟩) 2 yc, .slice (some ⟨bz', oz, none⟩) 2 zc] 25) = w0 at *
  rintro e w1 ⟨rfl, B1⟩
  have HB1 := Lib.hid (below_call HB.out B1)
  have HP1 := Lib.hid (P.next B1)
  have HL1 := Lib.hid (show by' < w1.heap.size ∧ bz' < w1.heap.size from ⟨Nat.lt_of_lt_of_le HLT.out.1 B1.size, Nat.lt_of_lt_of_le HLT.out.2 B1.size⟩)
  have HD := Lib.hid (show w1.cell? ⟨by', oy, none⟩ = some (.int .i64 o0) ∧ w1.cell? ⟨by', oy + 1, none⟩ = some (.int .i64 o1) ∧ w1.cell? ⟨bz', oz, none⟩ = some (.int .i64 g0) ∧ w1.cell? ⟨bz', oz + 1, none⟩ = some (.int .i64 g1) from
    ⟨(B1.cell (p := ⟨by', oy, none⟩) HLT.out.1).trans HCY.out.1, (B1.cell (p := ⟨by', oy + 1, none⟩) HLT.out.1).trans HCY.out.2, (B1.cell (p := ⟨bz', oz, none⟩) HLT.out.2).trans HCZ.out.1, (B1.cell (p := ⟨bz', oz + 1, none⟩) HLT.out.2).trans HCZ.out.2⟩)
  have HDU := Lib.hid (fun (u : World) (hu : Below w1.heap.size w1 u) => And.intro (keptCell (Nat.lt_of_lt_of_le HL1.out.1 hu.size) ((hu.cell (p := ⟨by', oy, none⟩) HL1.out.1).trans HD.out.1)) (And.intro (keptCell (Nat.lt_of_lt_of_le HL1.out.1 hu.size) ((hu.cell (p := ⟨by', oy + 1, none⟩) HL1.out.1).trans HD.out.2.1)) (And.intro (keptCell (Nat.lt_of_lt_of_le HL1.out.2 hu.size) ((hu.cell (p := ⟨bz', oz, none⟩) HL1.out.2).trans HD.out.2.2.1)) (keptCell (Nat.lt_of_lt_of_le HL1.out.2 hu.size) ((hu.cell (p := ⟨bz', oz + 1, none⟩) HL1.out.2).trans HD.out.2.2.2)))))
  obtain ⟨_, c0, c1, c2, _, _, _⟩ := id HP1.out
  clear B1 HC P HCY HCZ HI HLT
  go_wp2_with fail
  refine (HN.out _).mono ?_
  rintro e w' ⟨rfl, rfl⟩
  go_upto_region 3 with fail
  clear c0 c1 c2
  obtain ⟨c0, c1, c2⟩ := HP1.out.kepts
  obtain ⟨d0, d1, d2, d3⟩ := HDU.out w1 (Below.refl _ _)
  refine wp_region_kept (by kernel_rfl) (by kernel_rfl) ?_
  repeat (go_big_quiet_step (fail))
  refine wpQuiet_nil ?_
  rintro w5 ⟨⟨_, K2⟩, rfl⟩
  have HB5 := Lib.hid (below_call HB1.out K2)
  have HK5 := Lib.hid K2
  clear c0 c1 c2 d0 d1 d2 d3 K2
  rw [HE0.out]
  go_upto_region 4 with fail
  obtain ⟨c0, c1, c2⟩ := (HP1.out.next HK5.out).kepts
  obtain ⟨d0, d1, d2, d3⟩ := HDU.out w5 HK5.out
  refine wp_region_kept (by kernel_rfl) (by kernel_rfl) ?_
  repeat (go_big_quiet_step (fail))
  refine wpQuiet_nil ?_
  rintro w6 ⟨⟨_, K2⟩, rfl⟩
  have HB6 := Lib.hid (below_call HB5.out K2)
  clear c0 c1 c2 d0 d1 d2 d3 K2 HDU
  rw [HE1.out]
  by_cases h5 : n0 ≤ 20
  · by_cases h6 : n1 ≤ 20
    · have q5 : decide (20 < n0) = false := decide_eq_false (by omega)
      have q6 : decide (20 < n1) = false := decide_eq_false (by omega)
      have HV := Lib.hid (HIN.out (HQ.out.2 ⟨h5, h6⟩))
      clear h5 h6
      go_wp2
      exact bodyPost_ret (v := .tuple #[.int .i64 n0, .int .i64 n1]) (by simp [results, Try.results33, go_sem]) rfl ⟨by rw [HV.out], HB6.out⟩
    · have q5 : decide (20 < n0) = false := decide_eq_false (by omega)
      have q6 : 20 < n1 := by omega
      have HV := Lib.hid (HOUT.out (fun k => h6 (HQ.out.1 k).2))
      clear h5 h6
      go_wp2
      exact bodyPost_ret (v := .tuple #[.int .i64 0, .int .i64 0]) (by simp [results, Try.results33, go_sem]) rfl ⟨by rw [HV.out], HB6.out⟩
  · have q5 : 20 < n0 := by omega
    have HV := Lib.hid (HOUT.out (fun k => h5 (HQ.out.1 k).1))
    clear h5
    go_wp2
    exact bodyPost_ret (v := .tuple #[.int .i64 0, .int .i64 0]) (by simp [results, Try.results33, go_sem]) rfl ⟨by rw [HV.out], HB6.out⟩
theorem specGridSize (x y z : Sl) (ls lo hi : List Int) (step : Int) (w : World) (hx : IntsAt w x.a x.len ls) (hy : IntsAt w y.a y.len lo) (hz : IntsAt w z.a z.len hi) (bx : x.len ≤ 9223372036854775807) (b_y : y.len ≤ 9223372036854775807) (bz : z.len ≤ 9223372036854775807) :
    Calls Try.prog 11 #[av x y z, .int .i64 step] w fun e w' => e = .returned (.tuple #[.int .i64 (gridX ls lo hi step), .int .i64 (gridY ls lo hi step)]) ∧ Below w.heap.size w w' := by
  have HB := Lib.hid (below_box w (.cells #[.slice x.a x.len x.cap, .slice y.a y.len y.cap, .slice z.a z.len z.cap] 25))
  have HC := Lib.hid (l11SizeC x y z ls lo hi step _ (hx.next HB.out) (hy.next HB.out) (hz.next HB.out) bx b_y bz)
  clear hx hy hz
  go_enter Try.func11, Try.ntmps11
  go_wp2_with fail
  refine HC.out.mono ?_
  rintro e w1 ⟨rfl, B1⟩
  have HB1 := Lib.hid (below_call HB.out B1)
  clear B1 HC
  go_wp2
  exact bodyPost_ret (v := .tuple #[.int .i64 (gridX ls lo hi step), .int .i64 (gridY ls lo hi step)]) (by simp [results, Try.results11, go_sem]) rfl ⟨rfl, HB1.out⟩
set_option maxHeartbeats 4000000 in
theorem specCellJoints (x y z : Sl) (ls lo hi : List Int) (step : Int) (c : C2) (w : World) (hx : IntsAt w x.a x.len ls) (hy : IntsAt w y.a y.len lo) (hz : IntsAt w z.a z.len hi) (bx : x.len ≤ 9223372036854775807) (b_y : y.len ≤ 9223372036854775807) (bz : z.len ≤ 9223372036854775807) (f1 : -9223372036854775808 ≤ c.1 ∧ c.1 ≤ 9223372036854775807) (f2 : -9223372036854775808 ≤ c.2 ∧ c.2 ≤ 9223372036854775807) :
    Calls Try.prog 16 #[av x y z, .int .i64 step, pt c.1 c.2] w (IntRow (jointsV ls lo hi step c) w) := by
  have HB := Lib.hid (below_box2 w (.cells #[.slice x.a x.len x.cap, .slice y.a y.len y.cap, .slice z.a z.len z.cap] 25) (.cells #[.int .i64 c.1, .int .i64 c.2] 33))
  have P := AtP.box (w.alloc (.cells #[.slice x.a x.len x.cap, .slice y.a y.len y.cap, .slice z.a z.len z.cap] 25)) c.1 c.2 33
  rw [show (w.alloc (.cells #[.slice x.a x.len x.cap, .slice y.a y.len y.cap, .slice z.a z.len z.cap] 25)).heap.size = w.heap.size + 1 by simp] at P
  have PA := (AtA.box w (.slice x.a x.len x.cap) (.slice y.a y.len y.cap) (.slice z.a z.len z.cap) 25).alloc (.cells #[.int .i64 c.1, .int .i64 c.2] 33)
  have HC := Lib.hid (l11SizeC x y z ls lo hi step _ (hx.next HB.out) (hy.next HB.out) (hz.next HB.out) bx b_y bz)
  have HY := Lib.hid (hy.next HB.out)
  clear hx hz hy
  have HXY := Lib.hid (show (okGrid ls lo hi step → gridX ls lo hi step = cellsN lo hi step 0 ∧ gridY ls lo hi step = cellsN lo hi step 1) ∧ (¬ okGrid ls lo hi step → gridX ls lo hi step = 0 ∧ gridY ls lo hi step = 0) from ⟨fun k => ⟨gridX_in k, gridY_in k⟩, fun k => ⟨gridX_out k, gridY_out k⟩⟩)
  have HOK : Hid (okCell ls lo hi step c ↔ (0 ≤ c.1 ∧ c.1 ≤ gridX ls lo hi step - 1 ∧ 0 ≤ c.2 ∧ c.2 ≤ gridY ls lo hi step - 1)) := Lib.hid (by
    by_cases k : okGrid ls lo hi step
    · rw [(HXY.out.1 k).1, (HXY.out.1 k).2]
      exact ⟨fun q => ⟨q.2.1, by have := q.2.2.1; omega, q.2.2.2.1, by have := q.2.2.2.2; omega⟩, fun q => ⟨k, q.1, by omega, q.2.2.1, by omega⟩⟩
    · rw [(HXY.out.2 k).1, (HXY.out.2 k).2]
      exact ⟨fun q => absurd q.1 k, fun q => by omega⟩)
  have HP : Hid ((0 ≤ gridX ls lo hi step ∧ gridX ls lo hi step ≤ 20) ∧ 0 ≤ gridY ls lo hi step ∧ gridY ls lo hi step ≤ 20) := Lib.hid (by
    by_cases k : okGrid ls lo hi step
    · have := grid_pos k; omega
    · rw [(HXY.out.2 k).1, (HXY.out.2 k).2]; omega)
  clear HXY
  generalize gridX ls lo hi step = nx at *
  generalize gridY ls lo hi step = ny at *
  obtain ⟨⟨p1, p2⟩, p3, p4⟩ := HP.out
  have o1 : IntKind.i64.wrap (nx - 1) = nx - 1 := wrap_in (by omega) (by omega)
  have o2 : IntKind.i64.wrap (ny - 1) = ny - 1 := wrap_in (by omega) (by omega)
  by_cases h1 : 0 ≤ c.1 ∧ c.1 ≤ nx - 1
  rotate_left
  · have HV := Lib.hid (jointsV_out (fun q => h1 ⟨(HOK.out.1 q).1, (HOK.out.1 q).2.1⟩))
    have HN1 := Lib.hid (fun (u : World) => l1In_no c.1 0 (nx - 1) u (by omega))
    clear h1
    go_enter Try.func16, Try.ntmps16
    go_wp2_with fail
    refine HC.out.mono ?_
    generalize (w.alloc (.cells #[.slice x.a x.len x.cap, .slice y.a y.len y.cap, .slice z.a z.len z.cap] 25)).alloc (.cells #[.int .i64 c.1, .int .i64 c.2] 33) = w0 at *
    rintro e w1 ⟨rfl, B1⟩
    have HB1 := Lib.hid (below_call HB.out B1)
    obtain ⟨_, c0, c1⟩ := P.next B1
    clear B1 HC P PA HY
    go_wp2_with fail
    refine (HN1.out _).mono ?_
    rintro e w' ⟨rfl, rfl⟩
    go_wp2
    go_ret
    exact ⟨⟨some ⟨w1.heap.size, 0, none⟩, 0, 0⟩, rfl, by rw [HV.out]; rfl, by rw [HV.out]; exact zero_own w1 _ HB1.out.size _ rfl, below_call HB1.out (below_box _ _)⟩
  by_cases h2 : 0 ≤ c.2 ∧ c.2 ≤ ny - 1
  rotate_left
  · have HV := Lib.hid (jointsV_out (fun q => h2 (HOK.out.1 q).2.2))
    have HN1 := Lib.hid (fun (u : World) => l1In_yes c.1 0 (nx - 1) u h1.1 h1.2)
    have HN2 := Lib.hid (fun (u : World) => l1In_no c.2 0 (ny - 1) u (by omega))
    clear h1 h2
    go_enter Try.func16, Try.ntmps16
    go_wp2_with fail
    refine HC.out.mono ?_
    generalize (w.alloc (.cells #[.slice x.a x.len x.cap, .slice y.a y.len y.cap, .slice z.a z.len z.cap] 25)).alloc (.cells #[.int .i64 c.1, .int .i64 c.2] 33) = w0 at *
    rintro e w1 ⟨rfl, B1⟩
    have HB1 := Lib.hid (below_call HB.out B1)
    obtain ⟨_, c0, c1⟩ := P.next B1
    clear B1 HC P PA HY
    go_wp2_with fail
    refine (HN1.out _).mono ?_
    rintro e w' ⟨rfl, rfl⟩
    go_wp2_with fail
    refine (HN2.out _).mono ?_
    rintro e w' ⟨rfl, rfl⟩
    go_wp2
    go_ret
    exact ⟨⟨some ⟨w1.heap.size, 0, none⟩, 0, 0⟩, rfl, by rw [HV.out]; rfl, by rw [HV.out]; exact zero_own w1 _ HB1.out.size _ rfl, below_call HB1.out (below_box _ _)⟩
  have hk : okCell ls lo hi step c := HOK.out.2 ⟨h1.1, h1.2, h2.1, h2.2⟩
  have HV := Lib.hid ((jointsV_in hk).trans (show angL lo step c = [lo.getD 0 0 + c.1 * step, lo.getD 1 0 + c.2 * step] from rfl))
  have HN1 := Lib.hid (fun (u : World) => l1In_yes c.1 0 (nx - 1) u h1.1 h1.2)
  have HN2 := Lib.hid (fun (u : World) => l1In_yes c.2 0 (ny - 1) u h2.1 h2.2)
  have hyl : y.len = 2 := by rw [HY.out.1, hk.1.1.2.2.1, hk.1.2.1]
  obtain ⟨⟨k1, k2, k3, k4, k5, k6⟩, c1, c2, c3, c4⟩ := hk
  have a0 := arm_span k1 (k := 0) (by omega)
  have a1 := arm_span k1 (k := 1) (by omega)
  unfold cellsN at c2 c4
  have s0 := cell_span c1 c2 k3
  have s1 := cell_span c3 c4 k3
  clear c1 c2 c3 c4 k1 k2 k3 k4 k5 k6 h1 h2
  obtain ⟨xa, xl, xc⟩ := x
  obtain ⟨ya, yl, yc⟩ := y
  obtain ⟨za, zl, zc⟩ := z
  obtain ⟨cx, cy⟩ := c
  simp only at *
  subst hyl
  obtain ⟨by', oy, rfl, lty, ccy⟩ := HY.out.some (by omega)
  have HL := Lib.hid lty
  have HCY := Lib.hid ccy
  obtain ⟨m0, hm0⟩ : ∃ m, cx * step = m := ⟨_, rfl⟩
  obtain ⟨m1, hm1⟩ : ∃ m, cy * step = m := ⟨_, rfl⟩
  rw [hm0] at s0 HV
  rw [hm1] at s1 HV
  have o3 : IntKind.i64.wrap (cx * step) = m0 := by rw [hm0]; exact wrap_in (by omega) (by omega)
  have o4 : IntKind.i64.wrap (cy * step) = m1 := by rw [hm1]; exact wrap_in (by omega) (by omega)
  have o5 : IntKind.i64.wrap (lo.getD 0 0 + m0) = lo.getD 0 0 + m0 := wrap_in (by omega) (by omega)
  have o6 : IntKind.i64.wrap (lo.getD 1 0 + m1) = lo.getD 1 0 + m1 := wrap_in (by omega) (by omega)
  clear lty ccy hm0 hm1 s0 s1 a0 a1
  go_enter Try.func16, Try.ntmps16
  go_wp2_with fail
  refine HC.out.mono ?_
  generalize (w.alloc (.cells #[.slice xa xl xc, .slice (some ⟨by', oy, none⟩) 2 yc, .slice za zl zc] 25)).alloc (.cells #[.int .i64 cx, .int .i64 cy] 33) = w0 at *
  rintro e w1 ⟨rfl, B1⟩
  have HB1 := Lib.hid (below_call HB.out B1)
  have HP1 := Lib.hid (And.intro (P.next B1) (PA.next B1))
  have d0 := keptCell (o := oy) (Nat.lt_of_lt_of_le HL.out B1.size) ((B1.cell (p := ⟨by', oy, none⟩) HL.out).trans (HCY.out 0 (by omega)))
  have d1 := keptCell (o := oy + 1) (Nat.lt_of_lt_of_le HL.out B1.size) ((B1.cell (p := ⟨by', oy + 1, none⟩) HL.out).trans (HCY.out 1 (by omega)))
  obtain ⟨_, c0, c1⟩ := id HP1.out.1
  clear B1 HC P PA HY HCY
  go_wp2_with fail
  refine (HN1.out _).mono ?_
  rintro e w' ⟨rfl, rfl⟩
  go_wp2_with fail
  refine (HN2.out _).mono ?_
  rintro e w' ⟨rfl, rfl⟩
  go_upto_region 4 with fail
  clear c0 c1
  obtain ⟨e0, e1⟩ := HP1.out.1.kepts
  obtain ⟨c0, c1, c2⟩ := HP1.out.2.kepts
  generalize lo.getD 0 0 = l0 at *
  generalize lo.getD 1 0 = l1 at *
  refine wp_region_ktail 18 (by kernel_rfl) (by kernel_rfl) ?_
  simp only [List.take_succ_cons, List.take_zero, List.drop_succ_cons, List.drop_zero]
  repeat (go_big_quiet_step (fail))
  refine wpQuiet_nil ?_
  rintro w2 ⟨⟨_, K2⟩, rfl⟩
  clear e0 e1 c0 c1 c2 d0 d1
  have HB2 := Lib.hid (below_call HB1.out K2)
  clear K2
  go_wp2
  go_ret
  exact ⟨⟨some ⟨w2.heap.size, 0, none⟩, 2, 2⟩, rfl, by rw [HV.out]; rfl, by rw [HV.out]; exact two_own w2 _ HB2.out.size _ _ _ rfl, below_call HB2.out (below_box _ _)⟩
end Go.Proofs.Ytkogoflcacameaa
