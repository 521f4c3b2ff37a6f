/- The walks of the laws on brakes and steps. -/
import Derived.Test.YtgnchgmbflkakaaW14a
import Derived.Test.YtgnchgmbflkakaaFx14
namespace Go.Proofs.Ytgnchgmbflkakaa
set_option maxRecDepth 100000
open Go.RowKit
attribute [local go_sem ↓] Go.wp_at_zero Go.wp_at_succ
/-- A brake's torque is opposite to the speed. -/
theorem brake_sign {v : Int} : clp (-v) (-100) 100 * v ≤ 0 := by
  rcases Int.le_total 0 v with h | h
  · exact Int.mul_nonpos_of_nonpos_of_nonneg (by unfold clp; omega) h
  · exact Int.mul_nonpos_of_nonneg_of_nonpos (by unfold clp; omega) h
theorem mul_small14 {a b : Int} (h1 : -300 ≤ a ∧ a ≤ 300) (h2 : -300 ≤ b ∧ b ≤ 300) : -1000000 ≤ a * b ∧ a * b ≤ 1000000 := by
  have e : (a * b).natAbs ≤ 300 * 300 := by rw [Int.natAbs_mul]; exact Nat.mul_le_mul (by omega) (by omega)
  omega
set_option maxHeartbeats 4000000 in
theorem walkFnBrakeTorque (w : World) (a : Option Addr) (len cap : Nat) (zs : List Int) (h : Bytes w a len cap zs) :
    Calls Try.prog 5 #[.slice a len cap] w fun e w' => e = .returned (.bool true) ∧ Below w.heap.size w w' := by
  have hle := h.len_le
  obtain ⟨hl, hm⟩ := hle
  unfold maxLen at hm
  by_cases hbig : 1048576 < len
  · go_enter Try.func5, Try.ntmps5
    go_wp2
    go_ret
    exact ⟨rfl, Below.refl _ _⟩
  · go_enter Try.func5, Try.ntmps5
    go_wp2_with fail
    refine (drawBrakeTorque w a len cap zs h).mono ?_
    rintro e w1 ⟨x, y, hx, hy, rfl, hb⟩
    have HB := Lib.hid (below_call hb (below_box w1 (.cells #[.int .i64 x, .int .i64 y] 24)))
    have P := AtP.box w1 x y 24
    clear hb h
    go_upto_region 4 with fail
    generalize w1.alloc (.cells #[.int .i64 x, .int .i64 y] 24) = w2 at *
    generalize w1.heap.size = V at *
    have HI := Lib.hid (fun u => implBrakeTorque x y u)
    have HS := Lib.hid (fun u => specBrakeTorque x y u)
    have HV := Lib.hid (fun u => specMotorValid x y u)
    by_cases hk : okMotor x y
    · have h3 := brake_sign (v := y)
      have h4 := brake_two hk
      have EB : brkV x y = clp (-y) (-100) 100 := if_pos hk
      rw [EB] at HI HS
      rw [decide_eq_true hk] at HV
      have ht : -100 ≤ clp (-y) (-100) 100 ∧ clp (-y) (-100) 100 ≤ 100 := clp_bd (by omega)
      obtain ⟨t, htt⟩ : ∃ t, clp (-y) (-100) 100 = t := ⟨_, rfl⟩
      rw [htt] at HI HS h3 h4 ht
      have e1 : okStp x y t 0 := ⟨hk, ht, by omega, by omega⟩
      have HJ := Lib.hid (fun u => implMotorStep x y t 0 u)
      rw [show motA x y t 0 = stpA x y t 0 from if_pos e1, show motS x y t 0 = stpS x y t 0 from if_pos e1] at HJ
      have hk2 := stp_ok x y t 0
      generalize stpA x y t 0 = c1 at *
      generalize stpS x y t 0 = c2 at *
      have HB2 := Lib.hid (fun u => implBrakeTorque c1 c2 u)
      rw [show brkV c1 c2 = clp (-c2) (-100) 100 from if_pos hk2] at HB2
      have ht2 : -100 ≤ clp (-c2) (-100) 100 ∧ clp (-c2) (-100) 100 ≤ 100 := clp_bd (by omega)
      generalize clp (-c2) (-100) 100 = t2 at *
      have e2 : okStp c1 c2 t2 0 := ⟨hk2, ht2, by omega, by omega⟩
      have HJ2 := Lib.hid (fun u => implMotorStep c1 c2 t2 0 u)
      rw [show motA c1 c2 t2 0 = stpA c1 c2 t2 0 from if_pos e2, show motS c1 c2 t2 0 = stpS c1 c2 t2 0 from if_pos e2, h4] at HJ2
      generalize stpA c1 c2 t2 0 = d1 at *
      have hm2 := mul_small14 (a := t) (b := y) (by omega) (by omega)
      obtain ⟨m, hm3⟩ : ∃ m, t * y = m := ⟨_, rfl⟩
      rw [hm3] at h3 hm2
      have o1 : IntKind.i64.wrap (t * y) = m := by rw [hm3]; exact wrap_in (by omega) (by omega)
      have HA := Lib.hid (fun u => abs14 t u (by omega) (by omega))
      have h5 : ((t.natAbs : Nat) : Int) ≤ 100 := by omega
      have e3 : (t != t) = false := by simp
      generalize ((t.natAbs : Nat) : Int) = ta at *
      clear EB htt e1 e2 h4 hm2 hm3 hk hk2 ht ht2
      obtain ⟨_, p0, p1⟩ := id P
      go_wp2_with fail
      refine (HI.out _).mono ?_
      rintro e u1 ⟨rfl, B1⟩
      replace P := P.next B1
      replace HB := Lib.hid (below_call HB.out B1)
      clear B1 p0 p1 
      obtain ⟨_, p0, p1⟩ := id P
      go_wp2_with fail
      refine (HS.out _).mono ?_
      rintro e u2 ⟨rfl, B2⟩
      replace P := P.next B2
      replace HB := Lib.hid (below_call HB.out B2)
      clear B2 p0 p1 
      obtain ⟨_, p0, p1⟩ := id P
      go_wp2_with fail
      refine (HV.out _).mono ?_
      rintro e u3 ⟨rfl, B3⟩
      replace P := P.next B3
      replace HB := Lib.hid (below_call HB.out B3)
      clear B3 p0 p1 
      obtain ⟨_, p0, p1⟩ := id P
      go_wp2_with fail
      refine (HJ.out _).mono ?_
      rintro e u4 ⟨rfl, B4⟩
      replace P := P.next B4
      replace HB := Lib.hid (below_call HB.out B4)
      clear B4 p0 p1 
      have P1 := AtP.box u4 c1 c2 24
      have B5 := below_box u4 (.cells #[.int .i64 c1, .int .i64 c2] 24)
      replace P := P.next B5
      replace HB := Lib.hid (below_call HB.out B5)
      clear B5
      go_upto_region 10 with fail
      generalize u4.alloc (.cells #[.int .i64 c1, .int .i64 c2] 24) = u5 at *
      generalize u4.heap.size = g5 at *
      have HP1 := Lib.hid P1
      have HPV := Lib.hid P
      have HBW := Lib.hid HB.out
      clear P P1 HB HI HS HV HJ
      generalize g5 = XB at *
      refine wp_region_inv (fun listed act u => ∃ (l0 l1 l2 l3 l4 l5 : Bool) (v6 v29 v30 v31 v32 p0 p1 p2 p7 p8 p9 p10 p11 p12 p13 p14 p15 p16 p17 p18 p19 p20 p21 p22 p23 p24 p25 p26 p27 p28 p33 p34 p35 p36 p37 p38 p39 p40 p41 p42 p43 p44 p45 p46 p47 : Value), listed = #[l0, l1, l2, l3, l4, l5] ∧ act = { tmps := #[p0, p1, p2, .pointer (some ⟨V, 0, none⟩), .int .i64 t, .pointer (some ⟨XB, 0, none⟩), v6, p7, p8, p9, p10, p11, p12, p13, p14, p15, p16, p17, p18, p19, p20, p21, p22, p23, p24, p25, p26, p27, p28, v29, v30, v31, v32, p33, p34, p35, p36, p37, p38, p39, p40, p41, p42, p43, p44, p45, p46, p47], defers := [] } ∧ (l0 = true → v29 = pt c1 c2) ∧ (l1 = true → v30 = pt c1 c2) ∧ (l2 = true → v31 = .int .i64 t2) ∧ (l3 = true → v32 = pt d1 0) ∧ (l4 = true → NewB u5.heap.size u l5 #[.int .i64 0, .int .i64 0] #[.int .i64 d1, .int .i64 0] 24 v6) ∧ (l5 = true → l4 = true) ∧ Below u5.heap.size u5 u) (by kernel_rfl) ?_ ?_ ?_ ?_ ?_
      · intro j o ho
        have hj : j < 6 := by rcases Nat.lt_or_ge j 6 with h | h; exact h; rw [Array.getElem?_eq_none (by simpa using h)] at ho; cases ho
        have hj2 : j = 0 ∨ j = 1 ∨ j = 2 ∨ j = 3 ∨ j = 4 ∨ j = 5 := by omega
        rcases hj2 with rfl | rfl | rfl | rfl | rfl | rfl
        all_goals
          cases ho
          decide
      · rintro listed act u ⟨l0, l1, l2, l3, l4, l5, v6, v29, v30, v31, v32, p0, p1, p2, p7, p8, p9, p10, p11, p12, p13, p14, p15, p16, p17, p18, p19, p20, p21, p22, p23, p24, p25, p26, p27, p28, p33, p34, p35, p36, p37, p38, p39, p40, p41, p42, p43, p44, p45, p46, p47, rfl, _⟩
        rfl
      · exact ⟨false, false, false, false, false, false, _, _, _, _, _, _, _, _, _, _, _, _, _, _, _, _, _, _, _, _, _, _, _, _, _, _, _, _, _, _, _, _, _, _, _, _, _, _, _, _, _, _, _, _, _, rfl, rfl, (by intro h; cases h), (by intro h; cases h), (by intro h; cases h), (by intro h; cases h), (by intro h; cases h), (by intro h; cases h), (Below.refl _ _).drew⟩
      · intro listed act u i o hR ho hl hd
        obtain ⟨l0, l1, l2, l3, l4, l5, v6, v29, v30, v31, v32, p0, p1, p2, p7, p8, p9, p10, p11, p12, p13, p14, p15, p16, p17, p18, p19, p20, p21, p22, p23, p24, p25, p26, p27, p28, p33, p34, p35, p36, p37, p38, p39, p40, p41, p42, p43, p44, p45, p46, p47, rfl, rfl, c0, c1, c2, c3, c4, c5, HB⟩ := hR
        have hi : i < 6 := by rcases Nat.lt_or_ge i 6 with h | h; exact h; rw [Array.getElem?_eq_none (by simpa using h)] at ho; cases ho
        have hi2 : i = 0 ∨ i = 1 ∨ i = 2 ∨ i = 3 ∨ i = 4 ∨ i = 5 := by omega
        rcases hi2 with rfl | rfl | rfl | rfl | rfl | rfl
        all_goals (cases ho)
        · obtain ⟨_, k0, k1⟩ := HP1.out.next HB
          refine wpOp_step rfl (fun K hK => ?_)
          go_simp
          refine hK _ _ ?_
          exact ⟨true, l1, l2, l3, l4, l5, _, _, _, _, _, _, _, _, _, _, _, _, _, _, _, _, _, _, _, _, _, _, _, _, _, _, _, _, _, _, _, _, _, _, _, _, _, _, _, _, _, _, _, _, _, rfl, rfl, fun _ => rfl, c1, c2, c3, c4, c5, HB⟩
        · obtain ⟨_, k0, k1⟩ := HP1.out.next HB
          refine wpOp_step rfl (fun K hK => ?_)
          go_simp
          refine hK _ _ ?_
          exact ⟨l0, true, l2, l3, l4, l5, _, _, _, _, _, _, _, _, _, _, _, _, _, _, _, _, _, _, _, _, _, _, _, _, _, _, _, _, _, _, _, _, _, _, _, _, _, _, _, _, _, _, _, _, _, rfl, rfl, c0, fun _ => rfl, c2, c3, c4, c5, HB⟩
        · obtain rfl := c1 (hd { on := 1, ground := Ground.data } (by simp) rfl)
          refine wpOp_step rfl (fun K hK => ?_)
          go_simp
          refine (HB2.out u).mono ?_
          rintro e u' ⟨rfl, BC⟩
          refine hK _ _ ?_
          exact ⟨l0, l1, true, l3, l4, l5, _, _, _, _, _, _, _, _, _, _, _, _, _, _, _, _, _, _, _, _, _, _, _, _, _, _, _, _, _, _, _, _, _, _, _, _, _, _, _, _, _, _, _, _, _, rfl, rfl, c0, c1, fun _ => rfl, c3, fun h => (c4 h).next BC, c5, below_call HB BC⟩
        · obtain rfl := c0 (hd { on := 0, ground := Ground.data } (by simp) rfl)
          obtain rfl := c2 (hd { on := 2, ground := Ground.data } (by simp) rfl)
          refine wpOp_step rfl (fun K hK => ?_)
          go_simp
          refine (HJ2.out u).mono ?_
          rintro e u' ⟨rfl, BC⟩
          refine hK _ _ ?_
          exact ⟨l0, l1, l2, true, l4, l5, _, _, _, _, _, _, _, _, _, _, _, _, _, _, _, _, _, _, _, _, _, _, _, _, _, _, _, _, _, _, _, _, _, _, _, _, _, _, _, _, _, _, _, _, _, rfl, rfl, c0, c1, c2, fun _ => rfl, fun h => (c4 h).next BC, c5, below_call HB BC⟩
        · have e5 : l5 = false := by cases h : l5 with | false => rfl | true => exact absurd (c5 h) (by rw [show l4 = false from hl]; exact Bool.false_ne_true)
          subst e5
          refine wpOp_step rfl (fun K hK => ?_)
          go_simp
          refine hK _ _ ?_
          exact ⟨l0, l1, l2, l3, true, false, _, _, _, _, _, _, _, _, _, _, _, _, _, _, _, _, _, _, _, _, _, _, _, _, _, _, _, _, _, _, _, _, _, _, _, _, _, _, _, _, _, _, _, _, _, rfl, rfl, c0, c1, c2, c3, fun _ => NewB.new _ HB.size, fun _ => rfl, below_call HB (below_box _ _)⟩
        · obtain rfl := c3 (hd { on := 3, ground := Ground.data } (by simp) rfl)
          have q := c4 (hd { on := 4, ground := Ground.data } (by simp) rfl)
          rw [show l5 = false from hl] at q
          obtain ⟨b, rfl, hb, HQ⟩ := q
          have q0 := HQ.cell (i := 0) rfl
          have q1 := HQ.cell (i := 1) rfl
          have f0 := HQ.frozen (i := 0)
          have f1 := HQ.frozen (i := 1)
          refine wpOp_step rfl (fun K hK => ?_)
          go_simp
          refine hK _ _ ?_
          exact ⟨l0, l1, l2, l3, l4, true, _, _, _, _, _, _, _, _, _, _, _, _, _, _, _, _, _, _, _, _, _, _, _, _, _, _, _, _, _, _, _, _, _, _, _, _, _, _, _, _, _, _, _, _, _, rfl, rfl, c0, c1, c2, c3, fun _ => NewB.put2' hb HQ _ _ rfl, fun _ => (hd { on := 4, ground := Ground.data } (by simp) rfl), ((HB.setCell (p := ⟨b, 0, none⟩) hb _).setCell (p := ⟨b, 1, none⟩) hb _)⟩
      · rintro listed act u ⟨l0, l1, l2, l3, l4, l5, v6, v29, v30, v31, v32, p0, p1, p2, p7, p8, p9, p10, p11, p12, p13, p14, p15, p16, p17, p18, p19, p20, p21, p22, p23, p24, p25, p26, p27, p28, p33, p34, p35, p36, p37, p38, p39, p40, p41, p42, p43, p44, p45, p46, p47, rfl, rfl, c0, c1, c2, c3, c4, c5, HB⟩ hall
        obtain rfl := c0 (hall 0 (by decide))
        obtain rfl := c1 (hall 1 (by decide))
        obtain rfl := c2 (hall 2 (by decide))
        obtain rfl := c3 (hall 3 (by decide))
        obtain ⟨b6, rfl, hb6, HQ6⟩ := NewB.done (show l5 = true from hall 5 (by decide)) (c4 (hall 4 (by decide)))
        have HBR := Lib.hid HB
        have HN6 := Lib.hid HQ6
        clear c0 c1 c2 c3 c4 c5 HB HQ6 hall
        have HB5 := Lib.hid (below_call HBW.out HBR.out)
        obtain ⟨_, p0, p1⟩ := HPV.out.next HBR.out
        have q0 := HN6.out.cell (i := 0) rfl
        have q1 := HN6.out.cell (i := 1) rfl
        clear HBR HN6 hb6
        go_wp2_with fail
        refine (HA.out _).mono ?_
        rintro e w' ⟨rfl, rfl⟩
        go_wp2
        go_ret
        exact ⟨rfl, HB5.out⟩
    · rw [show brkV x y = 0 from if_neg hk] at HI HS
      rw [decide_eq_false hk] at HV
      obtain ⟨_, p0, p1⟩ := id P
      go_wp2_with fail
      refine (HI.out _).mono ?_
      rintro e u1 ⟨rfl, B1⟩
      replace P := P.next B1
      replace HB := Lib.hid (below_call HB.out B1)
      clear B1 p0 p1 
      obtain ⟨_, p0, p1⟩ := id P
      go_wp2_with fail
      refine (HS.out _).mono ?_
      rintro e u2 ⟨rfl, B2⟩
      replace P := P.next B2
      replace HB := Lib.hid (below_call HB.out B2)
      clear B2 p0 p1 
      obtain ⟨_, p0, p1⟩ := id P
      go_wp2_with fail
      refine (HV.out _).mono ?_
      rintro e u3 ⟨rfl, B3⟩
      replace P := P.next B3
      replace HB := Lib.hid (below_call HB.out B3)
      clear B3 p0 p1 
      go_wp2_with fail
      refine (alive _).mono ?_
      rintro e w' ⟨rfl, rfl⟩
      go_wp2
      go_ret
      exact ⟨rfl, HB.out⟩
end Go.Proofs.Ytgnchgmbflkakaa
