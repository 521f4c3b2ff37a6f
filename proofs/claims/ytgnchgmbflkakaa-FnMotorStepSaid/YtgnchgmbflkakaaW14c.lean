/- The walk of the law on steps. -/
import Derived.Test.YtgnchgmbflkakaaW14a
namespace Go.Proofs.Ytgnchgmbflkakaa
set_option maxRecDepth 100000
open Go.RowKit
attribute [local go_sem ↓] Go.wp_at_zero Go.wp_at_succ
theorem mul_bd14 {a b : Int} (h1 : -300 ≤ a ∧ a ≤ 300) (h2 : -300 ≤ b ∧ b ≤ 300) : -1000000 ≤ a * b ∧ a * b ≤ 1000000 := by
  have e : (a * b).natAbs ≤ 300 * 300 := by rw [Int.natAbs_mul]; exact Nat.mul_le_mul (by omega) (by omega)
  omega
theorem free_facts {a v f : Int} (hv : -200 ≤ v ∧ v ≤ 200) (hf : 0 ≤ f) : ((stpS a v 0 f).natAbs : Int) ≤ (v.natAbs : Int) ∧ 0 ≤ stpS a v 0 f * v := by
  obtain ⟨h1, h2⟩ := stp_free (a := a) hv hf
  rcases Int.le_total 0 v with h | h
  · have := h1 h
    exact ⟨by omega, Int.mul_nonneg this.1 h⟩
  · have := h2 h
    exact ⟨by omega, Int.mul_nonneg_of_nonpos_of_nonpos this.2 h⟩
set_option maxHeartbeats 4000000 in
theorem walkFnMotorStep (w : World) (a : Option Addr) (len cap : Nat) (zs : List Int) (h : Bytes w a len cap zs) :
    Calls Try.prog 4 #[.slice a len cap] w fun e w' => e = .returned (.bool true) ∧ Below w.heap.size w w' := by
  have hle := h.len_le
  obtain ⟨hl, hm⟩ := hle
  unfold maxLen at hm
  by_cases hbig : 1048576 < len
  · go_enter Try.func4, Try.ntmps4
    go_wp2
    go_ret
    exact ⟨rfl, Below.refl _ _⟩
  · go_enter Try.func4, Try.ntmps4
    go_wp2_with fail
    refine (drawMotorStep w a len cap zs h).mono ?_
    rintro e w1 ⟨x, y, t, f, hx, hy, ht, hf, rfl, hb⟩
    have HB := Lib.hid (below_call hb (below_box w1 (.cells #[.int .i64 x, .int .i64 y] 24)))
    have P := AtP.box w1 x y 24
    clear hb h
    go_upto_region 4 with fail
    generalize w1.alloc (.cells #[.int .i64 x, .int .i64 y] 24) = w2 at *
    generalize w1.heap.size = V at *
    have HI := Lib.hid (fun u => implMotorStep x y t f u)
    have HS := Lib.hid (fun u => specMotorStep x y t f u)
    have HV := Lib.hid (fun u => specMotorValid x y u)
    have HA := Lib.hid (fun u => abs14 t u (by omega) (by omega))
    obtain ⟨ta, hta⟩ : ∃ z, ((t.natAbs : Nat) : Int) = z := ⟨_, rfl⟩
    rw [hta] at HA
    by_cases hk : okMotor x y
    rotate_left
    · have hbad : ¬ okStp x y t f := fun q => hk q.1
      rw [show motA x y t f = 0 from if_neg hbad, show motS x y t f = 0 from if_neg hbad] at HI HS
      rw [decide_eq_false hk] at HV
      clear hbad
      obtain ⟨_, p0, p1⟩ := id P
      go_wp2_with fail
      refine (HI.out _).mono ?_
      rintro e u1 ⟨rfl, B1⟩
      replace P := P.next B1
      replace HB := Lib.hid (below_call HB.out B1)
      clear B1 p0 p1 
      have P1 := AtP.box u1 0 0 24
      have B2 := below_box u1 (.cells #[.int .i64 0, .int .i64 0] 24)
      replace P := P.next B2
      replace HB := Lib.hid (below_call HB.out B2)
      clear B2
      go_upto_region 5 with fail
      generalize u1.alloc (.cells #[.int .i64 0, .int .i64 0] 24) = u2 at *
      generalize u1.heap.size = g2 at *
      obtain ⟨kc0, kd0⟩ := P.kepts
      obtain ⟨kc1, kd1⟩ := P1.kepts
      have HSK := Lib.hid (fun (q : Kept u2) => keptCall (HS.out q.u))
      refine wp_region_kept (by kernel_rfl) (by kernel_rfl) ?_
      repeat (go_big_quiet_step ((first | (go_at_call 20; with_reducible exact HSK.out _))))
      refine wpQuiet_nil ?_
      rintro u3 ⟨⟨_, B3⟩, rfl⟩
      replace P := P.next B3
      replace P1 := P1.next B3
      replace HB := Lib.hid (below_call HB.out B3)
      clear B3 kc0 kd0 kc1 kd1 HSK
      obtain ⟨_, p0, p1⟩ := id P
      go_wp2_with fail
      refine (HV.out _).mono ?_
      rintro e u4 ⟨rfl, B4⟩
      replace P := P.next B4
      replace P1 := P1.next B4
      replace HB := Lib.hid (below_call HB.out B4)
      clear B4 p0 p1 
      obtain ⟨_, p0, p1⟩ := id P1
      go_wp2_with fail
      refine (alive _).mono ?_
      rintro e w' ⟨rfl, rfl⟩
      go_wp2
      go_ret
      exact ⟨rfl, HB.out⟩
    rw [decide_eq_true hk] at HV
    by_cases h1 : ta ≤ 100
    rotate_left
    · have hbad : ¬ okStp x y t f := fun q => h1 (by have := q.2.1; omega)
      rw [show motA x y t f = 0 from if_neg hbad, show motS x y t f = 0 from if_neg hbad] at HI HS
      have z1 : 100 < ta := by omega
      clear hbad
      obtain ⟨_, p0, p1⟩ := id P
      go_wp2_with fail
      refine (HI.out _).mono ?_
      rintro e u1 ⟨rfl, B1⟩
      replace P := P.next B1
      replace HB := Lib.hid (below_call HB.out B1)
      clear B1 p0 p1 
      have P1 := AtP.box u1 0 0 24
      have B2 := below_box u1 (.cells #[.int .i64 0, .int .i64 0] 24)
      replace P := P.next B2
      replace HB := Lib.hid (below_call HB.out B2)
      clear B2
      go_upto_region 5 with fail
      generalize u1.alloc (.cells #[.int .i64 0, .int .i64 0] 24) = u2 at *
      generalize u1.heap.size = g2 at *
      obtain ⟨kc0, kd0⟩ := P.kepts
      obtain ⟨kc1, kd1⟩ := P1.kepts
      have HSK := Lib.hid (fun (q : Kept u2) => keptCall (HS.out q.u))
      refine wp_region_kept (by kernel_rfl) (by kernel_rfl) ?_
      repeat (go_big_quiet_step ((first | (go_at_call 20; with_reducible exact HSK.out _))))
      refine wpQuiet_nil ?_
      rintro u3 ⟨⟨_, B3⟩, rfl⟩
      replace P := P.next B3
      replace P1 := P1.next B3
      replace HB := Lib.hid (below_call HB.out B3)
      clear B3 kc0 kd0 kc1 kd1 HSK
      obtain ⟨_, p0, p1⟩ := id P
      go_wp2_with fail
      refine (HV.out _).mono ?_
      rintro e u4 ⟨rfl, B4⟩
      replace P := P.next B4
      replace P1 := P1.next B4
      replace HB := Lib.hid (below_call HB.out B4)
      clear B4 p0 p1 
      go_wp2_with fail
      refine (HA.out _).mono ?_
      rintro e w' ⟨rfl, rfl⟩
      obtain ⟨_, p0, p1⟩ := id P1
      go_wp2_with fail
      refine (alive _).mono ?_
      rintro e w' ⟨rfl, rfl⟩
      go_wp2
      go_ret
      exact ⟨rfl, HB.out⟩
    by_cases h2 : 0 ≤ f
    rotate_left
    · have hbad : ¬ okStp x y t f := fun q => h2 q.2.2.1
      rw [show motA x y t f = 0 from if_neg hbad, show motS x y t f = 0 from if_neg hbad] at HI HS
      have z1 : ¬ 100 < ta := by omega
      have z2 : f < 0 := by omega
      clear hbad
      obtain ⟨_, p0, p1⟩ := id P
      go_wp2_with fail
      refine (HI.out _).mono ?_
      rintro e u1 ⟨rfl, B1⟩
      replace P := P.next B1
      replace HB := Lib.hid (below_call HB.out B1)
      clear B1 p0 p1 
      have P1 := AtP.box u1 0 0 24
      have B2 := below_box u1 (.cells #[.int .i64 0, .int .i64 0] 24)
      replace P := P.next B2
      replace HB := Lib.hid (below_call HB.out B2)
      clear B2
      go_upto_region 5 with fail
      generalize u1.alloc (.cells #[.int .i64 0, .int .i64 0] 24) = u2 at *
      generalize u1.heap.size = g2 at *
      obtain ⟨kc0, kd0⟩ := P.kepts
      obtain ⟨kc1, kd1⟩ := P1.kepts
      have HSK := Lib.hid (fun (q : Kept u2) => keptCall (HS.out q.u))
      refine wp_region_kept (by kernel_rfl) (by kernel_rfl) ?_
      repeat (go_big_quiet_step ((first | (go_at_call 20; with_reducible exact HSK.out _))))
      refine wpQuiet_nil ?_
      rintro u3 ⟨⟨_, B3⟩, rfl⟩
      replace P := P.next B3
      replace P1 := P1.next B3
      replace HB := Lib.hid (below_call HB.out B3)
      clear B3 kc0 kd0 kc1 kd1 HSK
      obtain ⟨_, p0, p1⟩ := id P
      go_wp2_with fail
      refine (HV.out _).mono ?_
      rintro e u4 ⟨rfl, B4⟩
      replace P := P.next B4
      replace P1 := P1.next B4
      replace HB := Lib.hid (below_call HB.out B4)
      clear B4 p0 p1 
      go_wp2_with fail
      refine (HA.out _).mono ?_
      rintro e w' ⟨rfl, rfl⟩
      obtain ⟨_, p0, p1⟩ := id P1
      go_wp2_with fail
      refine (alive _).mono ?_
      rintro e w' ⟨rfl, rfl⟩
      go_wp2
      go_ret
      exact ⟨rfl, HB.out⟩
    by_cases h3 : f ≤ 100
    rotate_left
    · have hbad : ¬ okStp x y t f := fun q => h3 q.2.2.2
      rw [show motA x y t f = 0 from if_neg hbad, show motS x y t f = 0 from if_neg hbad] at HI HS
      have z1 : ¬ 100 < ta := by omega
      have z2 : ¬ f < 0 := by omega
      have z3 : 100 < f := by omega
      clear hbad
      obtain ⟨_, p0, p1⟩ := id P
      go_wp2_with fail
      refine (HI.out _).mono ?_
      rintro e u1 ⟨rfl, B1⟩
      replace P := P.next B1
      replace HB := Lib.hid (below_call HB.out B1)
      clear B1 p0 p1 
      have P1 := AtP.box u1 0 0 24
      have B2 := below_box u1 (.cells #[.int .i64 0, .int .i64 0] 24)
      replace P := P.next B2
      replace HB := Lib.hid (below_call HB.out B2)
      clear B2
      go_upto_region 5 with fail
      generalize u1.alloc (.cells #[.int .i64 0, .int .i64 0] 24) = u2 at *
      generalize u1.heap.size = g2 at *
      obtain ⟨kc0, kd0⟩ := P.kepts
      obtain ⟨kc1, kd1⟩ := P1.kepts
      have HSK := Lib.hid (fun (q : Kept u2) => keptCall (HS.out q.u))
      refine wp_region_kept (by kernel_rfl) (by kernel_rfl) ?_
      repeat (go_big_quiet_step ((first | (go_at_call 20; with_reducible exact HSK.out _))))
      refine wpQuiet_nil ?_
      rintro u3 ⟨⟨_, B3⟩, rfl⟩
      replace P := P.next B3
      replace P1 := P1.next B3
      replace HB := Lib.hid (below_call HB.out B3)
      clear B3 kc0 kd0 kc1 kd1 HSK
      obtain ⟨_, p0, p1⟩ := id P
      go_wp2_with fail
      refine (HV.out _).mono ?_
      rintro e u4 ⟨rfl, B4⟩
      replace P := P.next B4
      replace P1 := P1.next B4
      replace HB := Lib.hid (below_call HB.out B4)
      clear B4 p0 p1 
      go_wp2_with fail
      refine (HA.out _).mono ?_
      rintro e w' ⟨rfl, rfl⟩
      obtain ⟨_, p0, p1⟩ := id P1
      go_wp2_with fail
      refine (alive _).mono ?_
      rintro e w' ⟨rfl, rfl⟩
      go_wp2
      go_ret
      exact ⟨rfl, HB.out⟩
    have e0 : okStp x y t f := ⟨hk, by omega, h2, h3⟩
    have z1 : ¬ 100 < ta := by omega
    have z2 : ¬ f < 0 := by omega
    have z3 : ¬ 100 < f := by omega
    obtain ⟨mx, hmx⟩ : ∃ z, -x = z := ⟨_, rfl⟩
    obtain ⟨my, hmy⟩ : ∃ z, -y = z := ⟨_, rfl⟩
    obtain ⟨mt, hmt⟩ : ∃ z, -t = z := ⟨_, rfl⟩
    have o1 : IntKind.i64.wrap (-x) = mx := by rw [hmx]; exact wrap_in (by omega) (by omega)
    have o2 : IntKind.i64.wrap (-y) = my := by rw [hmy]; exact wrap_in (by omega) (by omega)
    have o3 : IntKind.i64.wrap (-t) = mt := by rw [hmt]; exact wrap_in (by omega) (by omega)
    have e1 : okStp mx my mt f := by unfold okStp okMotor at *; omega
    have hn := stp_neg (a := x) (v := y) (t := t) h2
    rw [hmx, hmy, hmt] at hn
    have HJ := Lib.hid (fun u => implMotorStep mx my mt f u)
    rw [show motA mx my mt f = stpA mx my mt f from if_pos e1, show motS mx my mt f = stpS mx my mt f from if_pos e1, hn.1, hn.2] at HJ
    rw [show motA x y t f = stpA x y t f from if_pos e0, show motS x y t f = stpS x y t f from if_pos e0] at HI HS
    have HM := Lib.hid (fun u => implMotorValid (stpA x y t f) (stpS x y t f) u)
    have hok := stp_ok x y t f
    rw [decide_eq_true hok] at HM
    have e2 : okStp x y 0 f := ⟨hk, by omega, h2, h3⟩
    have HF := Lib.hid (fun u => implMotorStep x y 0 f u)
    rw [show motA x y 0 f = stpA x y 0 f from if_pos e2, show motS x y 0 f = stpS x y 0 f from if_pos e2] at HF
    have hff := free_facts (a := x) (f := f) hk.2 h2
    have hfb := (stp_ok x y 0 f).2
    generalize stpA x y t f = cx at *
    generalize stpS x y t f = cy at *
    generalize stpA x y 0 f = fx at *
    generalize stpS x y 0 f = fy at *
    obtain ⟨nx, hnx⟩ : ∃ z, -cx = z := ⟨_, rfl⟩
    obtain ⟨ny, hny⟩ : ∃ z, -cy = z := ⟨_, rfl⟩
    unfold okMotor at hok hk
    have o4 : IntKind.i64.wrap (-cx) = nx := by rw [hnx]; exact wrap_in (by omega) (by omega)
    have o5 : IntKind.i64.wrap (-cy) = ny := by rw [hny]; exact wrap_in (by omega) (by omega)
    rw [hnx, hny] at HJ
    have hmb := mul_bd14 (a := fy) (b := y) (by omega) (by omega)
    obtain ⟨hf1, hf2⟩ := hff
    obtain ⟨m, hm⟩ : ∃ m, fy * y = m := ⟨_, rfl⟩
    rw [hm] at hmb hf2
    have o6 : IntKind.i64.wrap (fy * y) = m := by rw [hm]; exact wrap_in (by omega) (by omega)
    have HA1 := Lib.hid (fun u => abs14 fy u (by omega) (by omega))
    have HA2 := Lib.hid (fun u => abs14 y u (by omega) (by omega))
    obtain ⟨fa, hfa⟩ : ∃ z, ((fy.natAbs : Nat) : Int) = z := ⟨_, rfl⟩
    obtain ⟨ya, hya⟩ : ∃ z, ((y.natAbs : Nat) : Int) = z := ⟨_, rfl⟩
    rw [hfa] at HA1 hf1
    rw [hya] at HA2 hf1
    have s1 : (cx == cx) = true := by simp
    have s2 : (cy == cy) = true := by simp
    have s3 : (nx == nx) = true := by simp
    have s4 : (ny == ny) = true := by simp
    clear e0 e1 e2 hn hok hfb hmx hmy hmt hnx hny hm hmb hfa hya hta hk h1 h2 h3
    obtain ⟨_, p0, p1⟩ := id P
    go_wp2_with fail
    refine (HI.out _).mono ?_
    rintro e u1 ⟨rfl, B1⟩
    replace P := P.next B1
    replace HB := Lib.hid (below_call HB.out B1)
    clear B1 p0 p1 
    have P1 := AtP.box u1 cx cy 24
    have B2 := below_box u1 (.cells #[.int .i64 cx, .int .i64 cy] 24)
    replace P := P.next B2
    replace HB := Lib.hid (below_call HB.out B2)
    clear B2
    go_upto_region 5 with fail
    generalize u1.alloc (.cells #[.int .i64 cx, .int .i64 cy] 24) = u2 at *
    generalize u1.heap.size = g2 at *
    obtain ⟨kc0, kd0⟩ := P.kepts
    obtain ⟨kc1, kd1⟩ := P1.kepts
    have HSK := Lib.hid (fun (q : Kept u2) => keptCall (HS.out q.u))
    refine wp_region_kept (by kernel_rfl) (by kernel_rfl) ?_
    repeat (go_big_quiet_step ((first | (go_at_call 20; with_reducible exact HSK.out _))))
    refine wpQuiet_nil ?_
    rintro u3 ⟨⟨_, B3⟩, rfl⟩
    replace P := P.next B3
    replace P1 := P1.next B3
    replace HB := Lib.hid (below_call HB.out B3)
    clear B3 kc0 kd0 kc1 kd1 HSK
    obtain ⟨_, p0, p1⟩ := id P
    go_wp2_with fail
    refine (HV.out _).mono ?_
    rintro e u4 ⟨rfl, B4⟩
    replace P := P.next B4
    replace P1 := P1.next B4
    replace HB := Lib.hid (below_call HB.out B4)
    clear B4 p0 p1 
    go_wp2_with fail
    refine (HA.out _).mono ?_
    rintro e w' ⟨rfl, rfl⟩
    obtain ⟨_, p0, p1⟩ := id P
    go_wp2_with fail
    refine (HJ.out _).mono ?_
    rintro e u5 ⟨rfl, B5⟩
    replace P := P.next B5
    replace P1 := P1.next B5
    replace HB := Lib.hid (below_call HB.out B5)
    clear B5 p0 p1 
    have P2 := AtP.box u5 nx ny 24
    have B6 := below_box u5 (.cells #[.int .i64 nx, .int .i64 ny] 24)
    replace P := P.next B6
    replace P1 := P1.next B6
    replace HB := Lib.hid (below_call HB.out B6)
    clear B6
    go_upto_region 10 with fail
    generalize u5.alloc (.cells #[.int .i64 nx, .int .i64 ny] 24) = u6 at *
    generalize u5.heap.size = g6 at *
    obtain ⟨_, p0, p1⟩ := id P
    go_wp2_with fail
    refine (HF.out _).mono ?_
    rintro e u7 ⟨rfl, B7⟩
    replace P := P.next B7
    replace P1 := P1.next B7
    replace P2 := P2.next B7
    replace HB := Lib.hid (below_call HB.out B7)
    clear B7 p0 p1 
    have P3 := AtP.box u7 fx fy 24
    have B8 := below_box u7 (.cells #[.int .i64 fx, .int .i64 fy] 24)
    replace P := P.next B8
    replace P1 := P1.next B8
    replace P2 := P2.next B8
    replace HB := Lib.hid (below_call HB.out B8)
    clear B8
    go_upto_region 11 with fail
    generalize u7.alloc (.cells #[.int .i64 fx, .int .i64 fy] 24) = u8 at *
    generalize u7.heap.size = g8 at *
    obtain ⟨kc0, kd0⟩ := P.kepts
    obtain ⟨kc1, kd1⟩ := P1.kepts
    obtain ⟨kc2, kd2⟩ := P2.kepts
    obtain ⟨kc3, kd3⟩ := P3.kepts
    have HK1 := Lib.hid (fun (q : Kept u8) => keptCall (HM.out q.u))
    have HK2 := Lib.hid (fun (q : Kept u8) => keptSame (HA1.out q.u))
    have HK3 := Lib.hid (fun (q : Kept u8) => keptSame (HA2.out q.u))
    refine wp_region_kept (by kernel_rfl) (by kernel_rfl) ?_
    repeat (go_big_quiet_step ((first | (go_at_call 15; with_reducible exact HK1.out _) | (go_at_call 21; first | (with_reducible exact HK2.out _) | (with_reducible exact HK3.out _)))))
    refine wpQuiet_nil ?_
    rintro w9 ⟨⟨_, K9⟩, rfl⟩
    have HB9 := Lib.hid (below_call HB.out K9)
    clear K9 HB
    go_wp2
    go_ret
    exact ⟨rfl, HB9.out⟩
end Go.Proofs.Ytgnchgmbflkakaa
