/- The walk of the law on controllers. -/
import Derived.Test.YtgnchgmbflkakaaW14a
namespace Go.Proofs.Ytgnchgmbflkakaa
set_option maxRecDepth 100000
open Go.RowKit
attribute [local go_sem ↓] Go.wp_at_zero Go.wp_at_succ
set_option maxHeartbeats 4000000 in
theorem walkFnAimTorque (w : World) (a : Option Addr) (len cap : Nat) (zs : List Int) (h : Bytes w a len cap zs) :
    Calls Try.prog 6 #[.slice a len cap] w fun e w' => e = .returned (.bool true) ∧ Below w.heap.size w w' := by
  have hle := h.len_le
  obtain ⟨hl, hm⟩ := hle
  unfold maxLen at hm
  by_cases hbig : 1048576 < len
  · go_enter Try.func6, Try.ntmps6
    go_wp2
    go_ret
    exact ⟨rfl, Below.refl _ _⟩
  · go_enter Try.func6, Try.ntmps6
    go_wp2_with fail
    refine (drawAimTorque w a len cap zs h).mono ?_
    rintro e w1 ⟨x, y, g, k, d, hx, hy, hg, hkk, hd, rfl, hb⟩
    have HB := Lib.hid (below_call hb (below_box w1 (.cells #[.int .i64 x, .int .i64 y] 24)))
    have P := AtP.box w1 x y 24
    clear hb h
    go_upto_region 4 with fail
    generalize w1.alloc (.cells #[.int .i64 x, .int .i64 y] 24) = w2 at *
    generalize w1.heap.size = V at *
    have HI := Lib.hid (fun u => implAimTorque x y g k d u)
    have HS := Lib.hid (fun u => specAimTorque x y g k d u)
    have HV := Lib.hid (fun u => specMotorValid x y u)
    have HA := Lib.hid (fun u => abs14 g u (by omega) (by omega))
    obtain ⟨ta, hta⟩ : ∃ z, ((g.natAbs : Nat) : Int) = z := ⟨_, rfl⟩
    rw [hta] at HA
    by_cases hk : okMotor x y
    rotate_left
    · rw [show aimV x y g k d = 0 from if_neg (fun q => hk q.1)] at HI HS
      rw [decide_eq_false hk] at HV
      obtain ⟨_, p0, p1⟩ := id P
      go_wp2_with fail
      refine (HI.out _).mono ?_
      rintro e u1 ⟨rfl, B1⟩
      replace P := P.next B1
      replace HB := Lib.hid (below_call HB.out B1)
      clear B1 p0 p1 
      obtain ⟨_, p0, p1⟩ := id P
      go_wp2_with fail
      refine (HS.out _).mono ?_
      rintro e u2 ⟨rfl, B2⟩
      replace P := P.next B2
      replace HB := Lib.hid (below_call HB.out B2)
      clear B2 p0 p1 
      obtain ⟨_, p0, p1⟩ := id P
      go_wp2_with fail
      refine (HV.out _).mono ?_
      rintro e u3 ⟨rfl, B3⟩
      replace P := P.next B3
      replace HB := Lib.hid (below_call HB.out B3)
      clear B3 p0 p1 
      go_wp2_with fail
      refine (alive _).mono ?_
      rintro e w' ⟨rfl, rfl⟩
      go_wp2
      go_ret
      exact ⟨rfl, HB.out⟩
    rw [decide_eq_true hk] at HV
    by_cases h1 : ta ≤ 10000
    rotate_left
    · rw [show aimV x y g k d = 0 from if_neg (fun q => h1 (by have := q.2.1; omega))] at HI HS
      have z1 : 10000 < ta := by omega
      obtain ⟨_, p0, p1⟩ := id P
      go_wp2_with fail
      refine (HI.out _).mono ?_
      rintro e u1 ⟨rfl, B1⟩
      replace P := P.next B1
      replace HB := Lib.hid (below_call HB.out B1)
      clear B1 p0 p1 
      obtain ⟨_, p0, p1⟩ := id P
      go_wp2_with fail
      refine (HS.out _).mono ?_
      rintro e u2 ⟨rfl, B2⟩
      replace P := P.next B2
      replace HB := Lib.hid (below_call HB.out B2)
      clear B2 p0 p1 
      obtain ⟨_, p0, p1⟩ := id P
      go_wp2_with fail
      refine (HV.out _).mono ?_
      rintro e u3 ⟨rfl, B3⟩
      replace P := P.next B3
      replace HB := Lib.hid (below_call HB.out B3)
      clear B3 p0 p1 
      go_wp2_with fail
      refine (HA.out _).mono ?_
      rintro e w' ⟨rfl, rfl⟩
      go_wp2_with fail
      refine (alive _).mono ?_
      rintro e w' ⟨rfl, rfl⟩
      go_wp2
      go_ret
      exact ⟨rfl, HB.out⟩
    by_cases h2 : 0 ≤ k
    rotate_left
    · rw [show aimV x y g k d = 0 from if_neg (fun q => h2 q.2.2.1.1)] at HI HS
      have z1 : ¬ 10000 < ta := by omega
      have z2 : k < 0 := by omega
      obtain ⟨_, p0, p1⟩ := id P
      go_wp2_with fail
      refine (HI.out _).mono ?_
      rintro e u1 ⟨rfl, B1⟩
      replace P := P.next B1
      replace HB := Lib.hid (below_call HB.out B1)
      clear B1 p0 p1 
      obtain ⟨_, p0, p1⟩ := id P
      go_wp2_with fail
      refine (HS.out _).mono ?_
      rintro e u2 ⟨rfl, B2⟩
      replace P := P.next B2
      replace HB := Lib.hid (below_call HB.out B2)
      clear B2 p0 p1 
      obtain ⟨_, p0, p1⟩ := id P
      go_wp2_with fail
      refine (HV.out _).mono ?_
      rintro e u3 ⟨rfl, B3⟩
      replace P := P.next B3
      replace HB := Lib.hid (below_call HB.out B3)
      clear B3 p0 p1 
      go_wp2_with fail
      refine (HA.out _).mono ?_
      rintro e w' ⟨rfl, rfl⟩
      go_wp2_with fail
      refine (alive _).mono ?_
      rintro e w' ⟨rfl, rfl⟩
      go_wp2
      go_ret
      exact ⟨rfl, HB.out⟩
    by_cases h3 : k ≤ 64
    rotate_left
    · rw [show aimV x y g k d = 0 from if_neg (fun q => h3 q.2.2.1.2)] at HI HS
      have z1 : ¬ 10000 < ta := by omega
      have z2 : ¬ k < 0 := by omega
      have z3 : 64 < k := by omega
      obtain ⟨_, p0, p1⟩ := id P
      go_wp2_with fail
      refine (HI.out _).mono ?_
      rintro e u1 ⟨rfl, B1⟩
      replace P := P.next B1
      replace HB := Lib.hid (below_call HB.out B1)
      clear B1 p0 p1 
      obtain ⟨_, p0, p1⟩ := id P
      go_wp2_with fail
      refine (HS.out _).mono ?_
      rintro e u2 ⟨rfl, B2⟩
      replace P := P.next B2
      replace HB := Lib.hid (below_call HB.out B2)
      clear B2 p0 p1 
      obtain ⟨_, p0, p1⟩ := id P
      go_wp2_with fail
      refine (HV.out _).mono ?_
      rintro e u3 ⟨rfl, B3⟩
      replace P := P.next B3
      replace HB := Lib.hid (below_call HB.out B3)
      clear B3 p0 p1 
      go_wp2_with fail
      refine (HA.out _).mono ?_
      rintro e w' ⟨rfl, rfl⟩
      go_wp2_with fail
      refine (alive _).mono ?_
      rintro e w' ⟨rfl, rfl⟩
      go_wp2
      go_ret
      exact ⟨rfl, HB.out⟩
    by_cases h4 : 0 ≤ d
    rotate_left
    · rw [show aimV x y g k d = 0 from if_neg (fun q => h4 q.2.2.2.1)] at HI HS
      have z1 : ¬ 10000 < ta := by omega
      have z2 : ¬ k < 0 := by omega
      have z3 : ¬ 64 < k := by omega
      have z4 : d < 0 := by omega
      obtain ⟨_, p0, p1⟩ := id P
      go_wp2_with fail
      refine (HI.out _).mono ?_
      rintro e u1 ⟨rfl, B1⟩
      replace P := P.next B1
      replace HB := Lib.hid (below_call HB.out B1)
      clear B1 p0 p1 
      obtain ⟨_, p0, p1⟩ := id P
      go_wp2_with fail
      refine (HS.out _).mono ?_
      rintro e u2 ⟨rfl, B2⟩
      replace P := P.next B2
      replace HB := Lib.hid (below_call HB.out B2)
      clear B2 p0 p1 
      obtain ⟨_, p0, p1⟩ := id P
      go_wp2_with fail
      refine (HV.out _).mono ?_
      rintro e u3 ⟨rfl, B3⟩
      replace P := P.next B3
      replace HB := Lib.hid (below_call HB.out B3)
      clear B3 p0 p1 
      go_wp2_with fail
      refine (HA.out _).mono ?_
      rintro e w' ⟨rfl, rfl⟩
      go_wp2_with fail
      refine (alive _).mono ?_
      rintro e w' ⟨rfl, rfl⟩
      go_wp2
      go_ret
      exact ⟨rfl, HB.out⟩
    by_cases h5 : d ≤ 64
    rotate_left
    · rw [show aimV x y g k d = 0 from if_neg (fun q => h5 q.2.2.2.2)] at HI HS
      have z1 : ¬ 10000 < ta := by omega
      have z2 : ¬ k < 0 := by omega
      have z3 : ¬ 64 < k := by omega
      have z4 : ¬ d < 0 := by omega
      have z5 : 64 < d := by omega
      obtain ⟨_, p0, p1⟩ := id P
      go_wp2_with fail
      refine (HI.out _).mono ?_
      rintro e u1 ⟨rfl, B1⟩
      replace P := P.next B1
      replace HB := Lib.hid (below_call HB.out B1)
      clear B1 p0 p1 
      obtain ⟨_, p0, p1⟩ := id P
      go_wp2_with fail
      refine (HS.out _).mono ?_
      rintro e u2 ⟨rfl, B2⟩
      replace P := P.next B2
      replace HB := Lib.hid (below_call HB.out B2)
      clear B2 p0 p1 
      obtain ⟨_, p0, p1⟩ := id P
      go_wp2_with fail
      refine (HV.out _).mono ?_
      rintro e u3 ⟨rfl, B3⟩
      replace P := P.next B3
      replace HB := Lib.hid (below_call HB.out B3)
      clear B3 p0 p1 
      go_wp2_with fail
      refine (HA.out _).mono ?_
      rintro e w' ⟨rfl, rfl⟩
      go_wp2_with fail
      refine (alive _).mono ?_
      rintro e w' ⟨rfl, rfl⟩
      go_wp2
      go_ret
      exact ⟨rfl, HB.out⟩
    have z1 : ¬ 10000 < ta := by omega
    have z2 : ¬ k < 0 := by omega
    have z3 : ¬ 64 < k := by omega
    have z4 : ¬ d < 0 := by omega
    have z5 : ¬ 64 < d := by omega
    have e0 : okAim x y g k d := ⟨hk, by omega, ⟨h2, h3⟩, h4, h5⟩
    rw [show aimV x y g k d = aimN x y g k d from if_pos e0] at HI HS
    have hb := aim_bd x y g k d
    have e1 : okAim x 0 g k d := ⟨⟨hk.1, by omega, by omega⟩, by omega, ⟨h2, h3⟩, h4, h5⟩
    have HJ := Lib.hid (fun u => implAimTorque x 0 g k d u)
    rw [show aimV x 0 g k d = aimN x 0 g k d from if_pos e1] at HJ
    obtain ⟨k2, hk2⟩ : ∃ z, min 64 (k + 1) = z := ⟨_, rfl⟩
    have e2 : okAim x 0 g k2 d := ⟨⟨hk.1, by omega, by omega⟩, by omega, ⟨by omega, by omega⟩, h4, h5⟩
    have HK := Lib.hid (fun u => implAimTorque x 0 g k2 d u)
    rw [show aimV x 0 g k2 d = aimN x 0 g k2 d from if_pos e2] at HK
    have hmore := aim_more (a := x) (g := g) (d := d) (show k ≤ k2 by omega)
    have e3 : okAim g 0 g k d := ⟨⟨by omega, by omega, by omega⟩, by omega, ⟨h2, h3⟩, h4, h5⟩
    have HH := Lib.hid (fun u => implAimTorque g 0 g k d u)
    rw [show aimV g 0 g k d = 0 from (if_pos e3).trans (aim_home g k d)] at HH
    have HAT := Lib.hid (fun u => abs14 (aimN x y g k d) u (by omega) (by omega))
    have hat : (((aimN x y g k d).natAbs : Nat) : Int) ≤ 100 := by omega
    generalize (((aimN x y g k d).natAbs : Nat) : Int) = tn at *
    generalize aimN x y g k d = t at *
    generalize aimN x 0 g k d = a1 at *
    generalize aimN x 0 g k2 d = b1 at *
    have s1 : (t != t) = false := by simp
    have o7 : IntKind.i64.wrap (k + 1) = k + 1 := wrap_in (by omega) (by omega)
    obtain ⟨m1, m2⟩ := hmore
    clear e0 e1 e2 e3 hb hta
    rcases (show k < 63 ∨ k = 63 ∨ k = 64 by omega) with q9 | q9 | q9
    · rcases Int.lt_or_le g x with q | q
      · have j1 : k + 1 < 64 := by omega
        obtain rfl : k2 = k + 1 := by omega
        have r1 := m2 (by omega)
        have r2 : ¬ x < g := by omega
        clear m1 m2 hk2 hk h1 h2 h3 h4 h5 hx hy hkk hd
        obtain ⟨_, p0, p1⟩ := id P
        go_wp2_with fail
        refine (HI.out _).mono ?_
        rintro e u1 ⟨rfl, B1⟩
        replace P := P.next B1
        replace HB := Lib.hid (below_call HB.out B1)
        clear B1 p0 p1 
        obtain ⟨_, p0, p1⟩ := id P
        go_wp2_with fail
        refine (HS.out _).mono ?_
        rintro e u2 ⟨rfl, B2⟩
        replace P := P.next B2
        replace HB := Lib.hid (below_call HB.out B2)
        clear B2 p0 p1 
        obtain ⟨_, p0, p1⟩ := id P
        go_wp2_with fail
        refine (HV.out _).mono ?_
        rintro e u3 ⟨rfl, B3⟩
        replace P := P.next B3
        replace HB := Lib.hid (below_call HB.out B3)
        clear B3 p0 p1 
        go_wp2_with fail
        refine (HA.out _).mono ?_
        rintro e w' ⟨rfl, rfl⟩
        obtain ⟨_, p0, p1⟩ := id P
        have P1 := AtP.box u3 x 0 24
        have B4 := below_box u3 (.cells #[.int .i64 x, .int .i64 0] 24)
        replace P := P.next B4
        replace HB := Lib.hid (below_call HB.out B4)
        clear B4
        go_upto_region 10 with fail
        generalize u3.alloc (.cells #[.int .i64 x, .int .i64 0] 24) = u4 at *
        generalize u3.heap.size = g4 at *
        obtain ⟨_, p0, p1⟩ := id P1
        go_wp2_with fail
        refine (HJ.out _).mono ?_
        rintro e u5 ⟨rfl, B5⟩
        replace P := P.next B5
        replace P1 := P1.next B5
        replace HB := Lib.hid (below_call HB.out B5)
        clear B5 p0 p1 
        obtain ⟨_, p0, p1⟩ := id P1
        go_wp2_with fail
        refine (HK.out _).mono ?_
        rintro e u6 ⟨rfl, B6⟩
        replace P := P.next B6
        replace P1 := P1.next B6
        replace HB := Lib.hid (below_call HB.out B6)
        clear B6 p0 p1 
        go_wp2_with fail
        refine (HAT.out _).mono ?_
        rintro e w' ⟨rfl, rfl⟩
        go_wp2_with fail
        refine (HH.out _).mono ?_
        rintro e u7 ⟨rfl, B7⟩
        replace P := P.next B7
        replace P1 := P1.next B7
        replace HB := Lib.hid (below_call HB.out B7)
        clear B7
        obtain ⟨_, p0, p1⟩ := id P
        go_wp2
        go_ret
        exact ⟨rfl, HB.out⟩
      · rcases Int.lt_or_le x g with q2 | q2
        · have j1 : k + 1 < 64 := by omega
          obtain rfl : k2 = k + 1 := by omega
          have r1 := m1 (by omega)
          have r2 : ¬ g < x := by omega
          clear m1 m2 hk2 hk h1 h2 h3 h4 h5 hx hy hkk hd
          obtain ⟨_, p0, p1⟩ := id P
          go_wp2_with fail
          refine (HI.out _).mono ?_
          rintro e u1 ⟨rfl, B1⟩
          replace P := P.next B1
          replace HB := Lib.hid (below_call HB.out B1)
          clear B1 p0 p1 
          obtain ⟨_, p0, p1⟩ := id P
          go_wp2_with fail
          refine (HS.out _).mono ?_
          rintro e u2 ⟨rfl, B2⟩
          replace P := P.next B2
          replace HB := Lib.hid (below_call HB.out B2)
          clear B2 p0 p1 
          obtain ⟨_, p0, p1⟩ := id P
          go_wp2_with fail
          refine (HV.out _).mono ?_
          rintro e u3 ⟨rfl, B3⟩
          replace P := P.next B3
          replace HB := Lib.hid (below_call HB.out B3)
          clear B3 p0 p1 
          go_wp2_with fail
          refine (HA.out _).mono ?_
          rintro e w' ⟨rfl, rfl⟩
          obtain ⟨_, p0, p1⟩ := id P
          have P1 := AtP.box u3 x 0 24
          have B4 := below_box u3 (.cells #[.int .i64 x, .int .i64 0] 24)
          replace P := P.next B4
          replace HB := Lib.hid (below_call HB.out B4)
          clear B4
          go_upto_region 10 with fail
          generalize u3.alloc (.cells #[.int .i64 x, .int .i64 0] 24) = u4 at *
          generalize u3.heap.size = g4 at *
          obtain ⟨_, p0, p1⟩ := id P1
          go_wp2_with fail
          refine (HJ.out _).mono ?_
          rintro e u5 ⟨rfl, B5⟩
          replace P := P.next B5
          replace P1 := P1.next B5
          replace HB := Lib.hid (below_call HB.out B5)
          clear B5 p0 p1 
          obtain ⟨_, p0, p1⟩ := id P1
          go_wp2_with fail
          refine (HK.out _).mono ?_
          rintro e u6 ⟨rfl, B6⟩
          replace P := P.next B6
          replace P1 := P1.next B6
          replace HB := Lib.hid (below_call HB.out B6)
          clear B6 p0 p1 
          go_wp2_with fail
          refine (HAT.out _).mono ?_
          rintro e w' ⟨rfl, rfl⟩
          go_wp2_with fail
          refine (HH.out _).mono ?_
          rintro e u7 ⟨rfl, B7⟩
          replace P := P.next B7
          replace P1 := P1.next B7
          replace HB := Lib.hid (below_call HB.out B7)
          clear B7
          obtain ⟨_, p0, p1⟩ := id P
          go_wp2
          go_ret
          exact ⟨rfl, HB.out⟩
        · have j1 : k + 1 < 64 := by omega
          obtain rfl : k2 = k + 1 := by omega
          have r1 := m1 (by omega)
          have r3 := m2 (by omega)
          have r2 : ¬ g < x := by omega
          have r4 : ¬ x < g := by omega
          clear m1 m2 hk2 hk h1 h2 h3 h4 h5 hx hy hkk hd
          obtain ⟨_, p0, p1⟩ := id P
          go_wp2_with fail
          refine (HI.out _).mono ?_
          rintro e u1 ⟨rfl, B1⟩
          replace P := P.next B1
          replace HB := Lib.hid (below_call HB.out B1)
          clear B1 p0 p1 
          obtain ⟨_, p0, p1⟩ := id P
          go_wp2_with fail
          refine (HS.out _).mono ?_
          rintro e u2 ⟨rfl, B2⟩
          replace P := P.next B2
          replace HB := Lib.hid (below_call HB.out B2)
          clear B2 p0 p1 
          obtain ⟨_, p0, p1⟩ := id P
          go_wp2_with fail
          refine (HV.out _).mono ?_
          rintro e u3 ⟨rfl, B3⟩
          replace P := P.next B3
          replace HB := Lib.hid (below_call HB.out B3)
          clear B3 p0 p1 
          go_wp2_with fail
          refine (HA.out _).mono ?_
          rintro e w' ⟨rfl, rfl⟩
          obtain ⟨_, p0, p1⟩ := id P
          have P1 := AtP.box u3 x 0 24
          have B4 := below_box u3 (.cells #[.int .i64 x, .int .i64 0] 24)
          replace P := P.next B4
          replace HB := Lib.hid (below_call HB.out B4)
          clear B4
          go_upto_region 10 with fail
          generalize u3.alloc (.cells #[.int .i64 x, .int .i64 0] 24) = u4 at *
          generalize u3.heap.size = g4 at *
          obtain ⟨_, p0, p1⟩ := id P1
          go_wp2_with fail
          refine (HJ.out _).mono ?_
          rintro e u5 ⟨rfl, B5⟩
          replace P := P.next B5
          replace P1 := P1.next B5
          replace HB := Lib.hid (below_call HB.out B5)
          clear B5 p0 p1 
          obtain ⟨_, p0, p1⟩ := id P1
          go_wp2_with fail
          refine (HK.out _).mono ?_
          rintro e u6 ⟨rfl, B6⟩
          replace P := P.next B6
          replace P1 := P1.next B6
          replace HB := Lib.hid (below_call HB.out B6)
          clear B6 p0 p1 
          go_wp2_with fail
          refine (HAT.out _).mono ?_
          rintro e w' ⟨rfl, rfl⟩
          go_wp2_with fail
          refine (HH.out _).mono ?_
          rintro e u7 ⟨rfl, B7⟩
          replace P := P.next B7
          replace P1 := P1.next B7
          replace HB := Lib.hid (below_call HB.out B7)
          clear B7
          obtain ⟨_, p0, p1⟩ := id P
          go_wp2
          go_ret
          exact ⟨rfl, HB.out⟩
    · rcases Int.lt_or_le g x with q | q
      · obtain rfl : k2 = 64 := by omega
        subst q9
        have r1 := m2 (by omega)
        have r2 : ¬ x < g := by omega
        clear m1 m2 hk2 hk h1 h2 h3 h4 h5 hx hy hkk hd
        obtain ⟨_, p0, p1⟩ := id P
        go_wp2_with fail
        refine (HI.out _).mono ?_
        rintro e u1 ⟨rfl, B1⟩
        replace P := P.next B1
        replace HB := Lib.hid (below_call HB.out B1)
        clear B1 p0 p1 
        obtain ⟨_, p0, p1⟩ := id P
        go_wp2_with fail
        refine (HS.out _).mono ?_
        rintro e u2 ⟨rfl, B2⟩
        replace P := P.next B2
        replace HB := Lib.hid (below_call HB.out B2)
        clear B2 p0 p1 
        obtain ⟨_, p0, p1⟩ := id P
        go_wp2_with fail
        refine (HV.out _).mono ?_
        rintro e u3 ⟨rfl, B3⟩
        replace P := P.next B3
        replace HB := Lib.hid (below_call HB.out B3)
        clear B3 p0 p1 
        go_wp2_with fail
        refine (HA.out _).mono ?_
        rintro e w' ⟨rfl, rfl⟩
        obtain ⟨_, p0, p1⟩ := id P
        have P1 := AtP.box u3 x 0 24
        have B4 := below_box u3 (.cells #[.int .i64 x, .int .i64 0] 24)
        replace P := P.next B4
        replace HB := Lib.hid (below_call HB.out B4)
        clear B4
        go_upto_region 10 with fail
        generalize u3.alloc (.cells #[.int .i64 x, .int .i64 0] 24) = u4 at *
        generalize u3.heap.size = g4 at *
        obtain ⟨_, p0, p1⟩ := id P1
        go_wp2_with fail
        refine (HJ.out _).mono ?_
        rintro e u5 ⟨rfl, B5⟩
        replace P := P.next B5
        replace P1 := P1.next B5
        replace HB := Lib.hid (below_call HB.out B5)
        clear B5 p0 p1 
        obtain ⟨_, p0, p1⟩ := id P1
        go_wp2_with fail
        refine (HK.out _).mono ?_
        rintro e u6 ⟨rfl, B6⟩
        replace P := P.next B6
        replace P1 := P1.next B6
        replace HB := Lib.hid (below_call HB.out B6)
        clear B6 p0 p1 
        go_wp2_with fail
        refine (HAT.out _).mono ?_
        rintro e w' ⟨rfl, rfl⟩
        go_wp2_with fail
        refine (HH.out _).mono ?_
        rintro e u7 ⟨rfl, B7⟩
        replace P := P.next B7
        replace P1 := P1.next B7
        replace HB := Lib.hid (below_call HB.out B7)
        clear B7
        obtain ⟨_, p0, p1⟩ := id P
        go_wp2
        go_ret
        exact ⟨rfl, HB.out⟩
      · rcases Int.lt_or_le x g with q2 | q2
        · obtain rfl : k2 = 64 := by omega
          subst q9
          have r1 := m1 (by omega)
          have r2 : ¬ g < x := by omega
          clear m1 m2 hk2 hk h1 h2 h3 h4 h5 hx hy hkk hd
          obtain ⟨_, p0, p1⟩ := id P
          go_wp2_with fail
          refine (HI.out _).mono ?_
          rintro e u1 ⟨rfl, B1⟩
          replace P := P.next B1
          replace HB := Lib.hid (below_call HB.out B1)
          clear B1 p0 p1 
          obtain ⟨_, p0, p1⟩ := id P
          go_wp2_with fail
          refine (HS.out _).mono ?_
          rintro e u2 ⟨rfl, B2⟩
          replace P := P.next B2
          replace HB := Lib.hid (below_call HB.out B2)
          clear B2 p0 p1 
          obtain ⟨_, p0, p1⟩ := id P
          go_wp2_with fail
          refine (HV.out _).mono ?_
          rintro e u3 ⟨rfl, B3⟩
          replace P := P.next B3
          replace HB := Lib.hid (below_call HB.out B3)
          clear B3 p0 p1 
          go_wp2_with fail
          refine (HA.out _).mono ?_
          rintro e w' ⟨rfl, rfl⟩
          obtain ⟨_, p0, p1⟩ := id P
          have P1 := AtP.box u3 x 0 24
          have B4 := below_box u3 (.cells #[.int .i64 x, .int .i64 0] 24)
          replace P := P.next B4
          replace HB := Lib.hid (below_call HB.out B4)
          clear B4
          go_upto_region 10 with fail
          generalize u3.alloc (.cells #[.int .i64 x, .int .i64 0] 24) = u4 at *
          generalize u3.heap.size = g4 at *
          obtain ⟨_, p0, p1⟩ := id P1
          go_wp2_with fail
          refine (HJ.out _).mono ?_
          rintro e u5 ⟨rfl, B5⟩
          replace P := P.next B5
          replace P1 := P1.next B5
          replace HB := Lib.hid (below_call HB.out B5)
          clear B5 p0 p1 
          obtain ⟨_, p0, p1⟩ := id P1
          go_wp2_with fail
          refine (HK.out _).mono ?_
          rintro e u6 ⟨rfl, B6⟩
          replace P := P.next B6
          replace P1 := P1.next B6
          replace HB := Lib.hid (below_call HB.out B6)
          clear B6 p0 p1 
          go_wp2_with fail
          refine (HAT.out _).mono ?_
          rintro e w' ⟨rfl, rfl⟩
          go_wp2_with fail
          refine (HH.out _).mono ?_
          rintro e u7 ⟨rfl, B7⟩
          replace P := P.next B7
          replace P1 := P1.next B7
          replace HB := Lib.hid (below_call HB.out B7)
          clear B7
          obtain ⟨_, p0, p1⟩ := id P
          go_wp2
          go_ret
          exact ⟨rfl, HB.out⟩
        · obtain rfl : k2 = 64 := by omega
          subst q9
          have r1 := m1 (by omega)
          have r3 := m2 (by omega)
          have r2 : ¬ g < x := by omega
          have r4 : ¬ x < g := by omega
          clear m1 m2 hk2 hk h1 h2 h3 h4 h5 hx hy hkk hd
          obtain ⟨_, p0, p1⟩ := id P
          go_wp2_with fail
          refine (HI.out _).mono ?_
          rintro e u1 ⟨rfl, B1⟩
          replace P := P.next B1
          replace HB := Lib.hid (below_call HB.out B1)
          clear B1 p0 p1 
          obtain ⟨_, p0, p1⟩ := id P
          go_wp2_with fail
          refine (HS.out _).mono ?_
          rintro e u2 ⟨rfl, B2⟩
          replace P := P.next B2
          replace HB := Lib.hid (below_call HB.out B2)
          clear B2 p0 p1 
          obtain ⟨_, p0, p1⟩ := id P
          go_wp2_with fail
          refine (HV.out _).mono ?_
          rintro e u3 ⟨rfl, B3⟩
          replace P := P.next B3
          replace HB := Lib.hid (below_call HB.out B3)
          clear B3 p0 p1 
          go_wp2_with fail
          refine (HA.out _).mono ?_
          rintro e w' ⟨rfl, rfl⟩
          obtain ⟨_, p0, p1⟩ := id P
          have P1 := AtP.box u3 x 0 24
          have B4 := below_box u3 (.cells #[.int .i64 x, .int .i64 0] 24)
          replace P := P.next B4
          replace HB := Lib.hid (below_call HB.out B4)
          clear B4
          go_upto_region 10 with fail
          generalize u3.alloc (.cells #[.int .i64 x, .int .i64 0] 24) = u4 at *
          generalize u3.heap.size = g4 at *
          obtain ⟨_, p0, p1⟩ := id P1
          go_wp2_with fail
          refine (HJ.out _).mono ?_
          rintro e u5 ⟨rfl, B5⟩
          replace P := P.next B5
          replace P1 := P1.next B5
          replace HB := Lib.hid (below_call HB.out B5)
          clear B5 p0 p1 
          obtain ⟨_, p0, p1⟩ := id P1
          go_wp2_with fail
          refine (HK.out _).mono ?_
          rintro e u6 ⟨rfl, B6⟩
          replace P := P.next B6
          replace P1 := P1.next B6
          replace HB := Lib.hid (below_call HB.out B6)
          clear B6 p0 p1 
          go_wp2_with fail
          refine (HAT.out _).mono ?_
          rintro e w' ⟨rfl, rfl⟩
          go_wp2_with fail
          refine (HH.out _).mono ?_
          rintro e u7 ⟨rfl, B7⟩
          replace P := P.next B7
          replace P1 := P1.next B7
          replace HB := Lib.hid (below_call HB.out B7)
          clear B7
          obtain ⟨_, p0, p1⟩ := id P
          go_wp2
          go_ret
          exact ⟨rfl, HB.out⟩
    · rcases Int.lt_or_le g x with q | q
      · obtain rfl : k2 = 64 := by omega
        subst q9
        have r1 := m2 (by omega)
        have r2 : ¬ x < g := by omega
        clear m1 m2 hk2 hk h1 h2 h3 h4 h5 hx hy hkk hd
        obtain ⟨_, p0, p1⟩ := id P
        go_wp2_with fail
        refine (HI.out _).mono ?_
        rintro e u1 ⟨rfl, B1⟩
        replace P := P.next B1
        replace HB := Lib.hid (below_call HB.out B1)
        clear B1 p0 p1 
        obtain ⟨_, p0, p1⟩ := id P
        go_wp2_with fail
        refine (HS.out _).mono ?_
        rintro e u2 ⟨rfl, B2⟩
        replace P := P.next B2
        replace HB := Lib.hid (below_call HB.out B2)
        clear B2 p0 p1 
        obtain ⟨_, p0, p1⟩ := id P
        go_wp2_with fail
        refine (HV.out _).mono ?_
        rintro e u3 ⟨rfl, B3⟩
        replace P := P.next B3
        replace HB := Lib.hid (below_call HB.out B3)
        clear B3 p0 p1 
        go_wp2_with fail
        refine (HA.out _).mono ?_
        rintro e w' ⟨rfl, rfl⟩
        obtain ⟨_, p0, p1⟩ := id P
        have P1 := AtP.box u3 x 0 24
        have B4 := below_box u3 (.cells #[.int .i64 x, .int .i64 0] 24)
        replace P := P.next B4
        replace HB := Lib.hid (below_call HB.out B4)
        clear B4
        go_upto_region 10 with fail
        generalize u3.alloc (.cells #[.int .i64 x, .int .i64 0] 24) = u4 at *
        generalize u3.heap.size = g4 at *
        obtain ⟨_, p0, p1⟩ := id P1
        go_wp2_with fail
        refine (HJ.out _).mono ?_
        rintro e u5 ⟨rfl, B5⟩
        replace P := P.next B5
        replace P1 := P1.next B5
        replace HB := Lib.hid (below_call HB.out B5)
        clear B5 p0 p1 
        obtain ⟨_, p0, p1⟩ := id P1
        go_wp2_with fail
        refine (HK.out _).mono ?_
        rintro e u6 ⟨rfl, B6⟩
        replace P := P.next B6
        replace P1 := P1.next B6
        replace HB := Lib.hid (below_call HB.out B6)
        clear B6 p0 p1 
        go_wp2_with fail
        refine (HAT.out _).mono ?_
        rintro e w' ⟨rfl, rfl⟩
        go_wp2_with fail
        refine (HH.out _).mono ?_
        rintro e u7 ⟨rfl, B7⟩
        replace P := P.next B7
        replace P1 := P1.next B7
        replace HB := Lib.hid (below_call HB.out B7)
        clear B7
        obtain ⟨_, p0, p1⟩ := id P
        go_wp2
        go_ret
        exact ⟨rfl, HB.out⟩
      · rcases Int.lt_or_le x g with q2 | q2
        · obtain rfl : k2 = 64 := by omega
          subst q9
          have r1 := m1 (by omega)
          have r2 : ¬ g < x := by omega
          clear m1 m2 hk2 hk h1 h2 h3 h4 h5 hx hy hkk hd
          obtain ⟨_, p0, p1⟩ := id P
          go_wp2_with fail
          refine (HI.out _).mono ?_
          rintro e u1 ⟨rfl, B1⟩
          replace P := P.next B1
          replace HB := Lib.hid (below_call HB.out B1)
          clear B1 p0 p1 
          obtain ⟨_, p0, p1⟩ := id P
          go_wp2_with fail
          refine (HS.out _).mono ?_
          rintro e u2 ⟨rfl, B2⟩
          replace P := P.next B2
          replace HB := Lib.hid (below_call HB.out B2)
          clear B2 p0 p1 
          obtain ⟨_, p0, p1⟩ := id P
          go_wp2_with fail
          refine (HV.out _).mono ?_
          rintro e u3 ⟨rfl, B3⟩
          replace P := P.next B3
          replace HB := Lib.hid (below_call HB.out B3)
          clear B3 p0 p1 
          go_wp2_with fail
          refine (HA.out _).mono ?_
          rintro e w' ⟨rfl, rfl⟩
          obtain ⟨_, p0, p1⟩ := id P
          have P1 := AtP.box u3 x 0 24
          have B4 := below_box u3 (.cells #[.int .i64 x, .int .i64 0] 24)
          replace P := P.next B4
          replace HB := Lib.hid (below_call HB.out B4)
          clear B4
          go_upto_region 10 with fail
          generalize u3.alloc (.cells #[.int .i64 x, .int .i64 0] 24) = u4 at *
          generalize u3.heap.size = g4 at *
          obtain ⟨_, p0, p1⟩ := id P1
          go_wp2_with fail
          refine (HJ.out _).mono ?_
          rintro e u5 ⟨rfl, B5⟩
          replace P := P.next B5
          replace P1 := P1.next B5
          replace HB := Lib.hid (below_call HB.out B5)
          clear B5 p0 p1 
          obtain ⟨_, p0, p1⟩ := id P1
          go_wp2_with fail
          refine (HK.out _).mono ?_
          rintro e u6 ⟨rfl, B6⟩
          replace P := P.next B6
          replace P1 := P1.next B6
          replace HB := Lib.hid (below_call HB.out B6)
          clear B6 p0 p1 
          go_wp2_with fail
          refine (HAT.out _).mono ?_
          rintro e w' ⟨rfl, rfl⟩
          go_wp2_with fail
          refine (HH.out _).mono ?_
          rintro e u7 ⟨rfl, B7⟩
          replace P := P.next B7
          replace P1 := P1.next B7
          replace HB := Lib.hid (below_call HB.out B7)
          clear B7
          obtain ⟨_, p0, p1⟩ := id P
          go_wp2
          go_ret
          exact ⟨rfl, HB.out⟩
        · obtain rfl : k2 = 64 := by omega
          subst q9
          have r1 := m1 (by omega)
          have r3 := m2 (by omega)
          have r2 : ¬ g < x := by omega
          have r4 : ¬ x < g := by omega
          clear m1 m2 hk2 hk h1 h2 h3 h4 h5 hx hy hkk hd
          obtain ⟨_, p0, p1⟩ := id P
          go_wp2_with fail
          refine (HI.out _).mono ?_
          rintro e u1 ⟨rfl, B1⟩
          replace P := P.next B1
          replace HB := Lib.hid (below_call HB.out B1)
          clear B1 p0 p1 
          obtain ⟨_, p0, p1⟩ := id P
          go_wp2_with fail
          refine (HS.out _).mono ?_
          rintro e u2 ⟨rfl, B2⟩
          replace P := P.next B2
          replace HB := Lib.hid (below_call HB.out B2)
          clear B2 p0 p1 
          obtain ⟨_, p0, p1⟩ := id P
          go_wp2_with fail
          refine (HV.out _).mono ?_
          rintro e u3 ⟨rfl, B3⟩
          replace P := P.next B3
          replace HB := Lib.hid (below_call HB.out B3)
          clear B3 p0 p1 
          go_wp2_with fail
          refine (HA.out _).mono ?_
          rintro e w' ⟨rfl, rfl⟩
          obtain ⟨_, p0, p1⟩ := id P
          have P1 := AtP.box u3 x 0 24
          have B4 := below_box u3 (.cells #[.int .i64 x, .int .i64 0] 24)
          replace P := P.next B4
          replace HB := Lib.hid (below_call HB.out B4)
          clear B4
          go_upto_region 10 with fail
          generalize u3.alloc (.cells #[.int .i64 x, .int .i64 0] 24) = u4 at *
          generalize u3.heap.size = g4 at *
          obtain ⟨_, p0, p1⟩ := id P1
          go_wp2_with fail
          refine (HJ.out _).mono ?_
          rintro e u5 ⟨rfl, B5⟩
          replace P := P.next B5
          replace P1 := P1.next B5
          replace HB := Lib.hid (below_call HB.out B5)
          clear B5 p0 p1 
          obtain ⟨_, p0, p1⟩ := id P1
          go_wp2_with fail
          refine (HK.out _).mono ?_
          rintro e u6 ⟨rfl, B6⟩
          replace P := P.next B6
          replace P1 := P1.next B6
          replace HB := Lib.hid (below_call HB.out B6)
          clear B6 p0 p1 
          go_wp2_with fail
          refine (HAT.out _).mono ?_
          rintro e w' ⟨rfl, rfl⟩
          go_wp2_with fail
          refine (HH.out _).mono ?_
          rintro e u7 ⟨rfl, B7⟩
          replace P := P.next B7
          replace P1 := P1.next B7
          replace HB := Lib.hid (below_call HB.out B7)
          clear B7
          obtain ⟨_, p0, p1⟩ := id P
          go_wp2
          go_ret
          exact ⟨rfl, HB.out⟩
end Go.Proofs.Ytgnchgmbflkakaa
