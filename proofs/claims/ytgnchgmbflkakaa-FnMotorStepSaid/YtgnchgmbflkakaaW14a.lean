/- The walks of the laws on valid motors, brakes and rest. -/
import Derived.Test.YtgnchgmbflkakaaD14b
import Derived.Test.YtgnchgmbflkakaaCi14
namespace Go.Proofs.Ytgnchgmbflkakaa
set_option maxRecDepth 100000
open Go.RowKit
attribute [local go_sem ↓] Go.wp_at_zero Go.wp_at_succ
theorem abs14 (n : Int) (w : World) (h0 : -1000000 ≤ n) (h1 : n ≤ 1000000) :
    Calls Try.prog 21 #[.int .i64 n] w fun e w' => e = .returned (.int .i64 (n.natAbs : Int)) ∧ w = w' := by
  have o1 : IntKind.i64.wrap (-n) = -n := IntWalk.i64_in _ (by omega)
  obtain ⟨m, hm⟩ : ∃ m : Int, (n.natAbs : Int) = m := ⟨_, rfl⟩
  have HM := Lib.hid hm
  rw [hm]
  clear hm
  by_cases hn : n < 0
  · have HE := Lib.hid (show -n = m by have := HM.out; omega)
    go_enter Try.func21, Try.ntmps21
    go_wp2
    go_ret
    exact ⟨ret_int HE.out, rfl⟩
  · have HE := Lib.hid (show n = m by have := HM.out; omega)
    go_enter Try.func21, Try.ntmps21
    go_wp2
    go_ret
    exact ⟨ret_int HE.out, rfl⟩
set_option maxHeartbeats 4000000 in
theorem walkFnMotorValid (w : World) (a : Option Addr) (len cap : Nat) (zs : List Int) (h : Bytes w a len cap zs) :
    Calls Try.prog 3 #[.slice a len cap] w fun e w' => e = .returned (.bool true) ∧ Below w.heap.size w w' := by
  have hle := h.len_le
  obtain ⟨hl, hm⟩ := hle
  unfold maxLen at hm
  by_cases hbig : 1048576 < len
  · go_enter Try.func3, Try.ntmps3
    go_wp2
    go_ret
    exact ⟨rfl, Below.refl _ _⟩
  · go_enter Try.func3, Try.ntmps3
    go_wp2_with fail
    refine (drawMotorValid w a len cap zs h).mono ?_
    rintro e w1 ⟨x, y, hx, hy, rfl, hb⟩
    have HB := Lib.hid (below_call hb (below_box w1 (.cells #[.int .i64 x, .int .i64 y] 24)))
    have P := AtP.box w1 x y 24
    clear hb h
    go_upto_region 4 with fail
    generalize w1.alloc (.cells #[.int .i64 x, .int .i64 y] 24) = w2 at *
    generalize w1.heap.size = V at *
    have HI := Lib.hid (fun u => implMotorValid x y u)
    have HS := Lib.hid (fun u => specMotorValid x y u)
    obtain ⟨nx, hnx⟩ : ∃ z, -x = z := ⟨_, rfl⟩
    obtain ⟨ny, hny⟩ : ∃ z, -y = z := ⟨_, rfl⟩
    have o1 : IntKind.i64.wrap (-x) = nx := by rw [hnx]; exact wrap_in (by omega) (by omega)
    have o2 : IntKind.i64.wrap (-y) = ny := by rw [hny]; exact wrap_in (by omega) (by omega)
    have HJ := Lib.hid (fun u => implMotorValid nx ny u)
    rw [show decide (okMotor nx ny) = decide (okMotor x y) by rw [Bool.eq_iff_iff]; simp only [decide_eq_true_eq]; unfold okMotor; omega] at HJ
    have HK := Lib.hid (fun u => implMotorValid x 201 u)
    rw [show decide (okMotor x 201) = false from decide_eq_false (fun q => by have := q.2.2; omega)] at HK
    generalize decide (okMotor x y) = b at *
    have e1 : (b != b) = false := by simp
    have e2 : (b == b) = true := by simp
    clear hnx hny hx hy
    obtain ⟨_, p0, p1⟩ := id P
    go_wp2_with fail
    refine (HI.out _).mono ?_
    rintro e u1 ⟨rfl, B1⟩
    replace P := P.next B1
    replace HB := Lib.hid (below_call HB.out B1)
    clear B1 p0 p1 
    obtain ⟨_, p0, p1⟩ := id P
    go_wp2_with fail
    refine (HS.out _).mono ?_
    rintro e u2 ⟨rfl, B2⟩
    replace P := P.next B2
    replace HB := Lib.hid (below_call HB.out B2)
    clear B2 p0 p1 
    obtain ⟨_, p0, p1⟩ := id P
    go_wp2_with fail
    refine (HJ.out _).mono ?_
    rintro e u3 ⟨rfl, B3⟩
    replace P := P.next B3
    replace HB := Lib.hid (below_call HB.out B3)
    clear B3 p0 p1 
    obtain ⟨_, p0, p1⟩ := id P
    go_wp2_with fail
    refine (HK.out _).mono ?_
    rintro e u4 ⟨rfl, B4⟩
    replace P := P.next B4
    replace HB := Lib.hid (below_call HB.out B4)
    clear B4 p0 p1 
    go_wp2_with fail
    refine (alive _).mono ?_
    rintro e w' ⟨rfl, rfl⟩
    go_wp2
    go_ret
    exact ⟨rfl, HB.out⟩
/-- Steps without torque: the speed is at most that of k steps. -/
def Rested (y : Int) (k : Nat) (p q : Int) : Prop := okMotor p q ∧ (q.natAbs : Int) ≤ max 0 ((y.natAbs : Int) - k)
theorem AtP.far14 {w : World} {b c o : Nat} {x y : Int} (h : AtP w b x y) (hc : c ≠ b) (v : Value) : AtP (w.setCell ⟨c, o, none⟩ v) b x y :=
  ⟨by simpa [World.setCell] using h.lt, (World.cell?_setCell_far _ _ _ _ hc).trans h.c0, (World.cell?_setCell_far _ _ _ _ hc).trans h.c1⟩
theorem Rested.next {y : Int} {k : Nat} {p q : Int} (h : Rested y k p q) : Rested y (k + 1) (motA p q 0 1) (motS p q 0 1) := by
  have e : okStp p q 0 1 := ⟨h.1, by omega, by omega⟩
  have e1 : motA p q 0 1 = stpA p q 0 1 := if_pos e
  have e2 : motS p q 0 1 = stpS p q 0 1 := if_pos e
  rw [e1, e2]
  refine ⟨stp_ok _ _ _ _, ?_⟩
  have h1 := stp_one (a := p) (v := q) h.1.2
  have h2 := h.2
  omega
set_option maxHeartbeats 4000000 in
theorem walkFnMotorRest (w : World) (a : Option Addr) (len cap : Nat) (zs : List Int) (h : Bytes w a len cap zs) :
    Calls Try.prog 8 #[.slice a len cap] w fun e w' => e = .returned (.bool true) ∧ Below w.heap.size w w' := by
  have hle := h.len_le
  obtain ⟨hl, hm⟩ := hle
  unfold maxLen at hm
  by_cases hbig : 1048576 < len
  · go_enter Try.func8, Try.ntmps8
    go_wp2
    go_ret
    exact ⟨rfl, Below.refl _ _⟩
  · go_enter Try.func8, Try.ntmps8
    go_wp2_with fail
    refine (drawBrakeTorque w a len cap zs h).mono ?_
    rintro e w1 ⟨x, y, hx, hy, rfl, hb⟩
    have HB := Lib.hid (below_call hb (below_box w1 (.cells #[.int .i64 x, .int .i64 y] 24)))
    have P := AtP.box w1 x y 24
    clear hb h
    go_upto_region 4 with fail
    generalize w1.alloc (.cells #[.int .i64 x, .int .i64 y] 24) = w2 at *
    generalize w1.heap.size = V at *
    have HI := Lib.hid (fun u => implMotorStep x y 0 1 u)
    have HS := Lib.hid (fun u => specMotorStep x y 0 1 u)
    have HV := Lib.hid (fun u => specMotorValid x y u)
    have HA := Lib.hid (fun u => abs14 y u (by omega) (by omega))
    by_cases hk : okMotor x y
    · have R1 : Rested y 1 (motA x y 0 1) (motS x y 0 1) := Rested.next (k := 0) ⟨hk, by omega⟩
      have HR := Lib.hid R1
      rw [decide_eq_true hk] at HV
      generalize motA x y 0 1 = cx at *
      generalize motS x y 0 1 = cy at *
      have e1 : (cx == cx) = true := by simp
      have e2 : (cy == cy) = true := by simp
      clear R1
      obtain ⟨_, p0, p1⟩ := id P
      go_wp2_with fail
      refine (HI.out _).mono ?_
      rintro e u1 ⟨rfl, B1⟩
      replace P := P.next B1
      replace HB := Lib.hid (below_call HB.out B1)
      clear B1 p0 p1 
      have HX := Lib.hid (show w.heap.size ≤ u1.heap.size from HB.out.size)
      have HNE := Lib.hid (show u1.heap.size ≠ V from by have := P.lt; omega)
      have P1 := OwnP.box u1 cx cy 24
      have B2 := below_box u1 (.cells #[.int .i64 cx, .int .i64 cy] 24)
      replace P := P.next B2
      replace HB := Lib.hid (below_call HB.out B2)
      clear B2
      go_upto_region 5 with fail
      generalize u1.alloc (.cells #[.int .i64 cx, .int .i64 cy] 24) = u2 at *
      generalize u1.heap.size = g2 at *
      obtain ⟨kc0, kd0⟩ := P.kepts
      obtain ⟨kc1, kd1⟩ := P1.toAtP.kepts
      have HSK := Lib.hid (fun (q : Kept u2) => keptCall (HS.out q.u))
      refine wp_region_kept (by kernel_rfl) (by kernel_rfl) ?_
      repeat (go_big_quiet_step ((first | (go_at_call 20; with_reducible exact HSK.out _))))
      refine wpQuiet_nil ?_
      rintro u3 ⟨⟨_, B3⟩, rfl⟩
      replace P := P.next B3
      replace P1 := P1.next B3
      replace HB := Lib.hid (below_call HB.out B3)
      clear B3 kc0 kd0 kc1 kd1 HSK
      obtain ⟨_, p0, p1⟩ := id P
      go_wp2_with fail
      refine (HV.out _).mono ?_
      rintro e u4 ⟨rfl, B4⟩
      replace P := P.next B4
      replace P1 := P1.next B4
      replace HB := Lib.hid (below_call HB.out B4)
      clear B4 p0 p1 
      have HM := Lib.hid (show ((y.natAbs : Nat) : Int) = y.natAbs from rfl)
      obtain ⟨m, hm⟩ : ∃ m : Nat, y.natAbs = m := ⟨_, rfl⟩
      rw [hm] at HA
      replace HM := Lib.hid hm
      have hm2 : m ≤ 201 := by omega
      clear hm
      generalize g2 = X at *
      go_wp2
      go_loopw [5] (fun kv wr => ∃ (k : Nat) (p q : Int), 1 ≤ k ∧ k ≤ 202 ∧ kv = .int .i64 (k : Int) ∧ Hid (Rested y k p q) ∧ Hid (OwnP wr X p q) ∧ Hid (AtP wr V x y) ∧ Hid (Below w.heap.size w wr)) (fun kv _ => 300 - (intOf kv).toNat)
      case atStart => exact ⟨1, cx, cy, by omega, by omega, rfl, HR, Lib.hid P1, Lib.hid P, HB⟩
      case round =>
        obtain ⟨k, p, q, hk1, hk2, rfl, HR1, HP1, HPV, HBW⟩ := hrel
        clear P P1 HB HR
        obtain ⟨_, p0, p1⟩ := id HPV.out
        obtain ⟨⟨_, q0, q1⟩, q2, q3⟩ := id HP1.out
        have hxb := HX.out
        go_wp2_with fail
        refine (HA.out _).mono ?_
        rintro e w' ⟨rfl, rfl⟩
        by_cases hlt : k < m
        · have j1 : (k : Int) < (m : Int) := by omega
          have HN := Lib.hid HR1.out.next
          have HJ := Lib.hid (fun u => implMotorStep p q 0 1 u)
          generalize motA p q 0 1 = np at *
          generalize motS p q 0 1 = nq at *
          go_wp2_with fail
          refine (HJ.out _).mono ?_
          rintro e w5 ⟨rfl, B5⟩
          have P5 := HP1.out.next B5
          have V5 := HPV.out.next B5
          have HB5 := below_call HBW.out B5
          have P6 := Lib.hid ((P5.put0 np).put1 nq)
          have V6 := Lib.hid ((V5.far14 (c := X) HNE.out (.int .i64 np) (o := 0)).far14 (c := X) HNE.out (.int .i64 nq) (o := 1))
          have HB6 := Lib.hid ((HB5.setCell (p := ⟨X, 0, none⟩) hxb (.int .i64 np)).setCell (p := ⟨X, 1, none⟩) hxb (.int .i64 nq))
          obtain ⟨⟨_, r0, r1⟩, r2, r3⟩ := id P5
          clear B5 P5 V5 HB5 p0 p1 q0 q1 q2 q3
          go_wp2
          go_roundw
          case rel => exact ⟨k + 1, np, nq, by omega, by omega, by congr 1, HN, P6, V6, HB6⟩
          case measure => simp [intOf]; omega
        · have j1 : ¬ (k : Int) < (m : Int) := by omega
          obtain rfl : q = 0 := by
            have h2 := HR1.out.2
            have h3 := HM.out
            omega
          go_wp2
          go_ret
          exact ⟨rfl, HBW.out⟩
    · have EA : motA x y 0 1 = 0 := if_neg (fun q => hk q.1)
      have ES : motS x y 0 1 = 0 := if_neg (fun q => hk q.1)
      rw [EA, ES] at HI HS
      rw [decide_eq_false hk] at HV
      clear EA ES
      obtain ⟨_, p0, p1⟩ := id P
      go_wp2_with fail
      refine (HI.out _).mono ?_
      rintro e u1 ⟨rfl, B1⟩
      replace P := P.next B1
      replace HB := Lib.hid (below_call HB.out B1)
      clear B1 p0 p1 
      have P1 := AtP.box u1 0 0 24
      have B2 := below_box u1 (.cells #[.int .i64 0, .int .i64 0] 24)
      replace P := P.next B2
      replace HB := Lib.hid (below_call HB.out B2)
      clear B2
      go_upto_region 5 with fail
      generalize u1.alloc (.cells #[.int .i64 0, .int .i64 0] 24) = u2 at *
      generalize u1.heap.size = g2 at *
      obtain ⟨kc0, kd0⟩ := P.kepts
      obtain ⟨kc1, kd1⟩ := P1.kepts
      have HSK := Lib.hid (fun (q : Kept u2) => keptCall (HS.out q.u))
      refine wp_region_kept (by kernel_rfl) (by kernel_rfl) ?_
      repeat (go_big_quiet_step ((first | (go_at_call 20; with_reducible exact HSK.out _))))
      refine wpQuiet_nil ?_
      rintro u3 ⟨⟨_, B3⟩, rfl⟩
      replace P := P.next B3
      replace P1 := P1.next B3
      replace HB := Lib.hid (below_call HB.out B3)
      clear B3 kc0 kd0 kc1 kd1 HSK
      obtain ⟨_, p0, p1⟩ := id P
      go_wp2_with fail
      refine (HV.out _).mono ?_
      rintro e u4 ⟨rfl, B4⟩
      replace P := P.next B4
      replace P1 := P1.next B4
      replace HB := Lib.hid (below_call HB.out B4)
      clear B4 p0 p1 
      obtain ⟨_, p0, p1⟩ := id P1
      go_wp2_with fail
      refine (alive _).mono ?_
      rintro e w' ⟨rfl, rfl⟩
      go_wp2
      go_ret
      exact ⟨rfl, HB.out⟩
end Go.Proofs.Ytgnchgmbflkakaa
