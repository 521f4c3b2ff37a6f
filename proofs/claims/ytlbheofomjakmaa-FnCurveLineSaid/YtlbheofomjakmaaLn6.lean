/- LinePoints, of the program and of the document. -/
import Derived.Test.YtlbheofomjakmaaRow6
import Derived.Test.YtlbheofomjakmaaNum6
import Derived.Outline
import Derived.Deep.DeepCutAuto
namespace Go.Proofs.Ytlbheofomjakmaa
set_option maxRecDepth 100000
open Go.RowKit
attribute [local go_sem ↓] Go.wp_at_zero Go.wp_at_succ
set_option maxHeartbeats 2000000 in
theorem implLineIn (ax ay bx b_y n : Int) (w : World) (h : okLine ax ay bx b_y n) :
    Calls Try.prog 30 #[pt ax ay, pt bx b_y, .int .i64 n] w (PtRow (lineL ax ay bx b_y n.toNat) w) := by
  obtain ⟨i0, hi0, hz0, hz1, hz2⟩ := info_parts infoPt6
  obtain ⟨ha, hb, n1, n2⟩ := h
  obtain ⟨m, rfl⟩ : ∃ m : Nat, n = (m : Int) := ⟨n.toNat, by omega⟩
  rw [Int.toNat_natCast]
  have HA := Lib.hid ha
  have HBb := Lib.hid hb
  obtain ⟨a1, a2, a3, a4⟩ := ha
  obtain ⟨b1, b2, b3, b4⟩ := hb
  have W2 := Lib.hid (below_box2 w (.cells #[.int .i64 ax, .int .i64 ay] 31) (.cells #[.int .i64 bx, .int .i64 b_y] 31))
  have P := at2 w ax ay bx b_y 31
  obtain ⟨PA, PB⟩ := P
  go_enter Try.func30, Try.ntmps30
  go_wp2_with fail
  refine (validY ax ay _ HA.out).mono ?_
  generalize (w.alloc (.cells #[.int .i64 ax, .int .i64 ay] 31)).alloc (.cells #[.int .i64 bx, .int .i64 b_y] 31) = u0 at *
  rintro e u1 ⟨rfl, B1⟩
  replace PA := PA.next B1
  replace PB := PB.next B1
  replace W2 := Lib.hid (below_call W2.out B1)
  clear B1
  obtain ⟨p0, p1, p2⟩ := id PA
  obtain ⟨q0, q1, q2⟩ := id PB
  go_wp2_with fail
  refine (validY bx b_y _ HBb.out).mono ?_
  rintro e u2 ⟨rfl, B2⟩
  replace PA := PA.next B2
  replace PB := PB.next B2
  replace W2 := Lib.hid (below_call W2.out B2)
  clear B2 p0 p1 p2 q0 q1 q2
  obtain ⟨p0, p1, p2⟩ := id PA
  obtain ⟨q0, q1, q2⟩ := id PB
  go_wp2_with fail
  refine (minusP bx b_y ax ay _ b1 b2 b3 b4 a1 a2 a3 a4).mono ?_
  rintro e u3 ⟨rfl, B3⟩
  replace PA := PA.next B3
  replace W2 := Lib.hid (below_call W2.out B3)
  clear B3 p0 p1 p2 q0 q1 q2 PB u0 u1 u2
  have HMUL := Lib.hid (fun (k : Nat) (hk : k ≤ m) => And.intro (lnC_mul (a := ax) (b := bx) (n := (m : Int)) (k := (k : Int)) (by omega) (by omega) n2 a1 a2 b1 b2) (lnC_mul (a := ay) (b := b_y) (n := (m : Int)) (k := (k : Int)) (by omega) (by omega) n2 a3 a4 b3 b4))
  have HBX := Lib.hid (fun (k : Nat) (hk : k ≤ m) => And.intro (lnC_box (a := ax) (b := bx) (n := (m : Int)) (k := (k : Int)) n1 (by omega) (by omega)) (lnC_box (a := ay) (b := b_y) (n := (m : Int)) (k := (k : Int)) n1 (by omega) (by omega)))
  have HM := Lib.hid (made6 (cz (lineL ax ay bx b_y m)) (m + 1))
  have HZ := Lib.hid (fun (k : Nat) (hk : k ≤ m) => And.intro ((cz0 (lineL ax ay bx b_y m) k).trans (by rw [lineL_at ax ay bx b_y m k hk])) ((cz1 (lineL ax ay bx b_y m) k).trans (by rw [lineL_at ax ay bx b_y m k hk])))
  have HPS := Lib.hid (fun q => cpart_set (cz (lineL ax ay bx b_y m)) (fun _ => 0) ((m + 1) * 2) q)
  have HFIN := Lib.hid (show cpart (cz (lineL ax ay bx b_y m)) (fun _ => 0) ((m + 1) * 2) ((m + 1) * 2) = pvals (lineL ax ay bx b_y m) by have h := pvals_cpart (lineL ax ay bx b_y m) (fun _ => 0); rw [lineL_len] at h; exact h.symm)
  have HLEN := Lib.hid (lineL_len ax ay bx b_y m)
  simp only [lnC] at HZ HBX
  have HB3 := Lib.hid (And.intro (And.intro b1 b2) (And.intro b3 b4))
  clear HA HBb b1 b2 b3 b4
  generalize lineL ax ay bx b_y m = L at *
  obtain ⟨dx, hdx⟩ : ∃ dx, bx - ax = dx := ⟨_, rfl⟩
  obtain ⟨dy, hdy⟩ : ∃ dy, b_y - ay = dy := ⟨_, rfl⟩
  rw [hdx, hdy] at HMUL HZ HBX ⊢
  have HDX := Lib.hid (And.intro hdx hdy)
  clear hdx hdy
  have PW := OwnP.box u3 dx dy 31
  have hne : u3.heap.size ≠ w.heap.size := by have := PA.lt; omega
  have hge : w.heap.size ≤ u3.heap.size := W2.out.size
  replace PA := PA.alloc (.cells #[.int .i64 dx, .int .i64 dy] 31)
  replace W2 := Lib.hid (below_call W2.out (below_box u3 (.cells #[.int .i64 dx, .int .i64 dy] 31)))
  go_upto_region 4 with fail
  generalize u3.alloc (.cells #[.int .i64 dx, .int .i64 dy] 31) = u5 at *
  generalize u3.heap.size = g at *
  have HGE := Lib.hid hge
  clear hge
  go_wp2_with (first
    | (at_make; refine wpList_make_full _ rfl _ _ 23 rfl u5.heap.size 31 i0 (pt 0 0) 2 Try.underlying23 hi0 hz0 hz1 .i64 .i64 _ _ (m + 1) rfl rfl (by omega) (by omega) (by rw [hz2]; omega) (by unfold maxLen; omega) (Nat.le_refl _) ?_; intro w1 own1 grow1))
  have own2 : w1.ownsRow u5.heap.size 31 2 (.slice (some ⟨u5.heap.size, 0, none⟩) (m + 1) (m + 1)) (m + 1) (cpart (cz L) (fun _ => 0) ((m + 1) * 2) (0 * 2)) := by rw [← HM.out]; exact own1
  have HG : Below u5.heap.size u5 w1 := (Below.refl _ _).grown grow1 (Nat.le_refl _) (fun k hk => by cases hk)
  clear own1 grow1
  go_loopw [34] (fun i wr => ∃ k : Nat, k ≤ m + 1 ∧ i = .int .i64 (k : Int) ∧ Hid (wr.ownsRow u5.heap.size 31 2 (.slice (some ⟨u5.heap.size, 0, none⟩) (m + 1) (m + 1)) (m + 1) (cpart (cz L) (fun _ => 0) ((m + 1) * 2) (k * 2))) ∧ Hid (Below u5.heap.size u5 wr)) (fun i _ => m + 1 - (intOf i).toNat)
  case atStart => exact ⟨0, Nat.zero_le _, rfl, Lib.hid own2, Lib.hid HG⟩
  case round =>
    obtain ⟨k, hk, rfl, HO, HW⟩ := hrel
    clear own2 HG
    by_cases hlt : k < m + 1
    · have j1 : (0 : Int) ≤ (k : Int) := by omega
      have j2 : (k : Int) < ((m + 1 : Nat) : Int) := by omega
      have j4 : (k : Int) < (m : Int) + 1 := by omega
      have Z := HZ.out k (by omega)
      obtain ⟨⟨x1, x2⟩, y1, y2⟩ := HMUL.out k (by omega)
      obtain ⟨⟨x3, x4⟩, y3, y4⟩ := HBX.out k (by omega)
      have o1 : IntKind.i64.wrap ((k : Int) * dx) = (k : Int) * dx := wrap_in (by omega) (by omega)
      have o2 : IntKind.i64.wrap ((k : Int) * dy) = (k : Int) * dy := wrap_in (by omega) (by omega)
      obtain ⟨e1, e2⟩ := (PA.next HW.out).kepts
      obtain ⟨e3, e4⟩ := (PW.toAtP.next HW.out).kepts
      have HF1 := Lib.hid (fun (q : Kept wr) => keptSame (floorDivide ((k : Int) * dx) (m : Int) q.u (by omega) (by omega) (by omega) (by omega)))
      have HF2 := Lib.hid (fun (q : Kept wr) => keptSame (floorDivide ((k : Int) * dy) (m : Int) q.u (by omega) (by omega) (by omega) (by omega)))
      have HPL := Lib.hid (fun (q : Kept wr) => keptCall (plusW ax ay (flo ((k : Int) * dx) (m : Int)) (flo ((k : Int) * dy) (m : Int)) q.u (by omega) (by omega) (by omega) (by omega) (by have := HB3.out; omega) (by have := HB3.out; omega) (by have := HB3.out; omega) (by have := HB3.out; omega)))
      clear x1 x2 x3 x4 y1 y2 y3 y4
      go_wp2
      refine wp_region_ktail 18 (by kernel_rfl) (by kernel_rfl) ?_
      simp only [List.take_succ_cons, List.take_zero, List.drop_succ_cons, List.drop_zero]
      repeat (go_big_quiet_step ((first | (go_at_call_of 51 (Value.int IntKind.i64 ((k : Int) * dx)); with_reducible exact HF1.out _) | (go_at_call_of 51 (Value.int IntKind.i64 ((k : Int) * dy)); with_reducible exact HF2.out _) | (go_at_call 50; with_reducible exact HPL.out _))))
      refine wpQuiet_nil ?_
      rintro w2 ⟨⟨_, K2⟩, rfl⟩
      have HO2 := Lib.hid (World.ownsRow.kept (row := none) HO.out ⟨K2.os, K2.tape, K2.output, K2.size, fun k hk _ => K2.block k hk⟩ (.inr (by simp [Value.ownBlock])))
      have r1 := HO2.out.cellAt (k * 2) (by omega)
      rw [cpart_at _ _ _ _ _ (by omega)] at r1
      have r2 := HO2.out.frozenAt (k * 2)
      have r3 := HO2.out.cellAt (k * 2 + 1) (by omega)
      rw [cpart_at _ _ _ _ _ (by omega)] at r3
      have r4 := HO2.out.frozenAt (k * 2 + 1)
      have s5 := HO2.out.stored (k * 2) (.int .i64 (cz L (k * 2)))
      have s6 := s5.1.stored (k * 2 + 1) (.int .i64 (cz L (k * 2 + 1)))
      have HS := Lib.hid (And.intro s6.1 (s5.2.trans s6.2))
      rw [HPS.out, HPS.out, Z.1, Z.2] at HS
      have HW2 := Lib.hid (below_call HW.out K2)
      clear s5 s6 K2 Z
      go_wp2
      go_roundw
      case rel => exact ⟨k + 1, by omega, by congr 1, Lib.hid (by rw [show (k + 1) * 2 = k * 2 + 1 + 1 by omega]; exact HS.out.1), Lib.hid (HW2.out.grown HS.out.2 HW2.out.size (fun q hq => by injection hq with hq; omega))⟩
      case measure => simp [intOf]; omega
    · obtain rfl : k = m + 1 := by omega
      go_wp2
      go_ret
      refine OwnPt.slv (B := u5.heap.size) ?_ w W2.out.size (below_call W2.out HW.out)
      unfold OwnPt
      rw [← HFIN.out, HLEN.out]
      exact HO.out
theorem implLinePoints (ax ay bx b_y n : Int) (w : World) :
    Calls Try.prog 30 #[pt ax ay, pt bx b_y, .int .i64 n] w (PtRow (lineV ax ay bx b_y n) w) := by
  by_cases h : okLine ax ay bx b_y n
  · rw [lineV_in h]; exact implLineIn ax ay bx b_y n w h
  · rw [lineV_out h]
    have W2 := Lib.hid (below_box2 w (.cells #[.int .i64 ax, .int .i64 ay] 31) (.cells #[.int .i64 bx, .int .i64 b_y] 31))
    obtain ⟨PA, PB⟩ := at2 w ax ay bx b_y 31
    by_cases ha : okP ax ay
    · by_cases hb : okP bx b_y
      · have hn : n < 1 ∨ (1 ≤ n ∧ 400 < n) := by
          by_cases h1 : 1 ≤ n
          · exact .inr ⟨h1, by have : ¬ (n ≤ 400) := fun h2 => h ⟨ha, hb, h1, h2⟩; omega⟩
          · exact .inl (by omega)
        have HA := Lib.hid ha
        have HBb := Lib.hid hb
        clear h ha hb
        go_enter Try.func30, Try.ntmps30
        go_wp2_with fail
        refine (validY ax ay _ HA.out).mono ?_
        generalize (w.alloc (.cells #[.int .i64 ax, .int .i64 ay] 31)).alloc (.cells #[.int .i64 bx, .int .i64 b_y] 31) = u0 at *
        rintro e u1 ⟨rfl, B1⟩
        replace PB := PB.next B1
        replace W2 := Lib.hid (below_call W2.out B1)
        clear B1
        obtain ⟨q0, q1, q2⟩ := id PB
        go_wp2_with fail
        refine (validY bx b_y _ HBb.out).mono ?_
        rintro e u2 ⟨rfl, B2⟩
        replace W2 := Lib.hid (below_call W2.out B2)
        clear B2 q0 q1 q2
        rcases hn with hn | ⟨hn1, hn2⟩
        · go_wp2
          go_ret
          exact nilPt _ _ W2.out
        · have hn0 : ¬ n < 1 := by omega
          go_wp2
          go_ret
          exact nilPt _ _ W2.out
      · have HA := Lib.hid ha
        have HBb := Lib.hid hb
        clear h ha hb
        go_enter Try.func30, Try.ntmps30
        go_wp2_with fail
        refine (validY ax ay _ HA.out).mono ?_
        generalize (w.alloc (.cells #[.int .i64 ax, .int .i64 ay] 31)).alloc (.cells #[.int .i64 bx, .int .i64 b_y] 31) = u0 at *
        rintro e u1 ⟨rfl, B1⟩
        replace PB := PB.next B1
        replace W2 := Lib.hid (below_call W2.out B1)
        clear B1
        obtain ⟨q0, q1, q2⟩ := id PB
        go_wp2_with fail
        refine (validN bx b_y _ HBb.out).mono ?_
        rintro e u2 ⟨rfl, B2⟩
        replace W2 := Lib.hid (below_call W2.out B2)
        clear B2 q0 q1 q2
        go_wp2
        go_ret
        exact nilPt _ _ W2.out
    · have HA := Lib.hid ha
      clear h ha
      go_enter Try.func30, Try.ntmps30
      go_wp2_with fail
      refine (validN ax ay _ HA.out).mono ?_
      generalize (w.alloc (.cells #[.int .i64 ax, .int .i64 ay] 31)).alloc (.cells #[.int .i64 bx, .int .i64 b_y] 31) = u0 at *
      rintro e u1 ⟨rfl, B1⟩
      replace W2 := Lib.hid (below_call W2.out B1)
      clear B1
      go_wp2
      go_ret
      exact nilPt _ _ W2.out
end Go.Proofs.Ytlbheofomjakmaa
