/- Contact: the program's functions. -/
import Derived.Test.YtdjihdnnjkbjbaaCi15b
namespace Go.Proofs.Ytdjihdnnjkbjbaa
set_option maxRecDepth 100000
open Go.RowKit
attribute [local go_sem ↓] Go.wp_at_zero Go.wp_at_succ
set_option maxHeartbeats 2000000 in
theorem implContactForce (p q k : Int) (w : World) :
    Calls Try.prog 10 #[.int .i64 p, .int .i64 q, .int .i64 k] w fun e w' => e = .returned (.int .i64 (frcV p q k)) ∧ Below w.heap.size w w' := by
  have P0 := AtP.box w q k 44
  have HB := Lib.hid (below_box w (.cells #[.int .i64 q, .int .i64 k] 44))
  by_cases h0 : okWl q k
  rotate_left
  · skip
    have EA : frcV p q k = -1 := if_neg (fun x => h0 x.2)
    rw [EA]
    clear EA
    go_enter Try.func10, Try.ntmps10
    go_wp2_with fail
    refine (no14 (wallValidM q k _) h0).mono ?_
    rintro e w2 ⟨rfl, B2⟩
    have HB2 := Lib.hid (below_call HB.out B2)
    have HZ2 := Lib.hid B2
    clear B2
    clear HZ2
    go_wp2
    go_ret
    exact ⟨rfl, HB2.out⟩
  by_cases h1 : -10000 ≤ p ∧ p ≤ 10000
  rotate_left
  · skip
    have EA : frcV p q k = -1 := if_neg (fun x => h1 x.1)
    rw [EA]
    clear EA
    go_enter Try.func10, Try.ntmps10
    go_wp2_with fail
    refine (yes14 (wallValidM q k _) h0).mono ?_
    rintro e w2 ⟨rfl, B2⟩
    have HB2 := Lib.hid (below_call HB.out B2)
    have HZ2 := Lib.hid B2
    clear B2
    go_wp2_with fail
    refine (crdC_no p _ h1).mono ?_
    rintro e w' ⟨rfl, rfl⟩
    clear HZ2
    go_wp2
    go_ret
    exact ⟨rfl, HB2.out⟩
  have EA : frcV p q k = frc p q k := if_pos ⟨h1, h0⟩
  rw [EA]
  have hq := h0.1
  have HL := Lib.hid (fun u => wallForceM q k p u h0.2 (by omega) (by omega))
  generalize frc p q k = n at *
  clear EA hq
  go_enter Try.func10, Try.ntmps10
  go_wp2_with fail
  refine (yes14 (wallValidM q k _) h0).mono ?_
  rintro e w2 ⟨rfl, B2⟩
  have HB2 := Lib.hid (below_call HB.out B2)
  have HZ2 := Lib.hid B2
  clear B2
  go_wp2_with fail
  refine (crdC_yes p _ h1).mono ?_
  rintro e w' ⟨rfl, rfl⟩
  obtain ⟨_, p0, p1⟩ := P0.next HZ2.out
  clear HZ2
  go_wp2_with fail
  refine (HL.out _).mono ?_
  rintro e w3 ⟨rfl, B3⟩
  have HB3 := Lib.hid (below_call HB2.out B3)
  clear B3
  go_wp2
  go_ret
  exact ⟨rfl, HB3.out⟩
set_option maxHeartbeats 2000000 in
theorem implPressStep (p q k f s : Int) (w : World) :
    Calls Try.prog 14 #[.int .i64 p, .int .i64 q, .int .i64 k, .int .i64 f, .int .i64 s] w fun e w' => e = .returned (.int .i64 (prsV p q k f s)) ∧ Below w.heap.size w w' := by
  have P0 := At4.box w q k f s 47
  have HB := Lib.hid (below_box w (.cells #[.int .i64 q, .int .i64 k, .int .i64 f, .int .i64 s] 47))
  by_cases h0 : okPr q k f s
  rotate_left
  · skip
    have EA : prsV p q k f s = p := if_neg (fun x => h0 ⟨x.1.2, x.2⟩)
    rw [EA]
    clear EA
    go_enter Try.func14, Try.ntmps14
    go_wp2_with fail
    refine (no14 (pressValidM q k f s _) h0).mono ?_
    rintro e w2 ⟨rfl, B2⟩
    have HB2 := Lib.hid (below_call HB.out B2)
    have HZ2 := Lib.hid B2
    clear B2
    clear HZ2
    go_wp2
    go_ret
    exact ⟨rfl, HB2.out⟩
  by_cases h1 : -10000 ≤ p ∧ p ≤ 10000
  rotate_left
  · skip
    have EA : prsV p q k f s = p := if_neg (fun x => h1 x.1.1)
    rw [EA]
    clear EA
    go_enter Try.func14, Try.ntmps14
    go_wp2_with fail
    refine (yes14 (pressValidM q k f s _) h0).mono ?_
    rintro e w2 ⟨rfl, B2⟩
    have HB2 := Lib.hid (below_call HB.out B2)
    have HZ2 := Lib.hid B2
    clear B2
    go_wp2_with fail
    refine (crdC_no p _ h1).mono ?_
    rintro e w' ⟨rfl, rfl⟩
    clear HZ2
    go_wp2
    go_ret
    exact ⟨rfl, HB2.out⟩
  have EA : prsV p q k f s = nxtN p q k f s := if_pos ⟨⟨h1, h0.1⟩, h0.2⟩
  rw [EA]
  have HL := Lib.hid (fun u => nextM q k f s p u ⟨⟨h1, h0.1⟩, h0.2⟩)
  generalize nxtN p q k f s = n at *
  clear EA
  go_enter Try.func14, Try.ntmps14
  go_wp2_with fail
  refine (yes14 (pressValidM q k f s _) h0).mono ?_
  rintro e w2 ⟨rfl, B2⟩
  have HB2 := Lib.hid (below_call HB.out B2)
  have HZ2 := Lib.hid B2
  clear B2
  go_wp2_with fail
  refine (crdC_yes p _ h1).mono ?_
  rintro e w' ⟨rfl, rfl⟩
  obtain ⟨_, p0, p1, p2, p3⟩ := P0.next HZ2.out
  clear HZ2
  go_wp2_with fail
  refine (HL.out _).mono ?_
  rintro e w3 ⟨rfl, B3⟩
  have HB3 := Lib.hid (below_call HB2.out B3)
  clear B3
  go_wp2
  go_ret
  exact ⟨rfl, HB3.out⟩
set_option maxHeartbeats 2000000 in
theorem implPressTrace (p q k f s n : Int) (w : World) :
    Calls Try.prog 17 #[.int .i64 p, .int .i64 q, .int .i64 k, .int .i64 f, .int .i64 s, .int .i64 n] w (Nums14 (trcV p q k f s n) w) := by
  have P0 := At4.box w q k f s 47
  have HB := Lib.hid (below_box w (.cells #[.int .i64 q, .int .i64 k, .int .i64 f, .int .i64 s] 47))
  obtain ⟨i0, hi0, hz0, hz1, hz2⟩ := info_parts infoInt
  by_cases h0 : okPr q k f s
  rotate_left
  · skip
    have EA : trcV p q k f s n = [] := if_neg (fun x => h0 (⟨x.1.1.2, x.1.2⟩))
    rw [EA]
    clear EA
    go_enter Try.func17, Try.ntmps17
    go_wp2_with fail
    refine (no14 (pressValidM q k f s _) h0).mono ?_
    rintro e w2 ⟨rfl, B2⟩
    have HB2 := Lib.hid (below_call HB.out B2)
    have HZ2 := Lib.hid B2
    clear B2
    clear HZ2
    go_wp2
    go_ret
    exact ⟨⟨none, 0, 0⟩, rfl, rfl, World.ownsRow_nil _ _ _ _, HB2.out⟩
  by_cases h1 : -10000 ≤ p ∧ p ≤ 10000
  rotate_left
  · skip
    have EA : trcV p q k f s n = [] := if_neg (fun x => h1 (x.1.1.1))
    rw [EA]
    clear EA
    go_enter Try.func17, Try.ntmps17
    go_wp2_with fail
    refine (yes14 (pressValidM q k f s _) h0).mono ?_
    rintro e w2 ⟨rfl, B2⟩
    have HB2 := Lib.hid (below_call HB.out B2)
    have HZ2 := Lib.hid B2
    clear B2
    go_wp2_with fail
    refine (crdC_no p _ h1).mono ?_
    rintro e w' ⟨rfl, rfl⟩
    clear HZ2
    go_wp2
    go_ret
    exact ⟨⟨none, 0, 0⟩, rfl, rfl, World.ownsRow_nil _ _ _ _, HB2.out⟩
  by_cases h2 : 0 ≤ n ∧ n ≤ 400
  rotate_left
  · skip
    have EA : trcV p q k f s n = [] := if_neg (fun x => h2 (x.2))
    rw [EA]
    clear EA
    go_enter Try.func17, Try.ntmps17
    go_wp2_with fail
    refine (yes14 (pressValidM q k f s _) h0).mono ?_
    rintro e w2 ⟨rfl, B2⟩
    have HB2 := Lib.hid (below_call HB.out B2)
    have HZ2 := Lib.hid B2
    clear B2
    go_wp2_with fail
    refine (crdC_yes p _ h1).mono ?_
    rintro e w' ⟨rfl, rfl⟩
    go_wp2_with fail
    refine (stepsC_no _ _ h2).mono ?_
    rintro e w' ⟨rfl, rfl⟩
    clear HZ2
    go_wp2
    go_ret
    exact ⟨⟨none, 0, 0⟩, rfl, rfl, World.ownsRow_nil _ _ _ _, HB2.out⟩
  have EA : trcV p q k f s n = trcL q k f s n.toNat p := if_pos ⟨⟨⟨h1, h0.1⟩, h0.2⟩, h2⟩
  rw [EA]
  clear EA
  obtain ⟨N, rfl⟩ : ∃ N : Nat, n = (N : Int) := ⟨n.toNat, by omega⟩
  rw [Int.toNat_natCast]
  have HRO := Lib.hid (fun i => trcA_ok (p := p) (w := q) (k := k) (f := f) (s := s) ⟨⟨h1, h0.1⟩, h0.2⟩ i)
  have HRL := Lib.hid (trcL_len q k f s N p)
  have HM := Lib.hid (made_zero N fun i => (trcL q k f s N p).getD i 0)
  have HF := Lib.hid (part_all (fun i => (trcL q k f s N p).getD i 0) (List.replicate N 0) (trcL q k f s N p) (by simp [HRL.out]) (fun _ _ => rfl))
  have HPT := Lib.hid (fun j => part_set (fun i => (trcL q k f s N p).getD i 0) (List.replicate N 0) j)
  go_enter Try.func17, Try.ntmps17
  go_wp2_with fail
  refine (yes14 (pressValidM q k f s _) h0).mono ?_
  rintro e w2 ⟨rfl, B2⟩
  have HB2 := Lib.hid (below_call HB.out B2)
  have HZ2 := Lib.hid B2
  clear B2
  go_wp2_with fail
  refine (crdC_yes p _ h1).mono ?_
  rintro e w' ⟨rfl, rfl⟩
  go_wp2_with fail
  refine (stepsC_yes _ _ h2).mono ?_
  rintro e w' ⟨rfl, rfl⟩
  have P2 := P0.next HZ2.out
  have HSW : Hid (w.heap.size + 1 ≤ w2.heap.size) := Lib.hid P2.lt
  clear HZ2 P0 HB
  go_upto_region 4 with fail
  go_wp2_with (first
    | (at_make; refine wpList_make_full _ rfl _ _ 33 rfl w2.heap.size 3 i0 (.int .i64 0) 1 Try.underlying33 hi0 hz0 hz1 .i64 .i64 _ _ N rfl rfl rfl rfl (by rw [hz2]; omega) (by unfold maxLen; omega) (Nat.le_refl _) ?_; intro w4 own2 grow2))
  have own3 : w4.ownsRow w2.heap.size 3 1 (.slice (some ⟨w2.heap.size, 0, none⟩) N N) N (part (fun i => (trcL q k f s N p).getD i 0) (List.replicate N 0) 0) := by rw [← HM.out]; exact own2
  have P3 := P2.row grow2 (by simp)
  have HG : Below w.heap.size w w4 := HB2.out.grown grow2 HB2.out.size (fun q hq => by cases hq)
  clear own2 grow2 P2
  go_loopw [0, 39] (fun pv iv wr => ∃ i : Nat, i ≤ N ∧ pv = .int .i64 (trcA q k f s i p) ∧ iv = .int .i64 (i : Int) ∧ Hid (wr.ownsRow w2.heap.size 3 1 (.slice (some ⟨w2.heap.size, 0, none⟩) N N) N (part (fun i => (trcL q k f s N p).getD i 0) (List.replicate N 0) i)) ∧ Hid (Below w.heap.size w wr) ∧ Hid (At4 wr w.heap.size q k f s)) (fun _ iv _ => N - (intOf iv).toNat)
  case atStart => exact ⟨0, Nat.zero_le _, rfl, rfl, Lib.hid own3, Lib.hid HG, Lib.hid P3⟩
  case round =>
    obtain ⟨i, hi, rfl, rfl, HO, HW, HP⟩ := hrel
    clear own3 P3 HG
    by_cases hlt : i < N
    · have j0 : (0 : Int) ≤ (i : Int) := by omega
      have j1 : (i : Int) < (N : Int) := by omega
      have HOK := Lib.hid (HRO.out i)
      have HNX := Lib.hid (trcA_next q k f s i p)
      have HPK := HPT.out i
      rw [List.getD_eq_getElem?_getD, trcL_at q k f s N i p hlt] at HPK
      simp only [Option.getD_some] at HPK
      generalize trcA q k f s i p = x at *
      have HC := Lib.hid (fun u => nextM q k f s x u HOK.out)
      generalize nxtN x q k f s = nx at *
      rw [HNX.out] at HPK
      replace HPK := Lib.hid HPK
      obtain ⟨_, c0, c1, c2, c3⟩ := HP.out
      clear HOK
      go_wp2_with fail
      refine (HC.out _).mono ?_
      rintro e w5 ⟨rfl, K2⟩
      have O4 := HO.out.kept (row := none) ⟨K2.os, K2.tape, K2.output, K2.size, fun k hk _ => K2.block k hk⟩ (.inr (by simp [Value.ownBlock]))
      have HW4 := Lib.hid (below_call HW.out K2)
      have P4 := HP.out.next K2
      clear K2 HO HW HP c0 c1 c2 c3 HC
      have f2 := O4.cellAt i (by omega)
      rw [List.getElem?_eq_getElem (by rw [part_len]; simpa using hlt)] at f2
      have f3 := O4.frozenAt i
      have HS := O4.stored i (.int .i64 nx)
      rw [HPK.out] at HS
      have HW6 := Lib.hid (HW4.out.grown HS.2 HW4.out.size (fun q hq => by injection hq with hq; have := HSW.out; omega))
      have P6 := Lib.hid (P4.row HS.2 (fun e => by injection e with e; have := HSW.out; omega))
      replace HS := Lib.hid HS.1
      clear O4 P4 HW4
      go_wp2
      go_roundw
      case rel => exact ⟨i + 1, by omega, by rw [HNX.out], by congr 1, HS, HW6, P6⟩
      case measure => simp [intOf]; omega
    · obtain rfl : i = N := by omega
      have HF2 : OwnI wr w.heap.size (.slice (some ⟨w2.heap.size, 0, none⟩) i i) (trcL q k f s i p) := by
        unfold OwnI
        rw [← HF.out, List.length_replicate, HRL.out]
        exact World.ownsRow_down HO.out (by have := HSW.out; omega)
      replace HF2 := Lib.hid HF2
      go_wp2
      go_ret
      exact ⟨⟨_, i, i⟩, rfl, HRL.out.symm, HF2.out, HW.out⟩
end Go.Proofs.Ytdjihdnnjkbjbaa
