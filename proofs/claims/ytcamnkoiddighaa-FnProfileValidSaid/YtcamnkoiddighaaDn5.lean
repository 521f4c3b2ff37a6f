/- The program's next speed, StopDistance and NextSpeed. -/
import Derived.Test.YtcamnkoiddighaaDr5
import Derived.Test.YtcamnkoiddighaaKept
namespace Go.Proofs.Ytcamnkoiddighaa
set_option maxRecDepth 100000
open Go.RowKit
attribute [local go_sem ↓] Go.wp_at_zero Go.wp_at_succ
set_option maxHeartbeats 1000000 in
theorem driveNext (b : Nat) (v d t r : Int) (w : World) (hD : DrvAt w b t r 201) (v0 : 0 ≤ v) (v1 : v ≤ 200) (d0 : 0 ≤ d) (d1 : d ≤ 5000) (t0 : 1 ≤ t) (t1 : t ≤ 200) (r0 : 1 ≤ r) (r1 : r ≤ 50) :
    Calls Try.prog 45 #[.pointer (some ⟨b, 0, none⟩), .int .i64 v, .int .i64 d] w fun e w' => e = .returned (.int .i64 (nextI v d t r)) ∧ w' = w.drew := by
  obtain ⟨m0, hm⟩ : ∃ m0 : Nat, (min t (v + r)).toNat = m0 := ⟨_, rfl⟩
  have HM := Lib.hid (show min t (v + r) = (m0 : Int) by omega)
  have HR := Lib.hid (show nextI v d t r = (nextN r d m0 : Int) by unfold nextI; rw [hm])
  have hm1 : m0 ≤ 200 := by omega
  have HC := Lib.hid (fun (u : Nat) (hu : u ≤ 200) => show w.drew.cell? ⟨b, 2 + u, none⟩ = some (.int .i64 (stopD u r)) from hD.c2 u hu (by omega))
  have o1 : IntKind.i64.wrap (v + r) = v + r := IntWalk.i64_in _ (by omega)
  have h0 := hD.c0
  have h1 := hD.c1
  clear hm hD
  go_enter Try.func45, Try.ntmps45
  go_wp2
  have c0 : w.drew.cell? ⟨b, 0, none⟩ = some (.int .i64 t) := h0
  have c1 : w.drew.cell? ⟨b, 1, none⟩ = some (.int .i64 r) := h1
  refine wp_region_still_tail 10 (by kernel_rfl) (by kernel_rfl) ?_
  simp only [List.take_succ_cons, List.take_zero, List.drop_succ_cons, List.drop_zero]
  change wpStill _ _ w.drew (fun a' => wpList _ _ _ _ a' w.drew) _ _
  have HW : Hid (w.drew = w.drew) := Lib.hid rfl
  clear h0 h1
  obtain ⟨w1, hw1⟩ : ∃ w1, w.drew = w1 := ⟨_, rfl⟩
  have HW1 := Lib.hid hw1
  rw [hw1] at HC c0 c1 ⊢
  clear hw1 HW
  repeat still_step
  refine wpStill_nil ?_
  go_wp2
  all_goals
    clear c0 c1
    go_loop [7] (fun u => ∃ m : Nat, u = .int .i64 (m : Int) ∧ m ≤ 200 ∧ Hid (nextN r d m = nextN r d m0)) (fun u => (intOf u).toNat)
    case atStart => exact ⟨m0, by congr 1; have := HM.out; omega, hm1, Lib.hid rfl⟩
    case round =>
      obtain ⟨m, rfl, hm, HE⟩ := hrel
      have s0 := stopD_lo m r r0
      have s1 := stopD_hi m r r0 (by omega) (by omega)
      have cm := HC.out m hm
      have i1 : (0 : Int) ≤ (m : Int) := by omega
      have i2 : (m : Int) < 201 := by omega
      by_cases hs : (m : Int) + stopD m r ≤ d
      · have HN := Lib.hid (show nextN r d m = m from nextN_take r d m hs)
        generalize stopD (m : Int) r = q at *
        go_wp2
        go_ret
        exact ⟨ret_int (by rw [HR.out, ← HE.out, HN.out]), HW1.out.symm⟩
      · have hp : 1 ≤ m := by
          by_cases h : m = 0
          · subst h; rw [show ((0 : Nat) : Int) = 0 from rfl, stopD_zero 0 r (by omega)] at hs; omega
          · omega
        have HN := Lib.hid (nextN_drop r d m hs hp)
        generalize stopD (m : Int) r = q at *
        go_wp2
        go_round
        case rel => exact ⟨m - 1, by congr 1; omega, by omega, Lib.hid (HN.out.symm.trans HE.out)⟩
        case measure => simp [intOf]; omega
theorem implStopDistance (v r : Int) (w : World) :
    Calls Try.prog 15 #[.int .i64 v, .int .i64 r] w fun e w' => e = .returned (.int .i64 (stopV v r)) ∧ Below w.heap.size w w' := by
  by_cases h2 : 1 ≤ r ∧ r ≤ 50
  · by_cases h1 : 0 ≤ v ∧ v ≤ 200
    · have HE := Lib.hid (stopV_in v r h1.1 h1.2 h2.1 h2.2)
      obtain ⟨k, rfl⟩ : ∃ k : Nat, v = (k : Int) := ⟨v.toNat, by omega⟩
      have i1 : (0 : Int) ≤ (k : Int) := by omega
      have i2 : (k : Int) < 201 := by omega
      go_enter Try.func15, Try.ntmps15
      go_wp2_with fail
      refine (driveYes 200 r _ (by omega) (by omega) h2.1 h2.2).mono ?_
      rintro e w1 ⟨rfl, D1, B1⟩
      have c1 := D1.c2 k (by omega) (by omega)
      have HB := Lib.hid B1
      clear D1 B1
      go_wp2_with fail
      refine (speed_yes (k : Int) _ h1.1 h1.2).mono ?_
      rintro e w' ⟨rfl, rfl⟩
      go_wp2
      go_ret
      exact ⟨ret_int HE.out.symm, HB.out⟩
    · have HE := Lib.hid (stopV_out v r (fun h => h1 h.1))
      go_enter Try.func15, Try.ntmps15
      go_wp2_with fail
      refine (driveYes 200 r _ (by omega) (by omega) h2.1 h2.2).mono ?_
      rintro e w1 ⟨rfl, D1, B1⟩
      have HB := Lib.hid B1
      clear D1 B1
      go_wp2_with fail
      refine (speed_no v _ h1).mono ?_
      rintro e w' ⟨rfl, rfl⟩
      go_wp2
      go_ret
      exact ⟨ret_int HE.out.symm, HB.out⟩
  · have HE := Lib.hid (stopV_out v r (fun h => h2 h.2))
    go_enter Try.func15, Try.ntmps15
    go_wp2_with fail
    refine (driveNo 200 r _ (fun h => h2 h.2)).mono ?_
    rintro e w1 ⟨rfl, rfl⟩
    go_wp2
    go_ret
    exact ⟨ret_int HE.out.symm, Below.refl _ _⟩
theorem implNextSpeed (v d t r : Int) (w : World) :
    Calls Try.prog 19 #[.int .i64 v, .int .i64 d, .int .i64 t, .int .i64 r] w fun e w' => e = .returned (.int .i64 (nextV v d t r)) ∧ Below w.heap.size w w' := by
  by_cases h3 : (1 ≤ t ∧ t ≤ 200) ∧ (1 ≤ r ∧ r ≤ 50)
  · by_cases h1 : 0 ≤ v ∧ v ≤ 200
    · by_cases h2 : 0 ≤ d ∧ d ≤ 5000
      · have HE := Lib.hid (nextV_in v d t r ⟨⟨h1, h2⟩, h3⟩)
        go_enter Try.func19, Try.ntmps19
        go_wp2_with fail
        refine (driveYes t r _ h3.1.1 h3.1.2 h3.2.1 h3.2.2).mono ?_
        rintro e w1 ⟨rfl, D1, B1⟩
        have HB := Lib.hid B1
        have HD := Lib.hid D1
        clear D1 B1
        go_wp2_with fail
        refine (speed_yes v _ h1.1 h1.2).mono ?_
        rintro e w' ⟨rfl, rfl⟩
        go_wp2_with fail
        refine (dist_yes d _ h2.1 h2.2).mono ?_
        rintro e w' ⟨rfl, rfl⟩
        go_wp2_with fail
        refine (driveNext _ v d t r _ HD.out h1.1 h1.2 h2.1 h2.2 h3.1.1 h3.1.2 h3.2.1 h3.2.2).mono ?_
        rintro e w' ⟨rfl, rfl⟩
        go_wp2
        go_ret
        exact ⟨ret_int HE.out.symm, HB.out.drew⟩
      · have HE := Lib.hid (nextV_out v d t r (fun h => h2 h.1.2))
        go_enter Try.func19, Try.ntmps19
        go_wp2_with fail
        refine (driveYes t r _ h3.1.1 h3.1.2 h3.2.1 h3.2.2).mono ?_
        rintro e w1 ⟨rfl, D1, B1⟩
        have HB := Lib.hid B1
        clear D1 B1
        go_wp2_with fail
        refine (speed_yes v _ h1.1 h1.2).mono ?_
        rintro e w' ⟨rfl, rfl⟩
        go_wp2_with fail
        refine (dist_no d _ h2).mono ?_
        rintro e w' ⟨rfl, rfl⟩
        go_wp2
        go_ret
        exact ⟨ret_int HE.out.symm, HB.out⟩
    · have HE := Lib.hid (nextV_out v d t r (fun h => h1 h.1.1))
      go_enter Try.func19, Try.ntmps19
      go_wp2_with fail
      refine (driveYes t r _ h3.1.1 h3.1.2 h3.2.1 h3.2.2).mono ?_
      rintro e w1 ⟨rfl, D1, B1⟩
      have HB := Lib.hid B1
      clear D1 B1
      go_wp2_with fail
      refine (speed_no v _ h1).mono ?_
      rintro e w' ⟨rfl, rfl⟩
      go_wp2
      go_ret
      exact ⟨ret_int HE.out.symm, HB.out⟩
  · have HE := Lib.hid (nextV_out v d t r (fun h => h3 h.2))
    go_enter Try.func19, Try.ntmps19
    go_wp2_with fail
    refine (driveNo t r _ h3).mono ?_
    rintro e w1 ⟨rfl, rfl⟩
    go_wp2
    go_ret
    exact ⟨ret_int HE.out.symm, Below.refl _ _⟩
end Go.Proofs.Ytcamnkoiddighaa
