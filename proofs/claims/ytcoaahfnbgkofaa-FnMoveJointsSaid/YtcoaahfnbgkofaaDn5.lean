/- The program's next speed, StopDistance and NextSpeed. -/
import Derived.Test.YtcoaahfnbgkofaaDr5
import Derived.Test.YtcoaahfnbgkofaaKept
namespace Go.Proofs.Ytcoaahfnbgkofaa
set_option maxRecDepth 100000
open Go.RowKit
attribute [local go_sem ↓] Go.wp_at_zero Go.wp_at_succ
set_option maxHeartbeats 1000000 in
theorem driveNext (b : Nat) (v d t r : Int) (w : World) (hD : DrvAt w b t r 201) (v0 : 0 ≤ v) (v1 : v ≤ 200) (d0 : 0 ≤ d) (d1 : d ≤ 5000) (t0 : 1 ≤ t) (t1 : t ≤ 200) (r0 : 1 ≤ r) (r1 : r ≤ 50) :
    Calls Try.prog 83 #[.pointer (some ⟨b, 0, none⟩), .int .i64 v, .int .i64 d] w fun e w' => e = .returned (.int .i64 (nextI v d t r)) ∧ w' = w.drew := by
  obtain ⟨m0, hm⟩ : ∃ m0 : Nat, (min t (v + r)).toNat = m0 := ⟨_, rfl⟩
  have HM := Lib.hid (show min t (v + r) = (m0 : Int) by omega)
  have HR := Lib.hid (show nextI v d t r = (nextN r d m0 : Int) by unfold nextI; rw [hm])
  have hm1 : m0 ≤ 200 := by omega
  have HC := Lib.hid (fun (u : Nat) (hu : u ≤ 200) => show w.drew.cell? ⟨b, 2 + u, none⟩ = some (.int .i64 (stopD u r)) from hD.c2 u hu (by omega))
  have o1 : IntKind.i64.wrap (v + r) = v + r := IntWalk.i64_in _ (by omega)
  have h0 := hD.c0
  have h1 := hD.c1
  clear hm hD
  go_enter Try.func83, Try.ntmps83
  go_wp2
  have c0 : w.drew.cell? ⟨b, 0, none⟩ = some (.int .i64 t) := h0
  have c1 : w.drew.cell? ⟨b, 1, none⟩ = some (.int .i64 r) := h1
  refine wp_region_still_tail 10 (by kernel_rfl) (by kernel_rfl) ?_
  simp only [List.take_succ_cons, List.take_zero, List.drop_succ_cons, List.drop_zero]
  change wpStill _ _ w.drew (fun a' => wpList _ _ _ _ a' w.drew) _ _
  have HW : Hid (w.drew = w.drew) := Lib.hid rfl
  clear h0 h1
  obtain ⟨w1, hw1⟩ : ∃ w1, w.drew = w1 := ⟨_, rfl⟩
  have HW1 := Lib.hid hw1
  rw [hw1] at HC c0 c1 ⊢
  clear hw1 HW
  repeat still_step
  refine wpStill_nil ?_
  go_wp2
  all_goals
    clear c0 c1
    go_loop [7] (fun u => ∃ m : Nat, u = .int .i64 (m : Int) ∧ m ≤ 200 ∧ Hid (nextN r d m = nextN r d m0)) (fun u => (intOf u).toNat)
    case atStart => exact ⟨m0, by congr 1; have := HM.out; omega, hm1, Lib.hid rfl⟩
    case round =>
      obtain ⟨m, rfl, hm, HE⟩ := hrel
      have s0 := stopD_lo m r r0
      have s1 := stopD_hi m r r0 (by omega) (by omega)
      have cm := HC.out m hm
      have i1 : (0 : Int) ≤ (m : Int) := by omega
      have i2 : (m : Int) < 201 := by omega
      by_cases hs : (m : Int) + stopD m r ≤ d
      · have HN := Lib.hid (show nextN r d m = m from nextN_take r d m hs)
        generalize stopD (m : Int) r = q at *
        go_wp2
        go_ret
        exact ⟨ret_int (by rw [HR.out, ← HE.out, HN.out]), HW1.out.symm⟩
      · have hp : 1 ≤ m := by
          by_cases h : m = 0
          · subst h; rw [show ((0 : Nat) : Int) = 0 from rfl, stopD_zero 0 r (by omega)] at hs; omega
          · omega
        have HN := Lib.hid (nextN_drop r d m hs hp)
        generalize stopD (m : Int) r = q at *
        go_wp2
        go_round
        case rel => exact ⟨m - 1, by congr 1; omega, by omega, Lib.hid (HN.out.symm.trans HE.out)⟩
        case measure => simp [intOf]; omega
end Go.Proofs.Ytcoaahfnbgkofaa
