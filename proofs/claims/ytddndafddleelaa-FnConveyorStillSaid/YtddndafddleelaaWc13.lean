/- The walk of the law on a stopped conveyor. -/
import Derived.Test.YtddndafddleelaaD13
import Derived.Test.YtddndafddleelaaCi13
namespace Go.Proofs.Ytddndafddleelaa
set_option maxRecDepth 100000
open Go.RowKit
attribute [local go_sem ↓] Go.wp_at_zero Go.wp_at_succ
set_option maxHeartbeats 4000000 in
theorem walkFnConveyorStill (w : World) (a : Option Addr) (len cap : Nat) (zs : List Int) (h : Bytes w a len cap zs) :
    Calls Try.prog 11 #[.slice a len cap] w fun e w' => e = .returned (.bool true) ∧ Below w.heap.size w w' := by
  have hle := h.len_le
  obtain ⟨hl, hm⟩ := hle
  unfold maxLen at hm
  by_cases hbig : 1048576 < len
  · go_enter Try.func11, Try.ntmps11
    go_wp2
    go_ret
    exact ⟨rfl, Below.refl _ _⟩
  · go_enter Try.func11, Try.ntmps11
    go_wp2_with fail
    refine (drawPickTime w a len cap zs h).mono ?_
    rintro e w1 ⟨p, s, lo, hi, r, hp, hs, hlo, hhi, hr, rfl, hb⟩
    have HB := Lib.hid hb
    have HI := Lib.hid (fun u => implPickTime p 0 lo hi r u)
    have HS := Lib.hid (fun u => specPickTime p 0 lo hi r u)
    clear hb h hs
    by_cases hc : lo ≤ hi
    rotate_left
    · have e0 : timeV p 0 lo hi r = -1 := if_neg (fun q => hc q.1.2.2.1)
      rw [e0] at HI HS
      clear hp hlo hhi hr e0
      go_wp2_with fail
      refine (HI.out _).mono ?_
      rintro e w2 ⟨rfl, B2⟩
      have HB2 := Lib.hid (below_call HB.out B2)
      clear B2
      go_wp2_with fail
      refine (HS.out _).mono ?_
      rintro e w' ⟨rfl, rfl⟩
      go_wp2_with fail
      refine (alive _).mono ?_
      rintro e w' ⟨rfl, rfl⟩
      go_wp2
      go_ret
      exact ⟨rfl, HB2.out⟩
    by_cases h0 : 0 ≤ r
    rotate_left
    · have e0 : timeV p 0 lo hi r = -1 := if_neg (fun q => h0 q.2.2.1)
      rw [e0] at HI HS
      have q0 : ¬ (hi < lo) := by omega
      have q1 : r < 0 := by omega
      clear hp hlo hhi hr e0
      go_wp2_with fail
      refine (HI.out _).mono ?_
      rintro e w2 ⟨rfl, B2⟩
      have HB2 := Lib.hid (below_call HB.out B2)
      clear B2
      go_wp2_with fail
      refine (HS.out _).mono ?_
      rintro e w' ⟨rfl, rfl⟩
      go_wp2_with fail
      refine (alive _).mono ?_
      rintro e w' ⟨rfl, rfl⟩
      go_wp2
      go_ret
      exact ⟨rfl, HB2.out⟩
    by_cases h1 : r ≤ 2000
    rotate_left
    · have e0 : timeV p 0 lo hi r = -1 := if_neg (fun q => h1 q.2.2.2)
      rw [e0] at HI HS
      have q0 : ¬ (hi < lo) := by omega
      have q1 : ¬ r < 0 := by omega
      have q2 : 2000 < r := by omega
      clear hp hlo hhi hr e0
      go_wp2_with fail
      refine (HI.out _).mono ?_
      rintro e w2 ⟨rfl, B2⟩
      have HB2 := Lib.hid (below_call HB.out B2)
      clear B2
      go_wp2_with fail
      refine (HS.out _).mono ?_
      rintro e w' ⟨rfl, rfl⟩
      go_wp2_with fail
      refine (alive _).mono ?_
      rintro e w' ⟨rfl, rfl⟩
      go_wp2
      go_ret
      exact ⟨rfl, HB2.out⟩
    have e0 : timeV p 0 lo hi r = if lo ≤ p ∧ p ≤ hi then r else -1 := (if_pos ⟨⟨by omega, by omega, hc, by omega⟩, by omega, h0, h1⟩).trans (pick_still h0 h1)
    have q0 : ¬ (hi < lo) := by omega
    have q1 : ¬ r < 0 := by omega
    have q2 : ¬ 2000 < r := by omega
    have e1 : (r != r) = false := by simp
    have e2 : (r == r) = true := by simp
    by_cases hin : lo ≤ p ∧ p ≤ hi
    · rw [e0, if_pos hin] at HI HS
      obtain ⟨i0, i1⟩ := hin
      clear hp hlo hhi hr e0
      go_wp2_with fail
      refine (HI.out _).mono ?_
      rintro e w2 ⟨rfl, B2⟩
      have HB2 := Lib.hid (below_call HB.out B2)
      clear B2
      go_wp2_with fail
      refine (HS.out _).mono ?_
      rintro e w' ⟨rfl, rfl⟩
      go_wp2
      go_ret
      exact ⟨rfl, HB2.out⟩
    · rw [e0, if_neg hin] at HI HS
      rcases Int.lt_or_le p lo with k | k
      · have k2 : ¬ lo ≤ p := by omega
        clear hp hlo hhi hr e0 hin
        go_wp2_with fail
        refine (HI.out _).mono ?_
        rintro e w2 ⟨rfl, B2⟩
        have HB2 := Lib.hid (below_call HB.out B2)
        clear B2
        go_wp2_with fail
        refine (HS.out _).mono ?_
        rintro e w' ⟨rfl, rfl⟩
        go_wp2
        go_ret
        exact ⟨rfl, HB2.out⟩
      · have k2 : ¬ p ≤ hi := by omega
        clear hp hlo hhi hr e0 hin
        go_wp2_with fail
        refine (HI.out _).mono ?_
        rintro e w2 ⟨rfl, B2⟩
        have HB2 := Lib.hid (below_call HB.out B2)
        clear B2
        go_wp2_with fail
        refine (HS.out _).mono ?_
        rintro e w' ⟨rfl, rfl⟩
        go_wp2
        go_ret
        exact ⟨rfl, HB2.out⟩
end Go.Proofs.Ytddndafddleelaa
