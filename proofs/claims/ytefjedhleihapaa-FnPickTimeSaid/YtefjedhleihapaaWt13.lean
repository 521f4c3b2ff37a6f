/- The walk of the law on PickTime. -/
import Derived.Test.YtefjedhleihapaaDj13
import Derived.Test.YtefjedhleihapaaCi13
namespace Go.Proofs.Ytefjedhleihapaa
set_option maxRecDepth 100000
open Go.RowKit
attribute [local go_sem ↓] Go.wp_at_zero Go.wp_at_succ
/-- What the law says of a time. -/
theorem time_facts (p s lo hi r : Int) : timeV p s lo hi r = -1 ∨ ((0 ≤ s ∧ s ≤ 200) ∧ (-10000 ≤ p ∧ p ≤ 10000) ∧ (0 ≤ timeV p s lo hi r ∧ timeV p s lo hi r ≤ 2000) ∧ 0 ≤ r ∧ r ≤ timeV p s lo hi r ∧ (lo ≤ p + s * timeV p s lo hi r ∧ p + s * timeV p s lo hi r ≤ hi) ∧
    (timeV p s lo hi r = r ∨ p + s * (timeV p s lo hi r - 1) < lo ∨ hi < p + s * (timeV p s lo hi r - 1)) ∧ (timeV p s lo hi (r + 1) = -1 ∨ timeV p s lo hi r ≤ timeV p s lo hi (r + 1))) := by
  by_cases h : okPick p s lo hi r
  rotate_left
  · exact .inl (if_neg h)
  have e : timeV p s lo hi r = pickV p s lo hi r := if_pos h
  rw [e]
  obtain ⟨hC, hp, h0, h2⟩ := h
  rcases pick_spec (p := p) (s := s) (lo := lo) (hi := hi) h0 with ⟨k, _⟩ | ⟨k1, k2, k3, k4⟩
  · exact .inl k
  · refine .inr ⟨hC.1, hp, ⟨by omega, k2⟩, h0, k1, k3, ?_, ?_⟩
    · by_cases q : pickV p s lo hi r = r
      · exact .inl q
      · have := k4 (pickV p s lo hi r - 1) (by omega) (by omega)
        unfold inW at this
        rcases Int.lt_or_le (p + s * (pickV p s lo hi r - 1)) lo with z | z
        · exact .inr (.inl z)
        · exact .inr (.inr (by omega))
    · by_cases q : r + 1 ≤ 2000
      · have e2 : timeV p s lo hi (r + 1) = pickV p s lo hi (r + 1) := if_pos ⟨hC, hp, by omega, q⟩
        rw [e2]
        rcases pick_later (p := p) (s := s) (lo := lo) (hi := hi) h0 with z | z
        · left
          rcases pick_spec (p := p) (s := s) (lo := lo) (hi := hi) (r := r + 1) (by omega) with ⟨k, _⟩ | ⟨k5, _⟩ <;> omega
        · exact .inr z
      · exact .inl (if_neg (fun k => q k.2.2.2))
set_option maxHeartbeats 4000000 in
theorem walkFnPickTime (w : World) (a : Option Addr) (len cap : Nat) (zs : List Int) (h : Bytes w a len cap zs) :
    Calls Try.prog 4 #[.slice a len cap] w fun e w' => e = .returned (.bool true) ∧ Below w.heap.size w w' := by
  have hle := h.len_le
  obtain ⟨hl, hm⟩ := hle
  unfold maxLen at hm
  by_cases hbig : 1048576 < len
  · go_enter Try.func4, Try.ntmps4
    go_wp2
    go_ret
    exact ⟨rfl, Below.refl _ _⟩
  · go_enter Try.func4, Try.ntmps4
    go_wp2_with fail
    refine (drawPickTime w a len cap zs h).mono ?_
    rintro e w1 ⟨p, s, lo, hi, r, hp, hs, hlo, hhi, hr, rfl, hb⟩
    have HB := Lib.hid hb
    have HI := Lib.hid (fun u => implPickTime p s lo hi r u)
    have HJ := Lib.hid (fun u => implPickTime p s lo hi (r + 1) u)
    have HS := Lib.hid (fun u => specPickTime p s lo hi r u)
    have HF := time_facts p s lo hi r
    have or : IntKind.i64.wrap (r + 1) = r + 1 := wrap_in (by omega) (by omega)
    clear hb h hp hs hlo hhi
    generalize timeV p s lo hi (r + 1) = v2 at *
    generalize timeV p s lo hi r = v at *
    have e1 : (v != v) = false := by simp
    rcases HF with rfl | ⟨hs, hp, hv, r0, hrv, ha, hE, hL⟩
    · go_wp2_with fail
      refine (HI.out _).mono ?_
      rintro e w2 ⟨rfl, B2⟩
      have HB2 := Lib.hid (below_call HB.out B2)
      clear B2
      go_wp2_with fail
      refine (HS.out _).mono ?_
      rintro e w' ⟨rfl, rfl⟩
      go_wp2_with fail
      refine (alive _).mono ?_
      rintro e w' ⟨rfl, rfl⟩
      go_wp2
      go_ret
      exact ⟨rfl, HB2.out⟩
    · have b1 := place_small hp hs (t := v) ⟨by omega, by omega⟩
      have b2 := place_small hp hs (t := v - 1) ⟨by omega, by omega⟩
      obtain ⟨m1, hm1⟩ : ∃ m, s * v = m := ⟨_, rfl⟩
      obtain ⟨m2, hm2⟩ : ∃ m, s * (v - 1) = m := ⟨_, rfl⟩
      rw [hm1] at b1 ha
      rw [hm2] at b2 hE
      have o1 : IntKind.i64.wrap (s * v) = m1 := by rw [hm1]; exact wrap_in (by omega) (by omega)
      have o2 : IntKind.i64.wrap (s * (v - 1)) = m2 := by rw [hm2]; exact wrap_in (by omega) (by omega)
      have o3 : IntKind.i64.wrap (v - 1) = v - 1 := wrap_in (by omega) (by omega)
      have o4 : IntKind.i64.wrap (p + m1) = p + m1 := wrap_in (by omega) (by omega)
      have o5 : IntKind.i64.wrap (p + m2) = p + m2 := wrap_in (by omega) (by omega)
      obtain ⟨a0, a1⟩ := ha
      have v0 : ¬ v < 0 := by omega
      clear hm1 hm2 b1 b2 hp hs hr r0
      go_wp2_with fail
      refine (HI.out _).mono ?_
      rintro e w2 ⟨rfl, B2⟩
      have HB2 := Lib.hid (below_call HB.out B2)
      clear B2
      go_wp2_with fail
      refine (HS.out _).mono ?_
      rintro e w' ⟨rfl, rfl⟩
      go_wp2_with fail
      refine (HJ.out _).mono ?_
      rintro e w3 ⟨rfl, B3⟩
      have HB3 := Lib.hid (below_call HB2.out B3)
      clear B3 HI HS HJ
      by_cases hq : v = r
      · have e2 : (v == r) = true := by simp [hq]
        clear hE hq
        rcases hL with rfl | hL
        · go_wp2
          go_ret
          exact ⟨rfl, HB3.out⟩
        · have q2 : ¬ v2 < 0 := by omega
          go_wp2
          go_ret
          exact ⟨rfl, HB3.out⟩
      · have e2 : (v == r) = false := by simp [hq]
        rcases Int.lt_or_le (p + m2) lo with k | k
        · clear hE hq
          rcases hL with rfl | hL
          · go_wp2
            go_ret
            exact ⟨rfl, HB3.out⟩
          · have q2 : ¬ v2 < 0 := by omega
            go_wp2
            go_ret
            exact ⟨rfl, HB3.out⟩
        · have k2 : hi < p + m2 := by rcases hE with q | q | q <;> omega
          have k3 : ¬ (p + m2 < lo) := by omega
          clear hE hq
          rcases hL with rfl | hL
          · go_wp2
            go_ret
            exact ⟨rfl, HB3.out⟩
          · have q2 : ¬ v2 < 0 := by omega
            go_wp2
            go_ret
            exact ⟨rfl, HB3.out⟩
end Go.Proofs.Ytefjedhleihapaa
