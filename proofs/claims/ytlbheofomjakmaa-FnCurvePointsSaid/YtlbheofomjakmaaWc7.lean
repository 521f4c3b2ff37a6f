/- The walk of the law FnCurveValid, and what the laws on curves need besides. -/
import Derived.Test.YtlbheofomjakmaaDd7
import Derived.Test.YtlbheofomjakmaaCv7
namespace Go.Proofs.Ytlbheofomjakmaa
set_option maxRecDepth 100000
open Go.RowKit
attribute [local go_sem ↓] Go.wp_at_zero Go.wp_at_succ
theorem PtsAt.take {w : World} {a : Option Addr} {len k : Nat} {ps : List (Int × Int)} (h : PtsAt w a len ps) (hk : k ≤ len) : PtsAt w a k (ps.take k) := by
  refine ⟨by rw [List.length_take]; have := h.1; omega, ?_⟩
  rcases h.2 with h2 | ⟨b, h1, h2, h3⟩
  · left; rw [h2]; simp
  · refine .inr ⟨b, h1, h2, fun i hi => ?_⟩
    rw [List.length_take] at hi
    have e : (ps.take k).getD i (0, 0) = ps.getD i (0, 0) := by rw [List.getD_eq_getElem?_getD, List.getD_eq_getElem?_getD, List.getElem?_take_of_lt (by omega)]
    rw [e]
    exact h3 i (by omega)
theorem okCurve_take {ps : List (Int × Int)} (h : okCurve ps) : okCurve (ps.take 1) :=
  ⟨by rw [List.length_take]; have := h.1; omega, by rw [List.length_take]; omega, fun p hp => h.2.2 p (List.mem_of_mem_take hp)⟩
theorem PtsAt.nil (w : World) : PtsAt w none 0 [] := ⟨rfl, .inl rfl⟩
theorem not_okCurve_nil : ¬ okCurve [] := fun h => by have := h.1; simp at this
theorem abs7 (n : Int) (w : World) (h0 : -1000000000 ≤ n) (h1 : n ≤ 1000000000) :
    Calls Try.prog 20 #[.int .i64 n] w fun e w' => e = .returned (.int .i64 (max n (-n))) ∧ w = w' := by
  obtain ⟨m, hm⟩ : ∃ m, max n (-n) = m := ⟨_, rfl⟩
  have HE := Lib.hid hm
  rw [hm]
  clear hm
  go_enter Try.func20, Try.ntmps20
  go_wp2
  all_goals
    go_ret
    exact ⟨ret_int (by rw [← HE.out]; omega), rfl⟩
set_option maxHeartbeats 1000000 in
theorem walkFnCurveValid (w : World) (a : Option Addr) (len cap : Nat) (zs : List Int) (h : Bytes w a len cap zs) :
    Calls Try.prog 3 #[.slice a len cap] w fun e w' => e = .returned (.bool true) ∧ Below w.heap.size w w' := by
  have hle := h.len_le
  obtain ⟨hl, hm⟩ := hle
  unfold maxLen at hm
  by_cases hlen : len ≤ 1048576
  · go_enter Try.func3, Try.ntmps3
    go_wp2_with fail
    refine (drawCurveValid w a len cap zs h).mono ?_
    rintro e w1 ⟨s, ps, rfl, hsl, hn, _, O, B1⟩
    have HL := Lib.hid hsl
    have hs5 : s.len ≤ 5 := by omega
    have HB := Lib.hid B1
    clear B1 h hsl
    go_wp2_with fail
    refine (implCurveValid s.a s.len s.cap ps _ O.ints (by omega)).mono ?_
    rintro e w2 ⟨rfl, B2⟩
    replace O := O.next B2
    replace HB := Lib.hid (below_call HB.out B2)
    clear B2
    go_wp2_with fail
    refine (specCurveValid s.a s.len s.cap ps _ O.ints (by omega)).mono ?_
    rintro e w3 ⟨rfl, B3⟩
    replace O := O.next B3
    replace HB := Lib.hid (below_call HB.out B3)
    clear B3
    have HNIL := Lib.hid (fun w => implCurveValid none 0 0 [] w (PtsAt.nil w) (by omega))
    rw [decide_eq_false not_okCurve_nil] at HNIL
    by_cases hok : okCurve ps
    · rw [decide_eq_true hok]
      have HOK := Lib.hid (okCurve_take hok)
      have h1 : 1 ≤ ps.length := hok.1
      have O2 := O
      obtain ⟨g, c, hv, _, hc⟩ := O.at7 h1
      simp only [Value.slice.injEq] at hv
      obtain ⟨hv1, hv2, hv3⟩ := hv
      rw [hv1, hv2, hv3] at O2 ⊢
      have h2 : 1 ≤ c := by omega
      have PT := O2.ints.take h1
      clear hok hv1 hv2 hv3 O O2 HL
      have e0 : (true != true) = false := rfl
      go_wp2_with fail
      refine (HNIL.out _).mono ?_
      rintro e w4 ⟨rfl, B4⟩
      replace PT := PT.next B4
      replace HB := Lib.hid (below_call HB.out B4)
      clear B4 HNIL
      go_wp2_with fail
      refine (implCurveValid _ 1 c (ps.take 1) _ PT (by omega)).mono ?_
      rw [decide_eq_true HOK.out]
      rintro e w5 ⟨rfl, B5⟩
      replace HB := Lib.hid (below_call HB.out B5)
      clear B5 PT HOK
      go_wp2_with fail
      refine (alive _).mono ?_
      rintro e w' ⟨rfl, rfl⟩
      go_wp2
      go_ret
      exact ⟨rfl, HB.out⟩
    · rw [decide_eq_false hok]
      clear hok O HL
      have e0 : (false != false) = false := rfl
      go_wp2_with fail
      refine (HNIL.out _).mono ?_
      rintro e w4 ⟨rfl, B4⟩
      replace HB := Lib.hid (below_call HB.out B4)
      clear B4 HNIL
      go_wp2_with fail
      refine (alive _).mono ?_
      rintro e w' ⟨rfl, rfl⟩
      go_wp2
      go_ret
      exact ⟨rfl, HB.out⟩
  · clear h
    go_enter Try.func3, Try.ntmps3
    go_wp2
    go_ret
    exact ⟨rfl, Below.refl _ _⟩
end Go.Proofs.Ytlbheofomjakmaa
