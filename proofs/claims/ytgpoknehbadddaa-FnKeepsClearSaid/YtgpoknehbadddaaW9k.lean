/- The walk of the law FnKeepsClear: it returns true at every code. -/
import Derived.Test.YtgpoknehbadddaaLk9
import Derived.Test.YtgpoknehbadddaaDr9
namespace Go.Proofs.Ytgpoknehbadddaa
set_option maxRecDepth 100000
open Go.RowKit
attribute [local go_sem ↓] Go.wp_at_zero Go.wp_at_succ
theorem sKcE (a : Option Addr) (len cap : Nat) (pss : List (List P2)) (p : P2) (d : Int) (v : Bool) (hv : decide (clr9 pss p d) = v) (w : World) (hp : PSS w a len pss) (hl : len ≤ 9223372036854775807) :
    Calls Try.prog 22 #[.slice a len cap, pt p.1 p.2, .int .i64 d] w fun e w' => e = .returned (.bool v) ∧ Below w.heap.size w w' := by
  subst hv; exact sKc a len cap pss p d w hp hl
set_option maxHeartbeats 4000000 in
theorem walkFnKeepsClear (w : World) (a : Option Addr) (len cap : Nat) (zs : List Int) (h : Bytes w a len cap zs) :
    Calls Try.prog 5 #[.slice a len cap] w fun e w' => e = .returned (.bool true) ∧ Below w.heap.size w w' := by
  have hle := h.len_le
  obtain ⟨hl, hm⟩ := hle
  unfold maxLen at hm
  by_cases hbig : 1048576 < len
  · go_enter Try.func5, Try.ntmps5
    go_wp2
    go_ret
    exact ⟨rfl, Below.refl _ _⟩
  · go_enter Try.func5, Try.ntmps5
    go_wp2_with fail
    refine (drawKeepsClear w a len cap zs h).mono ?_
    rintro e w0 ⟨⟨sa, sl, sc⟩, pss, p, d, rfl, P, hn, d0, d1, B1⟩
    clear h hl hm hbig
    simp only at P
    have hsl : sl ≤ 9 := by have := P.1; omega
    have HB := Lib.hid (below_call B1 (below_box w0 (.cells #[.int .i64 p.1, .int .i64 p.2] 24)))
    have HP := Lib.hid (P.next (below_box w0 (.cells #[.int .i64 p.1, .int .i64 p.2] 24)))
    have HX := Lib.hid (AtP.box w0 p.1 p.2 24)
    clear B1 P hn
    obtain ⟨v, hv9⟩ : ∃ v, decide (clr9 pss p d) = v := ⟨_, rfl⟩
    have HV := Lib.hid hv9
    clear hv9
    have e0 : (v != v) = false := by cases v <;> rfl
    go_upto_region 4 with fail
    generalize w0.alloc (.cells #[.int .i64 p.1, .int .i64 p.2] 24) = w2 at *
    generalize w0.heap.size = vp at *
    obtain ⟨lvp, a1, a2⟩ := HX.out
    go_wp2_with fail
    refine (iKcE sa sl sc pss p d v HV.out _ HP.out (by omega)).mono ?_
    rintro e u ⟨rfl, B⟩
    replace HP := Lib.hid (HP.out.next B)
    replace HX := Lib.hid (HX.out.next B)
    replace HB := Lib.hid (below_call HB.out B)
    clear B lvp a1 a2
    obtain ⟨lvp, a1, a2⟩ := HX.out
    go_wp2_with fail
    refine (sKcE sa sl sc pss p d v HV.out _ HP.out (by omega)).mono ?_
    rintro e u ⟨rfl, B⟩
    replace HP := Lib.hid (HP.out.next B)
    replace HX := Lib.hid (HX.out.next B)
    replace HB := Lib.hid (below_call HB.out B)
    clear B lvp a1 a2
    obtain ⟨lvp, a1, a2⟩ := HX.out
    by_cases hd : 0 ≤ d ∧ d ≤ 1000
    rotate_left
    · have hvf : v = false := by have := HV.out; rw [decide_eq_false (fun k => hd k.2.1)] at this; exact this.symm
      subst hvf
      by_cases q : d < 0
      · clear hd
        go_wp2_with fail
        refine (alive _).mono ?_
        rintro e w' ⟨rfl, rfl⟩
        go_wp2
        go_ret
        exact ⟨rfl, HB.out⟩
      · have q2 : d > 1000 := by omega
        clear hd
        go_wp2_with fail
        refine (alive _).mono ?_
        rintro e w' ⟨rfl, rfl⟩
        go_wp2
        go_ret
        exact ⟨rfl, HB.out⟩
    · obtain ⟨h0, h1⟩ := hd
      have q1 : ¬ d < 0 := by omega
      have q2 : ¬ d > 1000 := by omega
      have HNIL := Lib.hid (fun u => iKcE none 0 0 [] p d true (decide_eq_true (clr9_none p h0 h1)) u (PSS.nil u none) (by omega))
      go_wp2_with fail
      refine (HNIL.out _).mono ?_
      rintro e u ⟨rfl, B⟩
      replace HP := Lib.hid (HP.out.next B)
      replace HX := Lib.hid (HX.out.next B)
      replace HB := Lib.hid (below_call HB.out B)
      clear B lvp a1 a2
      obtain ⟨lvp, a1, a2⟩ := HX.out
      cases v
      · go_wp2_with fail
        refine (alive _).mono ?_
        rintro e w' ⟨rfl, rfl⟩
        go_wp2
        go_ret
        exact ⟨rfl, HB.out⟩
      · by_cases hz : d = 0
        · have t1 : (d == 0) = true := by simpa using hz
          replace hz := Lib.hid hz
          go_wp2_with fail
          refine (alive _).mono ?_
          rintro e w' ⟨rfl, rfl⟩
          go_wp2
          go_ret
          exact ⟨rfl, HB.out⟩
        · have t1 : (d == 0) = false := by simpa using hz
          have hc : clr9 pss p d := of_decide_eq_true HV.out
          have H1 := Lib.hid (fun u hu => iKcE sa sl sc pss p (d - 1) true (decide_eq_true (clr9_less hc (by omega) (by omega))) u hu (by omega))
          have H0 := Lib.hid (fun u hu => iKcE sa sl sc pss p 0 true (decide_eq_true (clr9_less hc (by omega) (by omega))) u hu (by omega))
          have ow : IntKind.i64.wrap (d - 1) = d - 1 := wrap_in (by omega) (by omega)
          clear hc hz
          go_wp2_with fail
          refine (H1.out _ HP.out).mono ?_
          rintro e u ⟨rfl, B⟩
          replace HP := Lib.hid (HP.out.next B)
          replace HX := Lib.hid (HX.out.next B)
          replace HB := Lib.hid (below_call HB.out B)
          clear B lvp a1 a2
          obtain ⟨lvp, a1, a2⟩ := HX.out
          go_wp2_with fail
          refine (H0.out _ HP.out).mono ?_
          rintro e u ⟨rfl, B⟩
          replace HP := Lib.hid (HP.out.next B)
          replace HX := Lib.hid (HX.out.next B)
          replace HB := Lib.hid (below_call HB.out B)
          clear B lvp a1 a2
          obtain ⟨lvp, a1, a2⟩ := HX.out
          go_wp2_with fail
          refine (alive _).mono ?_
          rintro e w' ⟨rfl, rfl⟩
          go_wp2
          go_ret
          exact ⟨rfl, HB.out⟩
end Go.Proofs.Ytgpoknehbadddaa
