/- The walk of the law FnClearDistance: it returns true at every code. -/
import Derived.Test.YtgpoknehbadddaaLk9
import Derived.Test.YtgpoknehbadddaaDr9
import Derived.Test.YtgpoknehbadddaaRoot
namespace Go.Proofs.Ytgpoknehbadddaa
set_option maxRecDepth 100000
open Go.RowKit
attribute [local go_sem ↓] Go.wp_at_zero Go.wp_at_succ
theorem root9 {n r : Int} (h0 : 0 ≤ n) (h1 : n ≤ 8000000) (hr : rootV n = r) : 0 ≤ r ∧ r ≤ 2829 ∧ r * r ≤ n ∧ n < (r + 1) * (r + 1) := by
  rw [rootV_in n h0 (by omega)] at hr
  have k := root_is n h0
  have l := root_lo n
  rw [hr] at k l
  refine ⟨l, ?_, k⟩
  rcases Int.lt_or_le 2829 r with q | q
  · have := Int.mul_le_mul (show (2829 : Int) ≤ r by omega) (show (2829 : Int) ≤ r by omega) (by omega) l
    omega
  · exact q
set_option maxHeartbeats 4000000 in
theorem walkFnClearDistance (w : World) (a : Option Addr) (len cap : Nat) (zs : List Int) (h : Bytes w a len cap zs) :
    Calls Try.prog 6 #[.slice a len cap] w fun e w' => e = .returned (.bool true) ∧ Below w.heap.size w w' := by
  have hle := h.len_le
  obtain ⟨hl, hm⟩ := hle
  unfold maxLen at hm
  by_cases hbig : 1048576 < len
  · go_enter Try.func6, Try.ntmps6
    go_wp2
    go_ret
    exact ⟨rfl, Below.refl _ _⟩
  · go_enter Try.func6, Try.ntmps6
    go_wp2_with fail
    refine (drawPolygonSquare w a len cap zs h).mono ?_
    rintro e w0 ⟨⟨sa, sl, sc⟩, ps, p, rfl, P, hn, B1, hc⟩
    clear h hl hm hbig
    simp only at P hc
    have hsl : sl ≤ 16 := by have := P.1; omega
    have HB := Lib.hid (below_call B1 (below_box w0 (.cells #[.int .i64 p.1, .int .i64 p.2] 24)))
    have HP := Lib.hid (P.next (below_box w0 (.cells #[.int .i64 p.1, .int .i64 p.2] 24)))
    have HX := Lib.hid (AtP.box w0 p.1 p.2 24)
    have HC := Lib.hid hc
    clear B1 P hc
    obtain ⟨n, hn9⟩ : ∃ n, psV ps p = n := ⟨_, rfl⟩
    have HNN := Lib.hid hn9
    have HNE := Lib.hid (psV_neg (ps := ps) (p := p))
    have HBD := Lib.hid (psV_bd ps p)
    have HNO := Lib.hid (fun h => psV_no (ps := ps) (p := p) h)
    rw [hn9] at HNE HBD HNO
    clear hn9
    have e0 : (n != n) = false := by simp
    go_upto_region 4 with fail
    generalize w0.alloc (.cells #[.int .i64 p.1, .int .i64 p.2] 24) = w2 at *
    generalize w0.heap.size = vp at *
    obtain ⟨lvp, a1, a2⟩ := HX.out
    go_wp2_with fail
    refine (iPqE sa sl sc ps p n HNN.out _ HP.out (by omega)).mono ?_
    rintro e w3 ⟨rfl, B⟩
    replace HP := Lib.hid (HP.out.next B)
    replace HX := Lib.hid (HX.out.next B)
    replace HB := Lib.hid (below_call HB.out B)
    clear B lvp a1 a2
    obtain ⟨lvp, a1, a2⟩ := HX.out
    go_wp2_with fail
    refine (sPqE sa sl sc ps p n HNN.out _ HP.out (by omega)).mono ?_
    rintro e w4 ⟨rfl, B⟩
    replace HP := Lib.hid (HP.out.next B)
    replace HX := Lib.hid (HX.out.next B)
    replace HB := Lib.hid (below_call HB.out B)
    clear B lvp a1 a2
    obtain ⟨lvp, a1, a2⟩ := HX.out
    by_cases hk : okPol9 ps p
    rotate_left
    · obtain rfl := HNO.out hk
      clear hk HNN HNE HBD HNO
      go_wp2_with fail
      refine (alive _).mono ?_
      rintro e w' ⟨rfl, rfl⟩
      go_wp2
      go_ret
      exact ⟨rfl, HB.out⟩
    · have HK := Lib.hid hk
      have g : ¬ n < 0 := fun q => (HNE.out.1 q) hk
      obtain ⟨r, hr⟩ : ∃ r, rootV n = r := ⟨_, rfl⟩
      obtain ⟨r0, r1, r2, r3⟩ := root9 (by omega) HBD.out.2 hr
      have HRR := Lib.hid (And.intro r2 r3)
      have HR := Lib.hid (fun w => implSquareRoot n w)
      rw [hr] at HR
      clear hk HNE HBD HNO hr r2 r3
      go_wp2_with fail
      refine (HR.out _).mono ?_
      rintro e w' ⟨rfl, rfl⟩
      clear HR
      by_cases hg : r > 1000
      · clear lvp a1 a2
        have hb := Lib.hid (below_call HB.out (below_box w4 (.cells #[.slice sa sl sc] 31)))
        go_wp2
        go_ret
        exact ⟨rfl, hb.out⟩
      · have HO := Lib.hid (PSS.one (s := ⟨sa, sl, sc⟩) HP.out (by simp only; omega) 31)
        replace HX := Lib.hid (HX.out.next (below_box w4 (.cells #[.slice sa sl sc] 31)))
        replace HB := Lib.hid (below_call HB.out (below_box w4 (.cells #[.slice sa sl sc] 31)))
        have H1 := Lib.hid (fun b u (hu : PSS u b 1 [ps]) => iKcE b 1 1 [ps] p r true (decide_eq_true ((clr9_one HK.out (by omega) (by omega)).2 (by rw [HNN.out]; exact HRR.out.1))) u hu (by omega))
        clear lvp a1 a2 HP
        simp only at HO
        go_upto_region 11 with fail
        generalize w4.alloc (.cells #[.slice sa sl sc] 31) = w5 at *
        generalize w4.heap.size = ob at *
        obtain ⟨lvp, a1, a2⟩ := HX.out
        go_wp2_with fail
        refine (H1.out _ _ HO.out).mono ?_
        rintro e w6 ⟨rfl, B⟩
        replace HO := Lib.hid (HO.out.next B)
        replace HX := Lib.hid (HX.out.next B)
        replace HB := Lib.hid (below_call HB.out B)
        clear B lvp a1 a2
        obtain ⟨lvp, a1, a2⟩ := HX.out
        by_cases he : r = 1000
        · have t1 : (r == 1000) = true := by simpa using he
          replace he := Lib.hid he
          go_wp2
          go_ret
          exact ⟨rfl, HB.out⟩
        · have t1 : (r == 1000) = false := by simpa using he
          have ow : IntKind.i64.wrap (r + 1) = r + 1 := wrap_in (by omega) (by omega)
          have H2 := Lib.hid (fun b u (hu : PSS u b 1 [ps]) => iKcE b 1 1 [ps] p (r + 1) false (decide_eq_false (fun q => by have := (clr9_one HK.out (by omega) (by omega)).1 q; have := HNN.out; have := HRR.out.2; omega)) u hu (by omega))
          go_wp2_with fail
          refine (H2.out _ _ HO.out).mono ?_
          rintro e w7 ⟨rfl, B⟩
          replace HB := Lib.hid (below_call HB.out B)
          clear B
          go_wp2
          go_ret
          exact ⟨rfl, HB.out⟩
end Go.Proofs.Ytgpoknehbadddaa
