/- The walk of the law on grid sizes. -/
import Derived.Test.YtkogoflcacameaaDz11
import Derived.Test.YtkogoflcacameaaGs11
import Derived.Test.YtkogoflcacameaaGq11
namespace Go.Proofs.Ytkogoflcacameaa
set_option maxRecDepth 100000
open Go.RowKit
attribute [local go_sem ↓] Go.wp_at_zero Go.wp_at_succ
set_option maxHeartbeats 8000000 in
theorem walkFnGridSize (w : World) (a : Option Addr) (len cap : Nat) (zs : List Int) (h : Bytes w a len cap zs) :
    Calls Try.prog 3 #[.slice a len cap] w fun e w' => e = .returned (.bool true) ∧ Below w.heap.size w w' := by
  have hle := h.len_le
  obtain ⟨hl, hm⟩ := hle
  unfold maxLen at hm
  by_cases hbig : 1048576 < len
  · go_enter Try.func3, Try.ntmps3
    go_wp2
    go_ret
    exact ⟨rfl, Below.refl _ _⟩
  · go_enter Try.func3, Try.ntmps3
    go_wp2_with fail
    refine (drawGridSize w a len cap zs h).mono ?_
    rintro e w1 ⟨⟨xa, xl, xc⟩, ⟨ya, yl, yc⟩, ⟨za, zl, zc⟩, ls, lo, hi, s, rfl, ⟨⟨i1, i2, i3⟩, hsm⟩, ⟨lx, ly, lz⟩, ⟨s0, s1⟩, hB⟩
    simp only at i1 i2 i3 lx ly lz
    have B2 := below_box w1 (.cells #[.slice xa xl xc, .slice ya yl yc, .slice za zl zc] 25)
    have P2 := AtA.box w1 (.slice xa xl xc) (.slice ya yl yc) (.slice za zl zc) 25
    have HB2 := Lib.hid (below_call hB B2)
    have I2 := Lib.hid (And.intro (i1.next B2) (And.intro (i2.next B2) (i3.next B2)))
    have HI := Lib.hid (fun (w : World) (t : Int) (I : IntsAt w xa xl ls ∧ IntsAt w ya yl lo ∧ IntsAt w za zl hi) => implGridSize ⟨xa, xl, xc⟩ ⟨ya, yl, yc⟩ ⟨za, zl, zc⟩ ls lo hi t w I.1 I.2.1 I.2.2 (by show xl ≤ _; omega) (by show yl ≤ _; omega) (by show zl ≤ _; omega))
    have HS := Lib.hid (fun (w : World) (t : Int) (I : IntsAt w xa xl ls ∧ IntsAt w ya yl lo ∧ IntsAt w za zl hi) => specGridSize ⟨xa, xl, xc⟩ ⟨ya, yl, yc⟩ ⟨za, zl, zc⟩ ls lo hi t w I.1 I.2.1 I.2.2 (by show xl ≤ _; omega) (by show yl ≤ _; omega) (by show zl ≤ _; omega))
    obtain ⟨V, hV⟩ : ∃ V, w1.heap.size = V := ⟨_, rfl⟩
    rw [hV] at P2
    clear i1 i2 i3 hB B2 h hsm
    go_upto_region 4 with fail
    clear hV
    generalize w1.alloc (.cells #[.slice xa xl xc, .slice ya yl yc, .slice za zl zc] 25) = w2 at *
    obtain ⟨_, c0, c1, c2, _, _, _⟩ := id P2
    have HI2 := Lib.hid (HI.out w2 s I2.out)
    obtain ⟨p, hp⟩ : ∃ p, gridX ls lo hi s = p := ⟨_, rfl⟩
    obtain ⟨q, hq⟩ : ∃ q, gridY ls lo hi s = q := ⟨_, rfl⟩
    have HPQ := Lib.hid (And.intro hp hq)
    rw [hp, hq] at HI2
    clear hp hq
    go_wp2_with fail
    refine HI2.out.mono ?_
    rintro e w3 ⟨rfl, B3⟩
    have P3 := P2.next B3
    have I3 := Lib.hid (And.intro (I2.out.1.next B3) (And.intro (I2.out.2.1.next B3) (I2.out.2.2.next B3)))
    have HB3 := Lib.hid (below_call HB2.out B3)
    have HS3 := Lib.hid (HS.out w3 s I3.out)
    rw [HPQ.out.1, HPQ.out.2] at HS3
    clear c0 c1 c2 P2 I2 HB2 HI2 HS B3
    obtain ⟨_, c0, c1, c2, _, _, _⟩ := id P3
    go_wp2_with fail
    refine HS3.out.mono ?_
    rintro e w4 ⟨rfl, B4⟩
    have P4 := P3.next B4
    have I4 := Lib.hid (And.intro (I3.out.1.next B4) (And.intro (I3.out.2.1.next B4) (I3.out.2.2.next B4)))
    have HB4 := Lib.hid (below_call HB3.out B4)
    have e1 : (p != p) = false := by simp
    have e2 : (q != q) = false := by simp
    clear c0 c1 c2 P3 I3 HB3 HS3 B4
    by_cases hk : okGrid ls lo hi s
    · have hpos := grid_pos hk
      rw [HPQ.out.1, HPQ.out.2] at hpos
      have e3 : (p == 0) = false := by simp; omega
      have hs1 : 1 ≤ s ∧ s ≤ 360 := ⟨hk.2.2.1, hk.2.2.2.1⟩
      obtain ⟨t, ht⟩ : ∃ t, min 360 (s + 1) = t := ⟨_, rfl⟩
      have hco := grid_coarser hk (step' := t) (by omega) (by omega)
      rw [HPQ.out.1, HPQ.out.2] at hco
      have HI4 := Lib.hid (HI.out w4 t I4.out)
      obtain ⟨u, hu⟩ : ∃ u, gridX ls lo hi t = u := ⟨_, rfl⟩
      obtain ⟨v, hv⟩ : ∃ v, gridY ls lo hi t = v := ⟨_, rfl⟩
      rw [hu, hv] at HI4 hco
      obtain ⟨_, k1, k2, k3, k4⟩ := hco
      obtain ⟨k5, k6, k7, k8⟩ := hpos
      obtain ⟨_, c0, c1, c2, _, _, _⟩ := id P4
      clear hk hu hv HI P4 I4
      by_cases h36 : s < 359
      · obtain rfl : t = s + 1 := by omega
        have hlt : s + 1 < 360 := by omega
        clear ht h36
        go_wp2_with fail
        refine HI4.out.mono ?_
        rintro e w5 ⟨rfl, B5⟩
        have HB5 := Lib.hid (below_call HB4.out B5)
        clear B5 c0 c1 c2 HI4
        go_wp2
        go_ret
        exact ⟨rfl, HB5.out⟩
      have h37 : s = 359 ∨ s = 360 := by omega
      clear h36
      rcases h37 with rfl | rfl
      · obtain rfl : t = 360 := by omega
        clear ht
        go_wp2_with fail
        refine HI4.out.mono ?_
        rintro e w5 ⟨rfl, B5⟩
        have HB5 := Lib.hid (below_call HB4.out B5)
        clear B5 c0 c1 c2 HI4
        go_wp2
        go_ret
        exact ⟨rfl, HB5.out⟩
      · obtain rfl : t = 360 := by omega
        clear ht
        go_wp2_with fail
        refine HI4.out.mono ?_
        rintro e w5 ⟨rfl, B5⟩
        have HB5 := Lib.hid (below_call HB4.out B5)
        clear B5 c0 c1 c2 HI4
        go_wp2
        go_ret
        exact ⟨rfl, HB5.out⟩
    · have hp0 : p = 0 := by rw [← HPQ.out.1, gridX_out hk]
      have hq0 : q = 0 := by rw [← HPQ.out.2, gridY_out hk]
      subst hp0 hq0
      clear hk
      go_wp2_with fail
      refine (alive _).mono ?_
      rintro e w' ⟨rfl, rfl⟩
      go_wp2
      go_ret
      exact ⟨rfl, HB4.out⟩
end Go.Proofs.Ytkogoflcacameaa
