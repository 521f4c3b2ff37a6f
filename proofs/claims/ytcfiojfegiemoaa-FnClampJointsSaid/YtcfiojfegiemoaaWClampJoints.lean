/- The walk of the law FnClampJoints: it returns true at every code. -/
import Derived.Test.YtcfiojfegiemoaaDraw3c
import Derived.Test.YtcfiojfegiemoaaChain4
import Derived.Outline
namespace Go.Proofs.Ytcfiojfegiemoaa
open Go.RowKit
attribute [local go_sem ↓] Go.wp_at_zero Go.wp_at_succ
theorem clampV_len4 (ls lo hi js : List Int) : (clampV ls lo hi js).length ≤ 4 := by
  unfold clampV
  split
  · rename_i h; rw [clampL_len, h.2]; exact h.1.2.1
  · simp
theorem clip_bd {d o h : Int} (hr : o ≤ h) : o ≤ clip d o h ∧ clip d o h ≤ h := by unfold clip; omega
theorem clampL_getD (lo hi js : List Int) (k : Nat) (h : k < js.length) : (clampL lo hi js).getD k 0 = clip (js.getD k 0) (lo.getD k 0) (hi.getD k 0) := by
  rw [List.getD_eq_getElem?_getD, clampL_at lo hi js k h]; rfl
theorem clamp_ok {ls lo hi js : List Int} (h : okArm ls lo hi) (hl : js.length = ls.length) : okJoints ls lo hi (clampL lo hi js) :=
  ⟨h, by rw [clampL_len, hl], fun k hk => by rw [clampL_len] at hk; rw [clampL_getD lo hi js k hk]; exact clip_bd (h.2.2.2.2 k (by omega)).2.2.2.2.1⟩
theorem clamp_same {ls lo hi js : List Int} (h : okJoints ls lo hi js) : clampL lo hi js = js := by
  apply List.ext_getElem?
  intro k
  by_cases hk : k < js.length
  · rw [clampL_at lo hi js k hk, clip_in (h.2.2 k hk).1 (h.2.2 k hk).2, List.getD_eq_getElem?_getD, List.getElem?_eq_getElem hk]; rfl
  · rw [List.getElem?_eq_none (by rw [clampL_len]; omega), List.getElem?_eq_none (by omega)]
set_option maxHeartbeats 2000000 in
set_option maxRecDepth 100000 in
theorem walkFnClampJoints (w : World) (a : Option Addr) (len cap : Nat) (zs : List Int) (h : Bytes w a len cap zs) :
    Calls Try.prog 6 #[.slice a len cap] w fun e w' => e = .returned (.bool true) ∧ Below w.heap.size w w' := by
  obtain ⟨i0, hi0, hz0, hz1, hz2⟩ := info_parts infoInt
  have hle := h.len_le
  obtain ⟨hl, hm⟩ := hle
  unfold maxLen at hm
  by_cases hlen : len ≤ 1048576
  · go_enter Try.func6, Try.ntmps6
    go_wp2_with fail
    refine (drawClampJoints w a len cap zs h).mono ?_
    rintro e w1 ⟨⟨xa, xl, xc⟩, ⟨ya, yl, yc⟩, ⟨za, zl, zc⟩, ⟨sa, sl, sc⟩, ls, lo, hi, js, rfl, i1, i2, i3, i4, lx, ly, lz, ls4, kz, B1⟩
    simp only at i1 i2 i3 i4 lx ly lz ls4 kz
    have P := AtA.box w1 (.slice xa xl xc) (.slice ya yl yc) (.slice za zl zc) 25
    have Bx := below_box w1 (.cells #[.slice xa xl xc, .slice ya yl yc, .slice za zl zc] 25)
    replace i1 := i1.next Bx
    replace i2 := i2.next Bx
    replace i3 := i3.next Bx
    replace i4 := i4.next Bx
    have HB := Lib.hid (below_call B1 Bx)
    clear B1 Bx h
    go_wp2_with fail
    refine (implClampJoints ⟨xa, xl, xc⟩ ⟨ya, yl, yc⟩ ⟨za, zl, zc⟩ ⟨sa, sl, sc⟩ ls lo hi js _ i1 i2 i3 i4 (by simp only; omega) (by simp only; omega) (by simp only; omega) (by simp only; omega)).mono ?_
    generalize w1.alloc (.cells #[.slice xa xl xc, .slice ya yl yc, .slice za zl zc] 25) = w2 at *
    rintro e w3 ⟨⟨ca, cl, cc⟩, rfl, O3, e3, B3⟩
    replace i1 := i1.next B3
    replace i2 := i2.next B3
    replace i3 := i3.next B3
    replace i4 := i4.next B3
    replace P := P.next B3
    replace HB := Lib.hid (below_call HB.out B3)
    simp only at O3 e3
    have i5 := O3.ints
    replace e3 := Lib.hid e3
    clear O3
    clear B3
    obtain ⟨_, p1, p2, p3, _, _, _⟩ := id P
    go_wp2_with fail
    refine (specClampJoints ⟨xa, xl, xc⟩ ⟨ya, yl, yc⟩ ⟨za, zl, zc⟩ ⟨sa, sl, sc⟩ ls lo hi js _ i1 i2 i3 i4 (by simp only; omega) (by simp only; omega) (by simp only; omega) (by simp only; omega)).mono ?_
    rintro e w4 ⟨⟨da, dl, dc⟩, rfl, O4, e4, B4⟩
    replace i1 := i1.next B4
    replace i2 := i2.next B4
    replace i3 := i3.next B4
    replace i4 := i4.next B4
    replace i5 := i5.next B4
    replace P := P.next B4
    replace HB := Lib.hid (below_call HB.out B4)
    simp only at O4 e4
    obtain rfl : cl = dl := by rw [e3.out, e4]
    have i6 := O4.ints
    clear O4 e4
    clear B4 p1 p2 p3
    have hcl : cl ≤ 4 := by rw [e3.out]; exact clampV_len4 ls lo hi js
    go_wp2_with fail
    refine (sameInts ca da cl cl cc dc (clampV ls lo hi js) _ i5 i6 (by omega)).mono ?_
    rintro e w5 ⟨rfl, B5⟩
    replace i1 := i1.next B5
    replace i2 := i2.next B5
    replace i3 := i3.next B5
    replace i4 := i4.next B5
    replace i5 := i5.next B5
    replace P := P.next B5
    replace HB := Lib.hid (below_call HB.out B5)
    clear B5 i6
    by_cases hv : okArm ls lo hi ∧ js.length = ls.length
    · have HV := Lib.hid hv
      have ec : ((cl : Int) == 0) = false := by
        have h1 := hv.1.1
        have h2 := e3.out
        rw [clampV_in hv, clampL_len] at h2
        simp; omega
      rw [clampV_in hv] at i5 e3
      have HK := Lib.hid (clamp_ok hv.1 hv.2)
      clear hv
      obtain ⟨_, p1, p2, p3, _, _, _⟩ := id P
      go_wp2_with fail
      refine (implJointsValid ⟨xa, xl, xc⟩ ⟨ya, yl, yc⟩ ⟨za, zl, zc⟩ ⟨ca, cl, cc⟩ ls lo hi (clampL lo hi js) _ i1 i2 i3 i5 (by simp only; omega) (by simp only; omega) (by simp only; omega) (by simp only; omega)).mono ?_
      rw [decide_eq_true HK.out]
      rintro e w6 ⟨rfl, B6⟩
      replace i1 := i1.next B6
      replace i2 := i2.next B6
      replace i3 := i3.next B6
      replace i4 := i4.next B6
      replace i5 := i5.next B6
      replace P := P.next B6
      replace HB := Lib.hid (below_call HB.out B6)
      clear B6 p1 p2 p3
      obtain ⟨_, p1, p2, p3, _, _, _⟩ := id P
      go_wp2_with fail
      refine (implClampJoints ⟨xa, xl, xc⟩ ⟨ya, yl, yc⟩ ⟨za, zl, zc⟩ ⟨ca, cl, cc⟩ ls lo hi (clampL lo hi js) _ i1 i2 i3 i5 (by simp only; omega) (by simp only; omega) (by simp only; omega) (by simp only; omega)).mono ?_
      rintro e w7 ⟨⟨fa, fl, fc⟩, rfl, O7, e7, B7⟩
      replace i1 := i1.next B7
      replace i2 := i2.next B7
      replace i3 := i3.next B7
      replace i4 := i4.next B7
      replace i5 := i5.next B7
      replace P := P.next B7
      replace HB := Lib.hid (below_call HB.out B7)
      simp only at O7 e7
      have i7 := O7.ints
      rw [clampV_in ⟨HV.out.1, HK.out.2.1⟩, clamp_same HK.out] at i7 e7
      obtain rfl : cl = fl := by rw [e7, e3.out]
      clear O7 e7
      clear B7 p1 p2 p3
      go_wp2_with fail
      refine (sameInts fa ca cl cl fc cc (clampL lo hi js) _ i7 i5 (by omega)).mono ?_
      rintro e w8 ⟨rfl, B8⟩
      replace i1 := i1.next B8
      replace i2 := i2.next B8
      replace i3 := i3.next B8
      replace i4 := i4.next B8
      replace i5 := i5.next B8
      replace P := P.next B8
      replace HB := Lib.hid (below_call HB.out B8)
      clear B8 i7
      by_cases hj : okJoints ls lo hi js
      · obtain ⟨_, p1, p2, p3, _, _, _⟩ := id P
        go_wp2_with fail
        refine (implJointsValid ⟨xa, xl, xc⟩ ⟨ya, yl, yc⟩ ⟨za, zl, zc⟩ ⟨sa, sl, sc⟩ ls lo hi js _ i1 i2 i3 i4 (by simp only; omega) (by simp only; omega) (by simp only; omega) (by simp only; omega)).mono ?_
        rw [decide_eq_true hj]
        rintro e w9 ⟨rfl, B9⟩
        replace i1 := i1.next B9
        replace i2 := i2.next B9
        replace i3 := i3.next B9
        replace i4 := i4.next B9
        replace i5 := i5.next B9
        replace P := P.next B9
        replace HB := Lib.hid (below_call HB.out B9)
        clear B9 p1 p2 p3
        rw [clamp_same hj] at i5
        obtain rfl : sl = cl := by rw [i4.1, i5.1]
        go_wp2_with fail
        refine (sameInts ca sa sl sl cc sc js _ i5 i4 (by omega)).mono ?_
        rintro e wa ⟨rfl, Ba⟩
        replace i1 := i1.next Ba
        replace i2 := i2.next Ba
        replace i3 := i3.next Ba
        replace i4 := i4.next Ba
        replace i5 := i5.next Ba
        replace P := P.next Ba
        replace HB := Lib.hid (below_call HB.out Ba)
        clear Ba
        clear i1 i2 i3 i4 i5 P hj
        go_wp2
        go_ret
        exact ⟨rfl, HB.out⟩
      · obtain ⟨_, p1, p2, p3, _, _, _⟩ := id P
        go_wp2_with fail
        refine (implJointsValid ⟨xa, xl, xc⟩ ⟨ya, yl, yc⟩ ⟨za, zl, zc⟩ ⟨sa, sl, sc⟩ ls lo hi js _ i1 i2 i3 i4 (by simp only; omega) (by simp only; omega) (by simp only; omega) (by simp only; omega)).mono ?_
        rw [decide_eq_false hj]
        rintro e w9 ⟨rfl, B9⟩
        replace i1 := i1.next B9
        replace i2 := i2.next B9
        replace i3 := i3.next B9
        replace i4 := i4.next B9
        replace i5 := i5.next B9
        replace P := P.next B9
        replace HB := Lib.hid (below_call HB.out B9)
        clear B9 p1 p2 p3
        clear i1 i2 i3 i4 i5 P hj
        go_wp2
        go_ret
        exact ⟨rfl, HB.out⟩
    · obtain rfl : cl = 0 := by rw [e3.out, clampV_out hv]; rfl
      clear i1 i2 i3 i4 i5 P hv
      go_wp2_with fail
      refine (alive _).mono ?_
      rintro e w' ⟨rfl, rfl⟩
      go_wp2
      go_ret
      exact ⟨rfl, HB.out⟩
  · clear h
    go_enter Try.func6, Try.ntmps6
    go_wp2
    go_ret
    exact ⟨rfl, Below.refl _ _⟩
end Go.Proofs.Ytcfiojfegiemoaa
