/- The walk of the law FnJointsValid: it returns true at every code. -/
import Derived.Test.YtcfiojfegiemoaaDraw3j
import Derived.Test.YtcfiojfegiemoaaChain4
import Derived.Test.YtcfiojfegiemoaaWArmValid
import Derived.Outline
namespace Go.Proofs.Ytcfiojfegiemoaa
open Go.RowKit
attribute [local go_sem ↓] Go.wp_at_zero Go.wp_at_succ
theorem okLow {ls lo hi : List Int} (h : okArm ls lo hi) : okJoints ls lo hi lo := ⟨h, h.2.2.1, fun k hk => by have := (h.2.2.2.2 k (by rw [← h.2.2.1]; exact hk)).2.2.2.2.1; omega⟩
theorem okHigh {ls lo hi : List Int} (h : okArm ls lo hi) : okJoints ls lo hi hi := ⟨h, h.2.2.2.1, fun k hk => by have := (h.2.2.2.2 k (by rw [← h.2.2.2.1]; exact hk)).2.2.2.2.1; omega⟩
theorem noOver {ls lo hi : List Int} (h : okArm ls lo hi) : ¬ okJoints ls lo hi (hi.set 0 (hi.getD 0 0 + 1)) := fun k => by
  have h1 := h.1
  have h2 := h.2.2.2.1
  have h3 := (k.2.2 0 (by simp; omega)).2
  rw [List.getD_eq_getElem?_getD, List.getElem?_set] at h3
  simp at h3
  rw [if_pos (by omega)] at h3
  simp at h3
  omega
theorem noNone {ls lo hi : List Int} (h : okArm ls lo hi) : ¬ okJoints ls lo hi [] := fun k => by
  have h1 := h.1
  have h2 := k.2.1
  simp at h2
  omega
set_option maxHeartbeats 2000000 in
set_option maxRecDepth 100000 in
theorem walkFnJointsValid (w : World) (a : Option Addr) (len cap : Nat) (zs : List Int) (h : Bytes w a len cap zs) :
    Calls Try.prog 4 #[.slice a len cap] w fun e w' => e = .returned (.bool true) ∧ Below w.heap.size w w' := by
  obtain ⟨i0, hi0, hz0, hz1, hz2⟩ := info_parts infoInt
  have hle := h.len_le
  obtain ⟨hl, hm⟩ := hle
  unfold maxLen at hm
  by_cases hlen : len ≤ 1048576
  · go_enter Try.func4, Try.ntmps4
    go_wp2_with fail
    refine (drawJointsValid w a len cap zs h).mono ?_
    rintro e w1 ⟨⟨xa, xl, xc⟩, ⟨ya, yl, yc⟩, ⟨za, zl, zc⟩, ⟨sa, sl, sc⟩, ls, lo, hi, js, rfl, i1, i2, i3, i4, lx, ly, lz, ls4, kz, B1⟩
    simp only at i1 i2 i3 i4 lx ly lz ls4 kz
    have P := AtA.box w1 (.slice xa xl xc) (.slice ya yl yc) (.slice za zl zc) 25
    have Bx := below_box w1 (.cells #[.slice xa xl xc, .slice ya yl yc, .slice za zl zc] 25)
    replace i1 := i1.next Bx
    replace i2 := i2.next Bx
    replace i3 := i3.next Bx
    replace i4 := i4.next Bx
    have HB := Lib.hid (below_call B1 Bx)
    clear B1 Bx h
    have e0 : (decide (okJoints ls lo hi js) != decide (okJoints ls lo hi js)) = false := by simp
    go_wp2_with fail
    refine (implJointsValid ⟨xa, xl, xc⟩ ⟨ya, yl, yc⟩ ⟨za, zl, zc⟩ ⟨sa, sl, sc⟩ ls lo hi js _ i1 i2 i3 i4 (by simp only; omega) (by simp only; omega) (by simp only; omega) (by simp only; omega)).mono ?_
    generalize w1.alloc (.cells #[.slice xa xl xc, .slice ya yl yc, .slice za zl zc] 25) = w2 at *
    rintro e w3 ⟨rfl, B3⟩
    replace i1 := i1.next B3
    replace i2 := i2.next B3
    replace i3 := i3.next B3
    replace i4 := i4.next B3
    replace P := P.next B3
    replace HB := Lib.hid (below_call HB.out B3)
    clear B3
    obtain ⟨_, p1, p2, p3, _, _, _⟩ := id P
    go_wp2_with fail
    refine (specJointsValid ⟨xa, xl, xc⟩ ⟨ya, yl, yc⟩ ⟨za, zl, zc⟩ ⟨sa, sl, sc⟩ ls lo hi js _ i1 i2 i3 i4 (by simp only; omega) (by simp only; omega) (by simp only; omega) (by simp only; omega)).mono ?_
    rintro e w4 ⟨rfl, B4⟩
    replace i1 := i1.next B4
    replace i2 := i2.next B4
    replace i3 := i3.next B4
    replace i4 := i4.next B4
    replace P := P.next B4
    replace HB := Lib.hid (below_call HB.out B4)
    clear B4 p1 p2 p3
    by_cases hok : okArm ls lo hi
    · obtain ⟨_, p1, p2, p3, _, _, _⟩ := id P
      go_wp2_with fail
      refine (specArmValidY ⟨xa, xl, xc⟩ ⟨ya, yl, yc⟩ ⟨za, zl, zc⟩ ls lo hi _ i1 i2 i3 hok).mono ?_
      rintro e w5 ⟨rfl, B5⟩
      replace i1 := i1.next B5
      replace i2 := i2.next B5
      replace i3 := i3.next B5
      replace i4 := i4.next B5
      replace P := P.next B5
      replace HB := Lib.hid (below_call HB.out B5)
      clear B5 p1 p2 p3
      have m3 := i3.1
      have n3 : 1 ≤ zl := by rw [m3, hok.2.2.2.1]; exact hok.1
      obtain ⟨b3, o3, rfl, lt3, c3⟩ := i3.some n3
      obtain ⟨_, p1, p2, p3, _, _, _⟩ := id P
      have HN := Lib.hid (ints_news (i3.next (below_box w5 (.cells #[] 3))))
      have HNL := Lib.hid (show (vals hi).length = zl * 1 by simp [vals]; omega)
      have O0 : (w5.alloc (.cells #[] 3)).ownsRow w5.heap.size 3 1 (.slice (some ⟨w5.heap.size, 0, none⟩) 0 0) 0 [] := by
        have := World.ownsRow_lit (base := w5.heap.size) (e := 3) (size := 1) w5 #[] 0 (Nat.le_refl _) (Nat.zero_le _) rfl
        simpa using this
      have HO := Lib.hid O0
      have HBl := Lib.hid (below_box w5 (.cells #[] 3))
      have HH := Lib.hid HBl.out.size
      have hh0 := (hok.2.2.2.2 0 (by have := hok.1; omega)).2.2.2.2.2
      have hl0 := (hok.2.2.2.2 0 (by have := hok.1; omega)).2.2
      have HL := Lib.hid (okLow hok)
      have HG := Lib.hid (okHigh hok)
      have HV := Lib.hid (noOver hok)
      have HE := Lib.hid (noNone hok)
      have HM := Lib.hid m3
      have hd := c3 0 (by omega)
      have HI := Lib.hid (And.intro i1 (And.intro i2 i3))
      clear i1 i2 i3 i4 O0 c3 hok m3 e0
      go_upto_region 10 with (at_builtin; refine wpList_append_lies _ rfl (.tmp 31) (.tmp 33) 23 rfl w5.heap.size 3 i0 (.int .i64 0) 1 8 Try.underlying23 hi0 hz0 hz1 hz2 rfl (by decide) (.slice (some ⟨w5.heap.size, 0, none⟩) 0 0) 0 [] rfl HO.out ⟨b3, o3, none⟩ zl zc (vals hi) rfl HNL.out HN.out (vals_one _) (by omega) (by unfold maxLen; omega) (by omega) HH.out _ rfl ?_; intro g cap6 w6 own6 grow6 at6 ltg6; have HA6 := Lib.hid (And.intro own6 grow6); clear own6 grow6 at6 ltg6)
      have e : hi.length = zl := HM.out.symm
      have o : w6.ownsRow w5.heap.size 3 1 (.slice (some ⟨g, 0, none⟩) zl cap6) zl (vals hi) := by have h := HA6.out.1; rw [Nat.zero_add] at h; simpa using h
      have HO6 : Hid (OwnI w6 w5.heap.size (.slice (some ⟨g, 0, none⟩) zl cap6) hi) := Lib.hid (by unfold OwnI; rw [e]; exact o)
      have HB6 : Below w5.heap.size w5 w6 := HBl.out.grown HA6.out.2 HBl.out.size (fun q hq => by simp [Value.ownBlock] at hq; omega)
      have d0 : w6.cell? ⟨g, 0, none⟩ = some (.int .i64 (hi.getD 0 0)) := by
        obtain ⟨b', o', h1, h2, h3⟩ := HO6.out.ints.some n3
        simp at h1
        obtain ⟨rfl, rfl⟩ := h1
        have := h3 0 (by omega)
        simpa using this
      have z0 := World.ownsRow.frozenAt o 0
      have hgw := (World.ownsRow.lt o g rfl).1
      have HS := Lib.hid (World.ownsRow.stored o 0 (.int .i64 (hi.getD 0 0 + 1)))
      have HO7 : Hid (OwnI (w6.setCell ⟨g, 0, none⟩ (.int .i64 (hi.getD 0 0 + 1))) w5.heap.size (.slice (some ⟨g, 0, none⟩) zl cap6) (hi.set 0 (hi.getD 0 0 + 1))) := Lib.hid (by unfold OwnI; rw [List.length_set, e, ← vals_set]; exact HS.out.1)
      have B7 := Lib.hid (HB6.setCell (p := ⟨g, 0, none⟩) hgw (.int .i64 (hi.getD 0 0 + 1)))
      clear o e HB6 HA6 HO6
      generalize hi.getD 0 0 = h0 at *
      go_upto_region 11 with fail
      generalize w6.setCell ⟨g, 0, none⟩ (.int .i64 (h0 + 1)) = w7 at *
      replace P := P.next B7.out
      replace HB := Lib.hid (below_call HB.out B7.out)
      have i1 := HI.out.1.next B7.out
      have i2 := HI.out.2.1.next B7.out
      have i3 := HI.out.2.2.next B7.out
      have i4 := HO7.out.ints
      clear d0 z0 p1 p2 p3 HI HS hd
      obtain ⟨_, p1, p2, p3, _, _, _⟩ := id P
      go_wp2_with fail
      refine (implJointsValid ⟨xa, xl, xc⟩ ⟨ya, yl, yc⟩ ⟨some ⟨b3, o3, none⟩, zl, zc⟩ ⟨ya, yl, yc⟩ ls lo hi lo _ i1 i2 i3 i2 (by simp only; omega) (by simp only; omega) (by simp only; omega) (by simp only; omega)).mono ?_
      rw [decide_eq_true HL.out]
      rintro e w8 ⟨rfl, B8⟩
      replace i1 := i1.next B8
      replace i2 := i2.next B8
      replace i3 := i3.next B8
      replace i4 := i4.next B8
      replace P := P.next B8
      replace HB := Lib.hid (below_call HB.out B8)
      clear B8 p1 p2 p3
      obtain ⟨_, p1, p2, p3, _, _, _⟩ := id P
      go_wp2_with fail
      refine (implJointsValid ⟨xa, xl, xc⟩ ⟨ya, yl, yc⟩ ⟨some ⟨b3, o3, none⟩, zl, zc⟩ ⟨some ⟨b3, o3, none⟩, zl, zc⟩ ls lo hi hi _ i1 i2 i3 i3 (by simp only; omega) (by simp only; omega) (by simp only; omega) (by simp only; omega)).mono ?_
      rw [decide_eq_true HG.out]
      rintro e w9 ⟨rfl, B9⟩
      replace i1 := i1.next B9
      replace i2 := i2.next B9
      replace i3 := i3.next B9
      replace i4 := i4.next B9
      replace P := P.next B9
      replace HB := Lib.hid (below_call HB.out B9)
      clear B9 p1 p2 p3
      obtain ⟨_, p1, p2, p3, _, _, _⟩ := id P
      go_wp2_with fail
      refine (implJointsValid ⟨xa, xl, xc⟩ ⟨ya, yl, yc⟩ ⟨some ⟨b3, o3, none⟩, zl, zc⟩ ⟨some ⟨g, 0, none⟩, zl, cap6⟩ ls lo hi (hi.set 0 (h0 + 1)) _ i1 i2 i3 i4 (by simp only; omega) (by simp only; omega) (by simp only; omega) (by simp only; omega)).mono ?_
      rw [decide_eq_false HV.out]
      rintro e wa ⟨rfl, Ba⟩
      replace i1 := i1.next Ba
      replace i2 := i2.next Ba
      replace i3 := i3.next Ba
      replace i4 := i4.next Ba
      replace P := P.next Ba
      replace HB := Lib.hid (below_call HB.out Ba)
      clear Ba p1 p2 p3
      obtain ⟨_, p1, p2, p3, _, _, _⟩ := id P
      go_wp2_with fail
      refine (implJointsValid ⟨xa, xl, xc⟩ ⟨ya, yl, yc⟩ ⟨some ⟨b3, o3, none⟩, zl, zc⟩ ⟨none, 0, 0⟩ ls lo hi [] _ i1 i2 i3 ⟨rfl, .inl rfl⟩ (by simp only; omega) (by simp only; omega) (by simp only; omega) (by simp only; omega)).mono ?_
      rw [decide_eq_false HE.out]
      rintro e wb ⟨rfl, Bb⟩
      replace i1 := i1.next Bb
      replace i2 := i2.next Bb
      replace i3 := i3.next Bb
      replace i4 := i4.next Bb
      replace P := P.next Bb
      replace HB := Lib.hid (below_call HB.out Bb)
      clear Bb p1 p2 p3
      clear i1 i2 i3 i4 P
      go_wp2
      go_ret
      exact ⟨rfl, HB.out⟩
    · have HD := Lib.hid (decide_eq_false (show ¬ okJoints ls lo hi js from fun k => hok k.1))
      obtain ⟨_, p1, p2, p3, _, _, _⟩ := id P
      go_wp2_with fail
      refine (specArmValidN ⟨xa, xl, xc⟩ ⟨ya, yl, yc⟩ ⟨za, zl, zc⟩ ls lo hi _ i1 i2 i3 hok (by simp only; omega) (by simp only; omega) (by simp only; omega)).mono ?_
      rintro e w5 ⟨rfl, B5⟩
      replace i1 := i1.next B5
      replace i2 := i2.next B5
      replace i3 := i3.next B5
      replace i4 := i4.next B5
      replace P := P.next B5
      replace HB := Lib.hid (below_call HB.out B5)
      clear B5 p1 p2 p3
      clear i1 i2 i3 i4 P hok e0
      rw [HD.out]
      go_wp2_with fail
      refine (alive _).mono ?_
      rintro e w' ⟨rfl, rfl⟩
      go_wp2
      go_ret
      exact ⟨rfl, HB.out⟩
  · clear h
    go_enter Try.func4, Try.ntmps4
    go_wp2
    go_ret
    exact ⟨rfl, Below.refl _ _⟩
end Go.Proofs.Ytcfiojfegiemoaa
