/- The walk of the law FnArmClear: it returns true at every code. -/
import Derived.Test.YtcifokihellcdaaDoorDa10
import Derived.Test.YtcifokihellcdaaDoorZb10f
namespace Go.Proofs.YtcifokihellcdaaDoor
set_option maxRecDepth 100000
open Go.RowKit
attribute [local go_sem ↓] Go.wp_at_zero Go.wp_at_succ
theorem base_pl (w : World) (T : TypeId) : PL (w.alloc (.cells #[.int .i64 (-1), .int .i64 (-1), .int .i64 1, .int .i64 (-1), .int .i64 0, .int .i64 1] T)) (some ⟨w.heap.size, 0, none⟩) 3 baseT := by
  refine ⟨rfl, .inr ⟨w.heap.size, 0, rfl, by simp, fun i hi => ?_⟩⟩
  have hi' : i = 0 ∨ i = 1 ∨ i = 2 := by omega
  rcases hi' with rfl | rfl | rfl <;> simp [cor, baseT]
set_option maxHeartbeats 8000000 in
theorem walkFnArmClear (w : World) (tab : TabAt w) (a : Option Addr) (len cap : Nat) (zs : List Int) (h : Bytes w a len cap zs) :
    Calls Tryd.prog 3 #[.slice a len cap] w fun e w' => e = .returned (.bool true) ∧ Below w.heap.size w w' := by
  have hle := h.len_le
  obtain ⟨hl, hm⟩ := hle
  unfold maxLen at hm
  by_cases hbig : 1048576 < len
  · clear tab
    go_enter Tryd.func3, Tryd.ntmps3
    go_wp2
    go_ret
    exact ⟨rfl, Below.refl _ _⟩
  have HT := Lib.hid tab
  clear tab
  go_enter Tryd.func3, Tryd.ntmps3
  go_wp2_with fail
  refine (drawArmClear w a len cap zs h).mono ?_
  rintro e w0 ⟨⟨xa, xl, xc⟩, ⟨ya, yl, yc⟩, ⟨za, zl, zc⟩, ⟨ja, jl, jc⟩, ⟨sa, sl, sc⟩, ls, lo, hi, js, pss, rfl, ⟨i1, i2, i3, i4, i5⟩, ⟨lx, ly, lz, lj, lsl⟩, hcap, hb⟩
  simp only at i1 i2 i3 i4 i5 lx ly lz lj lsl hcap
  clear h hl hm hbig
  have Bx := below_box w0 (.cells #[.slice xa xl xc, .slice ya yl yc, .slice za zl zc] 25)
  have HB := Lib.hid (below_call hb Bx)
  have HX := Lib.hid (AtA.box w0 (.slice xa xl xc) (.slice ya yl yc) (.slice za zl zc) 25)
  have HI := Lib.hid (And.intro (i1.next Bx) (And.intro (i2.next Bx) (And.intro (i3.next Bx) (And.intro (i4.next Bx) (i5.next Bx)))))
  clear i1 i2 i3 i4 i5 hb Bx
  go_upto_region 4 with fail
  generalize w0.alloc (.cells #[.slice xa xl xc, .slice ya yl yc, .slice za zl zc] 25) = w1 at *
  generalize w0.heap.size = vp at *
  have HTB := Lib.hid (fun (u : World) (hu : Below w1.heap.size w1 u) => HT.out.below (below_call HB.out hu) HT.out.lt)
  have HAC := Lib.hid (fun (s : Sl) (qss : List (List P2)) (v : Bool) (hv : decide (armV ls lo hi js qss) = v) (u : World) (hu : Below w1.heap.size w1 u) (hp : PSS u s.a s.len qss) (hs : s.len ≤ 100) => show Calls Tryd.prog 10 #[av ⟨xa, xl, xc⟩ ⟨ya, yl, yc⟩ ⟨za, zl, zc⟩, .slice ja jl jc, .slice s.a s.len s.cap] u fun e w' => e = .returned (.bool v) ∧ Below u.heap.size u w' from
    hv ▸ implArmClear ⟨xa, xl, xc⟩ ⟨ya, yl, yc⟩ ⟨za, zl, zc⟩ ⟨ja, jl, jc⟩ s ls lo hi js qss u (HTB.out u hu) (HI.out.1.next hu) (HI.out.2.1.next hu) (HI.out.2.2.1.next hu) (HI.out.2.2.2.1.next hu) hp (by simp only; omega) (by simp only; omega) (by simp only; omega) (by simp only; omega) (by omega))
  obtain ⟨v, hv⟩ : ∃ v, decide (armV ls lo hi js pss) = v := ⟨_, rfl⟩
  have HVV := Lib.hid hv
  have e0 : (v != v) = false := by simp
  clear hv
  obtain ⟨_, c0, c1, c2, _, _, _⟩ := HX.out
  go_wp2_with fail
  refine (HAC.out ⟨sa, sl, sc⟩ pss v HVV.out w1 (Below.refl _ _) HI.out.2.2.2.2 (by simp only; omega)).mono ?_
  rintro e w2 ⟨rfl, B2⟩
  have HW2 := Lib.hid B2
  clear c0 c1 c2 B2
  obtain ⟨_, c0, c1, c2, _, _, _⟩ := HX.out.next HW2.out
  have HSP := Lib.hid (specArmClear ⟨xa, xl, xc⟩ ⟨ya, yl, yc⟩ ⟨za, zl, zc⟩ ⟨ja, jl, jc⟩ ⟨sa, sl, sc⟩ ls lo hi js pss w2 (HI.out.1.next HW2.out) (HI.out.2.1.next HW2.out) (HI.out.2.2.1.next HW2.out) (HI.out.2.2.2.1.next HW2.out) (HI.out.2.2.2.2.next HW2.out) (by simp only; omega) (by simp only; omega) (by simp only; omega) (by simp only; omega) (by simp only; omega))
  rw [HVV.out] at HSP
  go_wp2_with fail
  refine HSP.out.mono ?_
  rintro e w3 ⟨rfl, B3⟩
  have HW3 := Lib.hid (below_call HW2.out B3)
  clear c0 c1 c2 B3 HSP
  obtain ⟨_, c0, c1, c2, _, _, _⟩ := HX.out.next HW3.out
  have HJV := Lib.hid (specJointsValid ⟨xa, xl, xc⟩ ⟨ya, yl, yc⟩ ⟨za, zl, zc⟩ ⟨ja, jl, jc⟩ ls lo hi js w3 (HI.out.1.next HW3.out) (HI.out.2.1.next HW3.out) (HI.out.2.2.1.next HW3.out) (HI.out.2.2.2.1.next HW3.out) (by simp only; omega) (by simp only; omega) (by simp only; omega) (by simp only; omega))
  by_cases hk : okJoints ls lo hi js
  rotate_left
  · rw [decide_eq_false hk] at HJV
    obtain rfl : v = false := by rw [← HVV.out]; exact decide_eq_false (fun q => hk q.1)
    clear hk
    go_wp2_with fail
    refine HJV.out.mono ?_
    rintro e w4 ⟨rfl, B4⟩
    have HW4 := Lib.hid (below_call HW3.out B4)
    clear c0 c1 c2 B4 HJV
    go_wp2_with fail
    refine (alive _).mono ?_
    rintro e w' ⟨rfl, rfl⟩
    go_wp2
    go_ret
    exact ⟨rfl, below_call HB.out HW4.out⟩
  rw [decide_eq_true hk] at HJV
  have HK := Lib.hid hk
  clear hk
  go_wp2_with fail
  refine HJV.out.mono ?_
  rintro e w4 ⟨rfl, B4⟩
  have HW4 := Lib.hid (below_call HW3.out B4)
  clear c0 c1 c2 B4 HJV
  have HSV := Lib.hid (specSceneValid sa sl sc pss w4 (HI.out.2.2.2.2.next HW4.out) (by omega))
  by_cases hs : scnV pss
  rotate_left
  · rw [decide_eq_false hs] at HSV
    obtain rfl : v = false := by rw [← HVV.out]; exact decide_eq_false (fun q => hs q.2.1)
    clear hs
    go_wp2_with fail
    refine HSV.out.mono ?_
    rintro e w5 ⟨rfl, B5⟩
    have HW5 := Lib.hid (below_call HW4.out B5)
    clear B5 HSV
    go_wp2_with fail
    refine (alive _).mono ?_
    rintro e w' ⟨rfl, rfl⟩
    go_wp2
    go_ret
    exact ⟨rfl, below_call HB.out HW5.out⟩
  rw [decide_eq_true hs] at HSV
  clear hs
  go_wp2_with fail
  refine HSV.out.mono ?_
  rintro e w5 ⟨rfl, B5⟩
  have HW5 := Lib.hid (below_call HW4.out B5)
  clear B5 HSV
  have B6 := below_box2 w5 (.cells #[.int .i64 (-1), .int .i64 (-1), .int .i64 1, .int .i64 (-1), .int .i64 0, .int .i64 1] 34) (.cells #[.slice (some ⟨w5.heap.size, 0, none⟩) 3 3] 35)
  have HW6 := Lib.hid (below_call HW5.out B6)
  have HBS := Lib.hid (PSS.one (s := ⟨some ⟨w5.heap.size, 0, none⟩, 3, 3⟩) (base_pl w5 34) (by simp) 35)
  rw [World.size_alloc] at HBS
  clear B6
  go_upto_region 10 with fail
  generalize (w5.alloc (.cells #[.int .i64 (-1), .int .i64 (-1), .int .i64 1, .int .i64 (-1), .int .i64 0, .int .i64 1] 34)).alloc (.cells #[.slice (some ⟨w5.heap.size, 0, none⟩) 3 3] 35) = w6 at *
  generalize w5.heap.size + 1 = bp at *
  obtain ⟨u0, u1, u2⟩ := (HX.out.next HW6.out).kepts
  have HN := Lib.hid (fun (q : Kept w6) => keptCall (HAC.out ⟨none, 0, 0⟩ [] true (decide_eq_true (armV_nil HK.out)) q.u (below_call HW6.out q.b) (PSS.nil q.u none) (by simp)))
  have HBC := Lib.hid (fun (q : Kept w6) => keptCall (HAC.out ⟨some ⟨bp, 0, none⟩, 1, 1⟩ [baseT] false (decide_eq_false (armV_base HK.out (by simp))) q.u (below_call HW6.out q.b) (HBS.out.next q.b) (by simp)))
  obtain ⟨kh, hkh⟩ : ∃ kh, sl / 2 = kh := ⟨_, rfl⟩
  have hkl : kh ≤ sl := by omega
  have q0 : (0 : Int) ≤ (kh : Int) := by omega
  have q2 : (kh : Int) ≤ (sc : Int) := by omega
  have q1 : IntKind.i64.wrap ((sl : Int) / 2) = (kh : Int) := by rw [show (sl : Int) / 2 = (kh : Int) by omega]; exact wrap_in (by omega) (by omega)
  clear hkh
  cases v with
  | true =>
    have HHF := Lib.hid (fun (q : Kept w6) => keptCall (HAC.out ⟨sa, kh, sc⟩ (pss.take kh) true (decide_eq_true ((of_decide_eq_true HVV.out).part (take_half pss kh).1 (take_half pss kh).2)) q.u (below_call HW6.out q.b) ((HI.out.2.2.2.2.next (below_call HW6.out q.b)).take10 hkl) (by simp only; omega)))
    clear hkl hcap HAC
    refine wp_region_kept (by kernel_rfl) (by kernel_rfl) ?_
    repeat (go_big_quiet_step ((first | (go_at_call 10; with_reducible exact HN.out _) | (go_at_call 10; with_reducible exact HHF.out _) | (go_at_call 10; with_reducible exact HBC.out _))))
    refine wpQuiet_nil ?_
    rintro w7 ⟨⟨_, K7⟩, rfl⟩
    have HW7 := Lib.hid (below_call HW6.out K7)
    clear K7 HN HBC HHF u0 u1 u2
    go_wp2
    go_ret
    exact ⟨rfl, below_call HB.out HW7.out⟩
  | false =>
    clear hkl hcap HAC
    refine wp_region_kept (by kernel_rfl) (by kernel_rfl) ?_
    repeat (go_big_quiet_step ((first | (go_at_call 10; with_reducible exact HN.out _) | (go_at_call 10; with_reducible exact HBC.out _))))
    refine wpQuiet_nil ?_
    rintro w7 ⟨⟨_, K7⟩, rfl⟩
    have HW7 := Lib.hid (below_call HW6.out K7)
    clear K7 HN HBC u0 u1 u2
    go_wp2
    go_ret
    exact ⟨rfl, below_call HB.out HW7.out⟩
end Go.Proofs.YtcifokihellcdaaDoor
