/- The walk of the law FnSelfClear: it returns true at every code. -/
import Derived.Test.YtcifokihellcdaaDoorDs10
import Derived.Test.YtcifokihellcdaaDoorZb10f
import Derived.Test.YtcifokihellcdaaDoorZbFx
namespace Go.Proofs.YtcifokihellcdaaDoor
set_option maxRecDepth 100000
open Go.RowKit
attribute [local go_sem ↓] Go.wp_at_zero Go.wp_at_succ
theorem NewB.put3' {n : Nat} {u : World} {z0 z1 z2 : Value} {f : Array Value} {t : TypeId} {b : Nat} (hb : n ≤ b) (h : Cells8 u b (if false = true then f else #[z0, z1, z2]) t) (x y z : Value) (hf : f = #[x, y, z]) : NewB n (((u.setCell ⟨b, 0, none⟩ x).setCell ⟨b, 1, none⟩ y).setCell ⟨b, 2, none⟩ z) true #[z0, z1, z2] f t (.pointer (some ⟨b, 0, none⟩)) := by
  subst hf
  exact ⟨b, rfl, hb, Cells8.set (cs := #[x, y, z2]) (Cells8.set (cs := #[x, z1, z2]) (Cells8.set (cs := #[z0, z1, z2]) h 0 x) 1 y) 2 z⟩
theorem getD_take1 {l : List Int} {k : Nat} (hk : k < 1) (d : Int) : (l.take 1).getD k d = l.getD k d := by
  rw [List.getD_eq_getElem?_getD, List.getD_eq_getElem?_getD, List.getElem?_take_of_lt hk]
theorem IntsAt.take1 {w : World} {a : Option Addr} {len : Nat} {zs : List Int} (h : IntsAt w a len zs) (hl : 1 ≤ len) : IntsAt w a 1 (zs.take 1) := by
  have hz := h.1
  refine ⟨by rw [List.length_take]; omega, ?_⟩
  obtain ⟨b, o, e, lt, c⟩ := h.some hl
  refine .inr ⟨b, o, e, lt, fun i hi => ?_⟩
  rw [List.length_take] at hi
  rw [getD_take1 (by omega)]
  exact c i (by omega)
theorem okJ_take1 {ls lo hi js : List Int} (h : okJoints ls lo hi js) : okJoints (ls.take 1) (lo.take 1) (hi.take 1) (js.take 1) := by
  obtain ⟨⟨n1, n2, n3, n4, n5⟩, h2, h3⟩ := h
  refine ⟨⟨by rw [List.length_take]; omega, by rw [List.length_take]; omega, by rw [List.length_take, List.length_take]; omega, by rw [List.length_take, List.length_take]; omega, fun k hk => ?_⟩, by rw [List.length_take, List.length_take]; omega, fun k hk => ?_⟩
  · rw [List.length_take] at hk
    rw [getD_take1 (by omega), getD_take1 (by omega), getD_take1 (by omega)]
    exact n5 k (by omega)
  · rw [List.length_take] at hk
    rw [getD_take1 (by omega), getD_take1 (by omega), getD_take1 (by omega)]
    exact h3 k (by omega)
theorem sel_take1 {ls lo hi js : List Int} (h : okJoints ls lo hi js) : selV (ls.take 1) (lo.take 1) (hi.take 1) (js.take 1) :=
  ⟨okJ_take1 h, slfV_short (by rw [ptsL_len, List.length_take]; omega)⟩
theorem zeros10 {w : World} {B n : Nat} {v : Value} (h : w.ownsRow B 3 1 v n (madeCells (Value.int .i64 0).cells (n * 1)).toList) (hv : v = .slice (some ⟨B, 0, none⟩) n n) : IntsAt w (some ⟨B, 0, none⟩) n (List.replicate n 0) := by
  subst hv
  refine ⟨by simp, ?_⟩
  by_cases h0 : n = 0
  · left; subst h0; rfl
  · right
    refine ⟨B, 0, rfl, (World.ownsRow.lt h B rfl).2, fun i hi => ?_⟩
    rw [List.length_replicate] at hi
    have c := h.cellAt i (by omega)
    have e : (madeCells (Value.int .i64 0).cells (n * 1)).toList[i]? = some (.int .i64 0) := by
      unfold madeCells
      show (Array.map _ (Array.range (n * 1))).toList[i]? = _
      rw [Array.toList_map, Array.toList_range, List.getElem?_map, List.getElem?_range (by omega)]
      show some ((#[Value.int .i64 0] : Array Value)[i % 1]!) = _
      rw [Nat.mod_one]; rfl
    rw [e] at c
    rw [Nat.zero_add, List.getD_eq_getElem?_getD, List.getElem?_replicate]
    simp only [hi, if_true]
    exact c
set_option maxHeartbeats 8000000 in
theorem walkFnSelfClear (w : World) (tab : TabAt w) (a : Option Addr) (len cap : Nat) (zs : List Int) (h : Bytes w a len cap zs) :
    Calls Tryd.prog 4 #[.slice a len cap] w fun e w' => e = .returned (.bool true) ∧ Below w.heap.size w w' := by
  obtain ⟨i0, hi0, hz0, hz1, hz2⟩ := info_parts infoInt
  have hle := h.len_le
  obtain ⟨hl, hm⟩ := hle
  unfold maxLen at hm
  by_cases hbig : 1048576 < len
  · clear tab
    go_enter Tryd.func4, Tryd.ntmps4
    go_wp2
    go_ret
    exact ⟨rfl, Below.refl _ _⟩
  have HT := Lib.hid tab
  clear tab
  go_enter Tryd.func4, Tryd.ntmps4
  go_wp2_with fail
  refine (drawSelfClear w a len cap zs h).mono ?_
  rintro e w0 ⟨⟨xa, xl, xc⟩, ⟨ya, yl, yc⟩, ⟨za, zl, zc⟩, ⟨ja, jl, jc⟩, ls, lo, hi, js, rfl, ⟨i1, i2, i3, i4⟩, ⟨lx, ly, lz, lj⟩, ⟨kx, ky, kz, kj⟩, hb⟩
  simp only at i1 i2 i3 i4 lx ly lz lj kx ky kz kj
  clear h hl hm hbig
  have Bx := below_box w0 (.cells #[.slice xa xl xc, .slice ya yl yc, .slice za zl zc] 25)
  have HB := Lib.hid (below_call hb Bx)
  have HX := Lib.hid (AtA.box w0 (.slice xa xl xc) (.slice ya yl yc) (.slice za zl zc) 25)
  have HI := Lib.hid (And.intro (i1.next Bx) (And.intro (i2.next Bx) (And.intro (i3.next Bx) (i4.next Bx))))
  clear i1 i2 i3 i4 hb Bx
  go_upto_region 4 with fail
  generalize w0.alloc (.cells #[.slice xa xl xc, .slice ya yl yc, .slice za zl zc] 25) = w1 at *
  generalize w0.heap.size = vp at *
  have HTB := Lib.hid (fun (u : World) (hu : Below w1.heap.size w1 u) => HT.out.below (below_call HB.out hu) HT.out.lt)
  have HSC := Lib.hid (fun (x y z j : Sl) (ls lo hi js : List Int) (v : Bool) (hv : decide (selV ls lo hi js) = v) (u : World) (hu : Below w1.heap.size w1 u) (hx : IntsAt u x.a x.len ls) (hy : IntsAt u y.a y.len lo) (hz : IntsAt u z.a z.len hi) (hj : IntsAt u j.a j.len js) (bx : x.len ≤ 100) (b_y : y.len ≤ 100) (bz : z.len ≤ 100) (bj : j.len ≤ 100) => show Calls Tryd.prog 16 #[av x y z, .slice j.a j.len j.cap] u fun e w' => e = .returned (.bool v) ∧ Below u.heap.size u w' from
    hv ▸ implSelfClear x y z j ls lo hi js u (HTB.out u hu) hx hy hz hj (by omega) (by omega) (by omega) (by omega))
  obtain ⟨v, hv⟩ : ∃ v, decide (selV ls lo hi js) = v := ⟨_, rfl⟩
  have HVV := Lib.hid hv
  have e0 : (v != v) = false := by simp
  clear hv
  obtain ⟨_, c0, c1, c2, _, _, _⟩ := HX.out
  go_wp2_with fail
  refine (HSC.out ⟨xa, xl, xc⟩ ⟨ya, yl, yc⟩ ⟨za, zl, zc⟩ ⟨ja, jl, jc⟩ ls lo hi js v HVV.out w1 (Below.refl _ _) HI.out.1 HI.out.2.1 HI.out.2.2.1 HI.out.2.2.2 (by simp only; omega) (by simp only; omega) (by simp only; omega) (by simp only; omega)).mono ?_
  rintro e w2 ⟨rfl, B2⟩
  have HW2 := Lib.hid B2
  clear c0 c1 c2 B2
  obtain ⟨_, c0, c1, c2, _, _, _⟩ := HX.out.next HW2.out
  have HSP := Lib.hid (specSelfClear ⟨xa, xl, xc⟩ ⟨ya, yl, yc⟩ ⟨za, zl, zc⟩ ⟨ja, jl, jc⟩ ls lo hi js w2 (HI.out.1.next HW2.out) (HI.out.2.1.next HW2.out) (HI.out.2.2.1.next HW2.out) (HI.out.2.2.2.next HW2.out) (by simp only; omega) (by simp only; omega) (by simp only; omega) (by simp only; omega))
  rw [HVV.out] at HSP
  go_wp2_with fail
  refine HSP.out.mono ?_
  rintro e w3 ⟨rfl, B3⟩
  have HW3 := Lib.hid (below_call HW2.out B3)
  clear c0 c1 c2 B3 HSP
  obtain ⟨_, c0, c1, c2, _, _, _⟩ := HX.out.next HW3.out
  have HJV := Lib.hid (specJointsValid ⟨xa, xl, xc⟩ ⟨ya, yl, yc⟩ ⟨za, zl, zc⟩ ⟨ja, jl, jc⟩ ls lo hi js w3 (HI.out.1.next HW3.out) (HI.out.2.1.next HW3.out) (HI.out.2.2.1.next HW3.out) (HI.out.2.2.2.next HW3.out) (by simp only; omega) (by simp only; omega) (by simp only; omega) (by simp only; omega))
  by_cases hk : okJoints ls lo hi js
  rotate_left
  · rw [decide_eq_false hk] at HJV
    obtain rfl : v = false := by rw [← HVV.out]; exact decide_eq_false (fun q => hk q.1)
    clear hk
    go_wp2_with fail
    refine HJV.out.mono ?_
    rintro e w4 ⟨rfl, B4⟩
    have HW4 := Lib.hid (below_call HW3.out B4)
    clear c0 c1 c2 B4 HJV
    go_wp2_with fail
    refine (alive _).mono ?_
    rintro e w' ⟨rfl, rfl⟩
    go_wp2
    go_ret
    exact ⟨rfl, below_call HB.out HW4.out⟩
  rw [decide_eq_true hk] at HJV
  have HK := Lib.hid hk
  have hx1 : 1 ≤ xl := by have k := HI.out.1.1; rw [k]; exact hk.1.1
  have hy1 : 1 ≤ yl := by have k := HI.out.2.1.1; rw [k, hk.1.2.2.1]; exact hk.1.1
  have hz1' : 1 ≤ zl := by have k := HI.out.2.2.1.1; rw [k, hk.1.2.2.2.1]; exact hk.1.1
  have hj1 : 1 ≤ jl := by have k := HI.out.2.2.2.1; rw [k, hk.2.1]; exact hk.1.1
  clear hk
  go_wp2_with fail
  refine HJV.out.mono ?_
  rintro e w4 ⟨rfl, B4⟩
  have HW4 := Lib.hid (below_call HW3.out B4)
  clear c0 c1 c2 B4 HJV
  have HX4 := Lib.hid (HX.out.next HW4.out)
  obtain ⟨bx, ox, rfl, _, _⟩ := HI.out.1.some (by omega)
  obtain ⟨by', oy, rfl, _, _⟩ := HI.out.2.1.some (by omega)
  obtain ⟨bz, oz, rfl, _, _⟩ := HI.out.2.2.1.some (by omega)
  obtain ⟨bj, oj, rfl, _, _⟩ := HI.out.2.2.2.some (by omega)
  have xc1 : (1 : Int) ≤ (xc : Int) := by omega
  have yc1 : (1 : Int) ≤ (yc : Int) := by omega
  have zc1 : (1 : Int) ≤ (zc : Int) := by omega
  have jc1 : (1 : Int) ≤ (jc : Int) := by omega
  have xc2 : 1 ≤ xc := by omega
  have yc2 : 1 ≤ yc := by omega
  have zc2 : 1 ≤ zc := by omega
  have jc2 : 1 ≤ jc := by omega
  have xc0 : ¬ xc = 0 := by omega
  have yc0 : ¬ yc = 0 := by omega
  have zc0 : ¬ zc = 0 := by omega
  have jc0 : ¬ jc = 0 := by omega
  go_upto_region 9 with fail
  refine wp_region_inv (fun listed act u => ∃ (l0 l1 l2 l3 l4 l5 l6 l7 l8 l9 l10 l11 : Bool) (v6 v33 v34 v35 v36 v37 v38 v39 v40 v41 v42 : Value), listed = #[l0, l1, l2, l3, l4, l5, l6, l7, l8, l9, l10, l11] ∧ act = { tmps := #[.slice a len cap, undef, .bool false, .pointer (some ⟨vp, 0, none⟩), .slice (some ⟨bj, oj, none⟩) jl jc, .bool v, v6, undef, .slice a len cap, .int .i64 (len : Int), .bool (decide ((1048576 : Int) < (len : Int))), .tuple #[av ⟨some ⟨bx, ox, none⟩, xl, xc⟩ ⟨some ⟨by', oy, none⟩, yl, yc⟩ ⟨some ⟨bz, oz, none⟩, zl, zc⟩, .slice (some ⟨bj, oj, none⟩) jl jc], .slice a len cap, .tuple #[av ⟨some ⟨bx, ox, none⟩, xl, xc⟩ ⟨some ⟨by', oy, none⟩, yl, yc⟩ ⟨some ⟨bz, oz, none⟩, zl, zc⟩, .slice (some ⟨bj, oj, none⟩) jl jc], av ⟨some ⟨bx, ox, none⟩, xl, xc⟩ ⟨some ⟨by', oy, none⟩, yl, yc⟩ ⟨some ⟨bz, oz, none⟩, zl, zc⟩, .slice (some ⟨bj, oj, none⟩) jl jc, .agg #[.slice (some ⟨bx, ox, none⟩) xl xc, .slice (some ⟨by', oy, none⟩) yl yc, .slice (some ⟨bz, oz, none⟩) zl zc], .slice (some ⟨bj, oj, none⟩) jl jc, .bool v, .bool v, .agg #[.slice (some ⟨bx, ox, none⟩) xl xc, .slice (some ⟨by', oy, none⟩) yl yc, .slice (some ⟨bz, oz, none⟩) zl zc], .slice (some ⟨bj, oj, none⟩) jl jc, .bool v, .bool false, .agg #[.slice (some ⟨bx, ox, none⟩) xl xc, .slice (some ⟨by', oy, none⟩) yl yc, .slice (some ⟨bz, oz, none⟩) zl zc], .slice (some ⟨bj, oj, none⟩) jl jc, .bool true, .bool false, undef, undef, undef, undef, undef, v33, v34, v35, v36, v37, v38, v39, v40, v41, v42, undef, undef, undef, undef, undef, undef, undef, undef, undef, undef, undef, undef, undef, undef, undef, undef, undef, undef], defers := [] } ∧ (l0 = true → v33 = .pointer (some ⟨vp, 0, none⟩)) ∧ (l1 = true → v34 = .slice (some ⟨bx, ox, none⟩) xl xc) ∧ (l2 = true → v35 = .slice (some ⟨bx, ox, none⟩) 1 xc) ∧ (l3 = true → v36 = .pointer (some ⟨vp, 1, none⟩)) ∧ (l4 = true → v37 = .slice (some ⟨by', oy, none⟩) yl yc) ∧ (l5 = true → v38 = .slice (some ⟨by', oy, none⟩) 1 yc) ∧ (l6 = true → v39 = .pointer (some ⟨vp, 2, none⟩)) ∧ (l7 = true → v40 = .slice (some ⟨bz, oz, none⟩) zl zc) ∧ (l8 = true → v41 = .slice (some ⟨bz, oz, none⟩) 1 zc) ∧ (l9 = true → v42 = av ⟨some ⟨bx, ox, none⟩, 1, xc⟩ ⟨some ⟨by', oy, none⟩, 1, yc⟩ ⟨some ⟨bz, oz, none⟩, 1, zc⟩) ∧ (l10 = true → NewB w4.heap.size u l11 #[.slice none 0 0, .slice none 0 0, .slice none 0 0] #[.slice (some ⟨bx, ox, none⟩) 1 xc, .slice (some ⟨by', oy, none⟩) 1 yc, .slice (some ⟨bz, oz, none⟩) 1 zc] 25 v6) ∧ (l11 = true → l10 = true) ∧ Below w4.heap.size w4 u) (by kernel_rfl) ?_ ?_ ?_ ?_ ?_
  · intro j o ho
    have hj : j < 12 := by rcases Nat.lt_or_ge j 12 with h | h; exact h; rw [Array.getElem?_eq_none (by simpa using h)] at ho; cases ho
    have hj2 : j = 0 ∨ j = 1 ∨ j = 2 ∨ j = 3 ∨ j = 4 ∨ j = 5 ∨ j = 6 ∨ j = 7 ∨ j = 8 ∨ j = 9 ∨ j = 10 ∨ j = 11 := by omega
    rcases hj2 with rfl | rfl | rfl | rfl | rfl | rfl | rfl | rfl | rfl | rfl | rfl | rfl
    all_goals
      cases ho
      decide
  · rintro listed act u ⟨l0, l1, l2, l3, l4, l5, l6, l7, l8, l9, l10, l11, v6, v33, v34, v35, v36, v37, v38, v39, v40, v41, v42, rfl, _⟩
    rfl
  · exact ⟨false, false, false, false, false, false, false, false, false, false, false, false, undef, undef, undef, undef, undef, undef, undef, undef, undef, undef, undef, rfl, rfl, (by intro h; cases h), (by intro h; cases h), (by intro h; cases h), (by intro h; cases h), (by intro h; cases h), (by intro h; cases h), (by intro h; cases h), (by intro h; cases h), (by intro h; cases h), (by intro h; cases h), (by intro h; cases h), (by intro h; cases h), (Below.refl _ _).drew⟩
  · intro listed act u i o hR ho hl hd
    obtain ⟨l0, l1, l2, l3, l4, l5, l6, l7, l8, l9, l10, l11, v6, v33, v34, v35, v36, v37, v38, v39, v40, v41, v42, rfl, rfl, c0, c1, c2, c3, c4, c5, c6, c7, c8, c9, c10, c11, HB⟩ := hR
    have hi : i < 12 := by rcases Nat.lt_or_ge i 12 with h | h; exact h; rw [Array.getElem?_eq_none (by simpa using h)] at ho; cases ho
    have hi2 : i = 0 ∨ i = 1 ∨ i = 2 ∨ i = 3 ∨ i = 4 ∨ i = 5 ∨ i = 6 ∨ i = 7 ∨ i = 8 ∨ i = 9 ∨ i = 10 ∨ i = 11 := by omega
    rcases hi2 with rfl | rfl | rfl | rfl | rfl | rfl | rfl | rfl | rfl | rfl | rfl | rfl
    all_goals (cases ho)
    · refine wpOp_step rfl (fun K hK => ?_)
      go_simp
      refine hK _ _ ?_
      exact ⟨true, l1, l2, l3, l4, l5, l6, l7, l8, l9, l10, l11, _, _, _, _, _, _, _, _, _, _, _, rfl, rfl, fun _ => rfl, c1, c2, c3, c4, c5, c6, c7, c8, c9, c10, c11, HB⟩
    · obtain rfl := c0 (hd { on := 0, ground := Ground.data } (by simp) rfl)
      obtain ⟨_, k0, k1, k2, _, _, _⟩ := HX4.out.next HB
      refine wpOp_step rfl (fun K hK => ?_)
      go_simp
      refine hK _ _ ?_
      exact ⟨l0, true, l2, l3, l4, l5, l6, l7, l8, l9, l10, l11, _, _, _, _, _, _, _, _, _, _, _, rfl, rfl, c0, fun _ => rfl, c2, c3, c4, c5, c6, c7, c8, c9, c10, c11, HB⟩
    · obtain rfl := c1 (hd { on := 1, ground := Ground.data } (by simp) rfl)
      refine wpOp_step rfl (fun K hK => ?_)
      go_simp
      refine hK _ _ ?_
      exact ⟨l0, l1, true, l3, l4, l5, l6, l7, l8, l9, l10, l11, _, _, _, _, _, _, _, _, _, _, _, rfl, rfl, c0, c1, fun _ => rfl, c3, c4, c5, c6, c7, c8, c9, c10, c11, HB⟩
    · refine wpOp_step rfl (fun K hK => ?_)
      go_simp
      refine hK _ _ ?_
      exact ⟨l0, l1, l2, true, l4, l5, l6, l7, l8, l9, l10, l11, _, _, _, _, _, _, _, _, _, _, _, rfl, rfl, c0, c1, c2, fun _ => rfl, c4, c5, c6, c7, c8, c9, c10, c11, HB⟩
    · obtain rfl := c3 (hd { on := 3, ground := Ground.data } (by simp) rfl)
      obtain ⟨_, k0, k1, k2, _, _, _⟩ := HX4.out.next HB
      refine wpOp_step rfl (fun K hK => ?_)
      go_simp
      refine hK _ _ ?_
      exact ⟨l0, l1, l2, l3, true, l5, l6, l7, l8, l9, l10, l11, _, _, _, _, _, _, _, _, _, _, _, rfl, rfl, c0, c1, c2, c3, fun _ => rfl, c5, c6, c7, c8, c9, c10, c11, HB⟩
    · obtain rfl := c4 (hd { on := 4, ground := Ground.data } (by simp) rfl)
      refine wpOp_step rfl (fun K hK => ?_)
      go_simp
      refine hK _ _ ?_
      exact ⟨l0, l1, l2, l3, l4, true, l6, l7, l8, l9, l10, l11, _, _, _, _, _, _, _, _, _, _, _, rfl, rfl, c0, c1, c2, c3, c4, fun _ => rfl, c6, c7, c8, c9, c10, c11, HB⟩
    · refine wpOp_step rfl (fun K hK => ?_)
      go_simp
      refine hK _ _ ?_
      exact ⟨l0, l1, l2, l3, l4, l5, true, l7, l8, l9, l10, l11, _, _, _, _, _, _, _, _, _, _, _, rfl, rfl, c0, c1, c2, c3, c4, c5, fun _ => rfl, c7, c8, c9, c10, c11, HB⟩
    · obtain rfl := c6 (hd { on := 6, ground := Ground.data } (by simp) rfl)
      obtain ⟨_, k0, k1, k2, _, _, _⟩ := HX4.out.next HB
      refine wpOp_step rfl (fun K hK => ?_)
      go_simp
      refine hK _ _ ?_
      exact ⟨l0, l1, l2, l3, l4, l5, l6, true, l8, l9, l10, l11, _, _, _, _, _, _, _, _, _, _, _, rfl, rfl, c0, c1, c2, c3, c4, c5, c6, fun _ => rfl, c8, c9, c10, c11, HB⟩
    · obtain rfl := c7 (hd { on := 7, ground := Ground.data } (by simp) rfl)
      refine wpOp_step rfl (fun K hK => ?_)
      go_simp
      refine hK _ _ ?_
      exact ⟨l0, l1, l2, l3, l4, l5, l6, l7, true, l9, l10, l11, _, _, _, _, _, _, _, _, _, _, _, rfl, rfl, c0, c1, c2, c3, c4, c5, c6, c7, fun _ => rfl, c9, c10, c11, HB⟩
    · obtain rfl := c2 (hd { on := 2, ground := Ground.data } (by simp) rfl)
      obtain rfl := c5 (hd { on := 5, ground := Ground.data } (by simp) rfl)
      obtain rfl := c8 (hd { on := 8, ground := Ground.data } (by simp) rfl)
      refine wpOp_step rfl (fun K hK => ?_)
      go_simp
      refine hK _ _ ?_
      exact ⟨l0, l1, l2, l3, l4, l5, l6, l7, l8, true, l10, l11, _, _, _, _, _, _, _, _, _, _, _, rfl, rfl, c0, c1, c2, c3, c4, c5, c6, c7, c8, fun _ => rfl, c10, c11, HB⟩
    · have e11 : l11 = false := by cases h : l11 with | false => rfl | true => exact absurd (c11 h) (by rw [show l10 = false from hl]; exact Bool.false_ne_true)
      subst e11
      refine wpOp_step rfl (fun K hK => ?_)
      go_simp
      refine hK _ _ ?_
      exact ⟨l0, l1, l2, l3, l4, l5, l6, l7, l8, l9, true, false, _, _, _, _, _, _, _, _, _, _, _, rfl, rfl, c0, c1, c2, c3, c4, c5, c6, c7, c8, c9, fun _ => NewB.new _ HB.size, fun _ => rfl, below_call HB (below_box _ _)⟩
    · obtain rfl := c9 (hd { on := 9, ground := Ground.data } (by simp) rfl)
      have q := c10 (hd { on := 10, ground := Ground.data } (by simp) rfl)
      rw [show l11 = false from hl] at q
      obtain ⟨b, rfl, hb, HQ⟩ := q
      have q0 := HQ.cell (i := 0) rfl
      have q1 := HQ.cell (i := 1) rfl
      have q2 := HQ.cell (i := 2) rfl
      have f0 := HQ.frozen (i := 0)
      have f1 := HQ.frozen (i := 1)
      have f2 := HQ.frozen (i := 2)
      refine wpOp_step rfl (fun K hK => ?_)
      go_simp
      refine hK _ _ ?_
      exact ⟨l0, l1, l2, l3, l4, l5, l6, l7, l8, l9, l10, true, _, _, _, _, _, _, _, _, _, _, _, rfl, rfl, c0, c1, c2, c3, c4, c5, c6, c7, c8, c9, fun _ => NewB.put3' hb HQ _ _ _ rfl, fun _ => (hd { on := 10, ground := Ground.data } (by simp) rfl), (((HB.setCell (p := ⟨b, 0, none⟩) hb _).setCell (p := ⟨b, 1, none⟩) hb _).setCell (p := ⟨b, 2, none⟩) hb _)⟩
  · rintro listed act u ⟨l0, l1, l2, l3, l4, l5, l6, l7, l8, l9, l10, l11, v6, v33, v34, v35, v36, v37, v38, v39, v40, v41, v42, rfl, rfl, c0, c1, c2, c3, c4, c5, c6, c7, c8, c9, c10, c11, HB⟩ hall
    obtain rfl := c0 (hall 0 (by decide))
    obtain rfl := c1 (hall 1 (by decide))
    obtain rfl := c2 (hall 2 (by decide))
    obtain rfl := c3 (hall 3 (by decide))
    obtain rfl := c4 (hall 4 (by decide))
    obtain rfl := c5 (hall 5 (by decide))
    obtain rfl := c6 (hall 6 (by decide))
    obtain rfl := c7 (hall 7 (by decide))
    obtain rfl := c8 (hall 8 (by decide))
    obtain rfl := c9 (hall 9 (by decide))
    obtain ⟨b6, rfl, hb6, HQ6⟩ := NewB.done (show l11 = true from hall 11 (by decide)) (c10 (hall 10 (by decide)))
    have HBR := Lib.hid HB
    have HN6 := Lib.hid HQ6
    clear c0 c1 c2 c3 c4 c5 c6 c7 c8 c9 c10 c11 HB HQ6 hall
    have HW5 := Lib.hid (below_call HW4.out HBR.out)
    have HX5 := Lib.hid (HX4.out.next HBR.out)
    have H6 := Lib.hid (show u.cell? ⟨b6, 0, none⟩ = some (.slice (some ⟨bx, ox, none⟩) 1 xc) ∧ u.cell? ⟨b6, 1, none⟩ = some (.slice (some ⟨by', oy, none⟩) 1 yc) ∧ u.cell? ⟨b6, 2, none⟩ = some (.slice (some ⟨bz, oz, none⟩) 1 zc) ∧ b6 < u.heap.size from ⟨HN6.out.cell (i := 0) rfl, HN6.out.cell (i := 1) rfl, HN6.out.cell (i := 2) rfl, HN6.out.lt⟩)
    clear HBR HN6 hb6
    go_wp2_with (first
      | (at_make; refine wpList_make_full _ rfl _ _ 23 rfl u.heap.size 3 i0 (.int .i64 0) 1 Tryd.underlying23 hi0 hz0 hz1 .i64 .i64 _ _ jl rfl rfl rfl rfl (by rw [hz2]; omega) (by unfold maxLen; omega) (Nat.le_refl _) ?_; intro w6 own6 grow6))
    have HZ6 := Lib.hid (zeros10 own6 rfl)
    have HK6 := Lib.hid ((Below.refl _ _).grown grow6 (Nat.le_refl _) (fun k hk => by cases hk) : Below u.heap.size u w6)
    clear own6 grow6
    have HW6 := Lib.hid (below_call HW5.out HK6.out)
    go_upto_region 11 with fail
    obtain ⟨v0, v1, v2⟩ := (HX5.out.next HK6.out).kepts
    have y0 := keptCell (Nat.lt_of_lt_of_le H6.out.2.2.2 HK6.out.size) ((HK6.out.cell (p := ⟨b6, 0, none⟩) H6.out.2.2.2).trans H6.out.1)
    have y1 := keptCell (Nat.lt_of_lt_of_le H6.out.2.2.2 HK6.out.size) ((HK6.out.cell (p := ⟨b6, 1, none⟩) H6.out.2.2.2).trans H6.out.2.1)
    have y2 := keptCell (Nat.lt_of_lt_of_le H6.out.2.2.2 HK6.out.size) ((HK6.out.cell (p := ⟨b6, 2, none⟩) H6.out.2.2.2).trans H6.out.2.2.1)
    have HCA := Lib.hid (fun (q : Kept w6) => keptCall (HSC.out ⟨some ⟨bx, ox, none⟩, 1, xc⟩ ⟨some ⟨by', oy, none⟩, 1, yc⟩ ⟨some ⟨bz, oz, none⟩, 1, zc⟩ ⟨some ⟨bj, oj, none⟩, 1, jc⟩ (ls.take 1) (lo.take 1) (hi.take 1) (js.take 1) true (decide_eq_true (sel_take1 HK.out)) q.u (below_call HW6.out q.b) ((HI.out.1.next (below_call HW6.out q.b)).take1 hx1) ((HI.out.2.1.next (below_call HW6.out q.b)).take1 hy1) ((HI.out.2.2.1.next (below_call HW6.out q.b)).take1 hz1') ((HI.out.2.2.2.next (below_call HW6.out q.b)).take1 hj1) (by simp) (by simp) (by simp) (by simp)))
    have HCJ := Lib.hid (fun (q : Kept w6) => keptCall (implJointsValid ⟨some ⟨bx, ox, none⟩, xl, xc⟩ ⟨some ⟨by', oy, none⟩, yl, yc⟩ ⟨some ⟨bz, oz, none⟩, zl, zc⟩ ⟨some ⟨u.heap.size, 0, none⟩, jl, jl⟩ ls lo hi (List.replicate jl 0) q.u (HI.out.1.next (below_call HW6.out q.b)) (HI.out.2.1.next (below_call HW6.out q.b)) (HI.out.2.2.1.next (below_call HW6.out q.b)) (HZ6.out.next q.b) (by simp only; omega) (by simp only; omega) (by simp only; omega) (by simp only; omega)))
    by_cases hzj : okJoints ls lo hi (List.replicate jl 0)
    · rw [decide_eq_true hzj] at HCJ
      have HCZ := Lib.hid (fun (q : Kept w6) => keptCall (HSC.out ⟨some ⟨bx, ox, none⟩, xl, xc⟩ ⟨some ⟨by', oy, none⟩, yl, yc⟩ ⟨some ⟨bz, oz, none⟩, zl, zc⟩ ⟨some ⟨u.heap.size, 0, none⟩, jl, jl⟩ ls lo hi (List.replicate jl 0) true (decide_eq_true (p := selV ls lo hi (List.replicate jl 0)) ⟨hzj, slfV_zero hzj.1 jl⟩) q.u (below_call HW6.out q.b) (HI.out.1.next (below_call HW6.out q.b)) (HI.out.2.1.next (below_call HW6.out q.b)) (HI.out.2.2.1.next (below_call HW6.out q.b)) (HZ6.out.next q.b) (by simp only; omega) (by simp only; omega) (by simp only; omega) (by simp only; omega)))
      clear hzj HSC
      refine wp_region_kept (by kernel_rfl) (by kernel_rfl) ?_
      repeat (go_big_quiet_step ((first | (go_at_call 16; with_reducible exact HCA.out _) | (go_at_call 18; with_reducible exact HCJ.out _) | (go_at_call 16; with_reducible exact HCZ.out _))))
      refine wpQuiet_nil ?_
      rintro w7 ⟨⟨_, K7⟩, rfl⟩
      have HW7 := Lib.hid (below_call HW6.out K7)
      clear K7 HCA HCJ HCZ v0 v1 v2 y0 y1 y2
      go_wp2
      go_ret
      exact ⟨rfl, below_call HB.out HW7.out⟩
    · rw [decide_eq_false hzj] at HCJ
      clear hzj HSC
      refine wp_region_kept (by kernel_rfl) (by kernel_rfl) ?_
      repeat (go_big_quiet_step ((first | (go_at_call 16; with_reducible exact HCA.out _) | (go_at_call 18; with_reducible exact HCJ.out _))))
      refine wpQuiet_nil ?_
      rintro w7 ⟨⟨_, K7⟩, rfl⟩
      have HW7 := Lib.hid (below_call HW6.out K7)
      clear K7 HCA HCJ v0 v1 v2 y0 y1 y2
      go_wp2
      go_ret
      exact ⟨rfl, below_call HB.out HW7.out⟩
end Go.Proofs.YtcifokihellcdaaDoor
