/- Several of my texts in one: Gr11, Gs11. -/
import Derived.Test.YtkogoflcacameaaDoorZc11m
import Derived.Test.YtkogoflcacameaaDoorZbChn
import Derived.Test.YtkogoflcacameaaDoorCl7
import Derived.Test.YtkogoflcacameaaDoorZcPts
import Derived.Outline
import Derived.Deep.DeepCutAuto
import Derived.Deep.RegionHeld3
namespace Go.Proofs.YtkogoflcacameaaDoor
set_option maxRecDepth 100000
open Go.RowKit
attribute [local go_sem ↓] Go.wp_at_zero Go.wp_at_succ
/-- A quotient of small numbers. -/
theorem quoG11 {m d : Int} (h0 : 0 ≤ m) (h1 : m ≤ 360) (hd : 0 < d) : m.tdiv d = m / d ∧ 0 ≤ m / d ∧ m / d ≤ 360 :=
  ⟨Int.tdiv_eq_ediv_of_nonneg h0, Int.ediv_nonneg h0 (by omega), Int.le_trans (Int.ediv_le_self d h0) h1⟩
theorem ChainAt.far {w : World} {b n c o : Nat} {ls lo hi : List Int} (h : ChainAt w b n ls lo hi) (hc : c ≠ b) (v : Value) : ChainAt (w.setCell ⟨c, o, none⟩ v) b n ls lo hi :=
  ⟨by simpa [World.setCell] using h.lt, fun i hi => ⟨(World.cell?_setCell_far _ _ _ _ hc).trans (h.c i hi).1, (World.cell?_setCell_far _ _ _ _ hc).trans (h.c i hi).2.1, (World.cell?_setCell_far _ _ _ _ hc).trans (h.c i hi).2.2⟩⟩
/-- A grid's value. -/
abbrev gv (a : Option Addr) (n : Nat) (s r k : Int) : Value := .agg #[.slice a n n, .int .i64 s, .int .i64 r, .int .i64 k]
theorem linkCells (l o h s : Int) (w : World) (h0 : -180 ≤ o) (h1 : o ≤ h) (h2 : h ≤ 180) (h3 : 1 ≤ s) (h4 : s ≤ 360) :
    Calls Tryd.prog 50 #[lk l o h, .int .i64 s] w fun e w' => e = .returned (.int .i64 ((h - o) / s + 1)) ∧ Below w.heap.size w w' := by
  have HB := Lib.hid (below_box w (.cells #[.int .i64 l, .int .i64 o, .int .i64 h] 84))
  have z0 : ¬ s = 0 := by omega
  have z1 : (s == 0) = false := by simp; omega
  have HE := Lib.hid (show wrap64 (wrap64 ((wrap64 (h - o)).tdiv s) + 1) = (h - o) / s + 1 by
    obtain ⟨k0, k1, k2⟩ := quoG11 (m := h - o) (d := s) (by omega) (by omega) (by omega)
    rw [IntWalk.wrap64_in (h - o) (by omega), k0, IntWalk.wrap64_in ((h - o) / s) (by omega), IntWalk.wrap64_in ((h - o) / s + 1) (by omega)])
  clear h0 h1 h2 h3 h4
  go_enter Tryd.func50, Tryd.ntmps50
  go_wp2
  go_ret
  exact ⟨ret_int HE.out, HB.out⟩
/-- What a grid of an arm is. -/
def GotGrid (ls lo hi : List Int) (step : Int) (w : World) (e : Ending) (w' : World) : Prop :=
  Below w.heap.size w w' ∧ ((okGrid ls lo hi step ∧ ∃ b, e = .returned (gv (some ⟨b, 0, none⟩) 2 step (cellsN lo hi step 0) (cellsN lo hi step 1)) ∧ ChainAt w' b 2 ls lo hi) ∨ (¬ okGrid ls lo hi step ∧ e = .returned (gv none 0 0 0 0)))
set_option maxHeartbeats 4000000 in
theorem gridOfC (x y z : Sl) (ls lo hi : List Int) (step : Int) (w : World) (hx : IntsAt w x.a x.len ls) (hy : IntsAt w y.a y.len lo) (hz : IntsAt w z.a z.len hi) (bx : x.len ≤ 9223372036854775807) (b_y : y.len ≤ 9223372036854775807) (bz : z.len ≤ 9223372036854775807) :
    Calls Tryd.prog 27 #[av x y z, .int .i64 step] w (GotGrid ls lo hi step w) := by
  have HB := Lib.hid (below_box2 w (.cells #[.slice x.a x.len x.cap, .slice y.a y.len y.cap, .slice z.a z.len z.cap] 25) (.cells #[.slice none 0 0, .int .i64 0, .int .i64 0, .int .i64 0] 61))
  have HR := Lib.hid (Blk.new (w.alloc (.cells #[.slice x.a x.len x.cap, .slice y.a y.len y.cap, .slice z.a z.len z.cap] 25)) #[.slice none 0 0, .int .i64 0, .int .i64 0, .int .i64 0] 61)
  rw [show (w.alloc (.cells #[.slice x.a x.len x.cap, .slice y.a y.len y.cap, .slice z.a z.len z.cap] 25)).heap.size = w.heap.size + 1 by simp] at HR
  have HC := Lib.hid (chainOf x y z ls lo hi _ (hx.next HB.out) (hy.next HB.out) (hz.next HB.out) bx b_y bz)
  have hne : w.heap.size ≤ w.heap.size + 1 := by omega
  have hsz : ((w.alloc (.cells #[.slice x.a x.len x.cap, .slice y.a y.len y.cap, .slice z.a z.len z.cap] 25)).alloc (.cells #[.slice none 0 0, .int .i64 0, .int .i64 0, .int .i64 0] 61)).heap.size = w.heap.size + 2 := by simp
  clear hx hy hz
  go_enter Tryd.func27, Tryd.ntmps27
  go_wp2_with fail
  refine HC.out.mono ?_
  clear HC
  generalize (w.alloc (.cells #[.slice x.a x.len x.cap, .slice y.a y.len y.cap, .slice z.a z.len z.cap] 25)).alloc (.cells #[.slice none 0 0, .int .i64 0, .int .i64 0, .int .i64 0] 61) = w0 at *
  rintro e w1 ⟨B1, ⟨hok, b, rfl, hbb, hc⟩ | ⟨hok, rfl⟩⟩
  rotate_left
  · clear hsz
    have HB1 := Lib.hid (below_call HB.out B1)
    have HN : Hid (¬ okGrid ls lo hi step) := Lib.hid fun k => hok k.1
    have R1 := HR.out.next B1
    have q0 := R1.cell 0 rfl
    have q1 := R1.cell 1 rfl
    have q2 := R1.cell 2 rfl
    have q3 := R1.cell 3 rfl
    have f0 := R1.frozen 0
    have f1 := R1.frozen 1
    have f2 := R1.frozen 2
    have f3 := R1.frozen 3
    have HF := Lib.hid ((((R1.set 0 (.slice none 0 0)).set 1 (.int .i64 0)).set 2 (.int .i64 0)).set 3 (.int .i64 0))
    have HBF := Lib.hid ((((HB1.out.setCell (p := ⟨w.heap.size + 1, 0, none⟩) hne (.slice none 0 0)).setCell (p := ⟨w.heap.size + 1, 1, none⟩) hne (.int .i64 0)).setCell (p := ⟨w.heap.size + 1, 2, none⟩) hne (.int .i64 0)).setCell (p := ⟨w.heap.size + 1, 3, none⟩) hne (.int .i64 0))
    clear B1 hok R1
    go_wp2
    have t0 := HF.out.cell 0 rfl
    have t1 := HF.out.cell 1 rfl
    have t2 := HF.out.cell 2 rfl
    have t3 := HF.out.cell 3 rfl
    exact bodyPost_ret (v := gv none 0 0 0 0) (by simp [results, Tryd.results27, go_sem, t0, t1, t2, t3]) rfl ⟨HBF.out, .inr ⟨HN.out, rfl⟩⟩
  have HB1 := Lib.hid (below_call HB.out B1)
  have HCH := Lib.hid hc
  have HNE := Lib.hid (show w.heap.size + 1 ≠ b by omega)
  clear hbb hsz
  have HOK := Lib.hid hok
  have R1 := HR.out.next B1
  clear B1 hok hc
  obtain ⟨n, hn⟩ : ∃ n, ls.length = n := ⟨_, rfl⟩
  have HLN := Lib.hid hn
  rw [hn] at HCH ⊢
  clear hn
  have HOUT : Hid (¬ (n = 2 ∧ 1 ≤ step ∧ step ≤ 360) → ¬ okGrid ls lo hi step) := Lib.hid fun k q => k ⟨by rw [← HLN.out]; exact q.2.1, q.2.2.1, q.2.2.2.1⟩
  have q0 := R1.cell 0 rfl
  have q1 := R1.cell 1 rfl
  have q2 := R1.cell 2 rfl
  have q3 := R1.cell 3 rfl
  have f0 := R1.frozen 0
  have f1 := R1.frozen 1
  have f2 := R1.frozen 2
  have f3 := R1.frozen 3
  have HF := Lib.hid ((((R1.set 0 (.slice none 0 0)).set 1 (.int .i64 0)).set 2 (.int .i64 0)).set 3 (.int .i64 0))
  have HBF := Lib.hid ((((HB1.out.setCell (p := ⟨w.heap.size + 1, 0, none⟩) hne (.slice none 0 0)).setCell (p := ⟨w.heap.size + 1, 1, none⟩) hne (.int .i64 0)).setCell (p := ⟨w.heap.size + 1, 2, none⟩) hne (.int .i64 0)).setCell (p := ⟨w.heap.size + 1, 3, none⟩) hne (.int .i64 0))
  have HR1 := Lib.hid R1
  clear R1
  by_cases h2 : n = 2
  rotate_left
  · have e1 : ((n : Int) != 2) = true := by simp; omega
    have HN := Lib.hid (HOUT.out fun k => h2 k.1)
    clear h2 HOUT
    go_wp2
    have t0 := HF.out.cell 0 rfl
    have t1 := HF.out.cell 1 rfl
    have t2 := HF.out.cell 2 rfl
    have t3 := HF.out.cell 3 rfl
    exact bodyPost_ret (v := gv none 0 0 0 0) (by simp [results, Tryd.results27, go_sem, t0, t1, t2, t3]) rfl ⟨HBF.out, .inr ⟨HN.out, rfl⟩⟩
  subst h2
  have e1 : (((2 : Nat) : Int) != 2) = false := by decide
  by_cases h3 : step < 1
  · have HN := Lib.hid (HOUT.out fun k => by omega)
    clear HOUT
    go_wp2
    have t0 := HF.out.cell 0 rfl
    have t1 := HF.out.cell 1 rfl
    have t2 := HF.out.cell 2 rfl
    have t3 := HF.out.cell 3 rfl
    exact bodyPost_ret (v := gv none 0 0 0 0) (by simp [results, Tryd.results27, go_sem, t0, t1, t2, t3]) rfl ⟨HBF.out, .inr ⟨HN.out, rfl⟩⟩
  have e2 : decide (step < 1) = false := decide_eq_false h3
  by_cases h4 : 360 < step
  · have HN := Lib.hid (HOUT.out fun k => by omega)
    clear HOUT
    go_wp2
    have t0 := HF.out.cell 0 rfl
    have t1 := HF.out.cell 1 rfl
    have t2 := HF.out.cell 2 rfl
    have t3 := HF.out.cell 3 rfl
    exact bodyPost_ret (v := gv none 0 0 0 0) (by simp [results, Tryd.results27, go_sem, t0, t1, t2, t3]) rfl ⟨HBF.out, .inr ⟨HN.out, rfl⟩⟩
  have e3 : decide (360 < step) = false := decide_eq_false h4
  clear HOUT
  have HLT := Lib.hid HCH.out.lt
  obtain ⟨a0, a1, a2⟩ := HCH.out.c 0 (by omega)
  obtain ⟨b0, b1, b2⟩ := HCH.out.c 1 (by omega)
  have s0 := arm_span HOK.out (k := 0) (by rw [HLN.out]; omega)
  have s1 := arm_span HOK.out (k := 1) (by rw [HLN.out]; omega)
  have HQ := Lib.hid (show okGrid ls lo hi step ↔ (cellsN lo hi step 0 ≤ 20 ∧ cellsN lo hi step 1 ≤ 20) from ⟨fun k => k.2.2.2.2, fun k => ⟨HOK.out, HLN.out, by omega, by omega, k.1, k.2⟩⟩)
  have HX0 := Lib.hid (show cellsN lo hi step 0 = (hi.getD 0 0 - lo.getD 0 0) / step + 1 from rfl)
  have HX1 := Lib.hid (show cellsN lo hi step 1 = (hi.getD 1 0 - lo.getD 1 0) / step + 1 from rfl)
  have HP := Lib.hid (show (1 ≤ cellsN lo hi step 0 ∧ cellsN lo hi step 0 ≤ 361) ∧ 1 ≤ cellsN lo hi step 1 ∧ cellsN lo hi step 1 ≤ 361 from ⟨cellsN_pos HOK.out HLN.out (by omega) (by omega), cellsN_pos HOK.out HLN.out (by omega) (by omega)⟩)
  generalize hn0 : cellsN lo hi step 0 = n0 at *
  generalize hn1 : cellsN lo hi step 1 = n1 at *
  replace hn0 := Lib.hid hn0
  replace hn1 := Lib.hid hn1
  generalize ls.getD 0 0 = l0 at *
  generalize ls.getD 1 0 = l1 at *
  generalize lo.getD 0 0 = o0 at *
  generalize lo.getD 1 0 = o1 at *
  generalize hi.getD 0 0 = g0 at *
  generalize hi.getD 1 0 = g1 at *
  have u0 := keptCell (o := 0) HLT.out a0
  have u1 := keptCell (o := 1) HLT.out a1
  have u2 := keptCell (o := 2) HLT.out a2
  have u3 := keptCell (o := 3) HLT.out b0
  have u4 := keptCell (o := 4) HLT.out b1
  have u5 := keptCell (o := 5) HLT.out b2
  have HC0 := Lib.hid (fun (q : Kept w1) => keptCall (linkCells l0 o0 g0 step q.u (by omega) (by omega) (by omega) (by omega) (by omega)))
  have HC1 := Lib.hid (fun (q : Kept w1) => keptCall (linkCells l1 o1 g1 step q.u (by omega) (by omega) (by omega) (by omega) (by omega)))
  rw [← HX0.out] at HC0
  rw [← HX1.out] at HC1
  clear a0 a1 a2 b0 b1 b2 s0 s1 q0 q1 q2 q3 f0 f1 f2 f3 HF HBF
  go_upto_region 4 with fail
  refine wp_region_kept (by kernel_rfl) (by kernel_rfl) ?_
  repeat (go_big_quiet_step ((go_at_call 50; first | (with_reducible exact HC0.out _) | (with_reducible exact HC1.out _))))
  refine wpQuiet_nil ?_
  rintro w5 ⟨⟨_, K2⟩, rfl⟩
  clear u0 u1 u2 u3 u4 u5 HC0 HC1 HX0 HX1
  have HB5 := Lib.hid (below_call HB1.out K2)
  have HCH5 := Lib.hid (HCH.out.next K2)
  have R5 := HR1.out.next K2
  clear K2
  obtain ⟨⟨p1, p2⟩, p3, p4⟩ := HP.out
  have q0 := R5.cell 0 rfl
  have q1 := R5.cell 1 rfl
  have q2 := R5.cell 2 rfl
  have q3 := R5.cell 3 rfl
  have f0 := R5.frozen 0
  have f1 := R5.frozen 1
  have f2 := R5.frozen 2
  have f3 := R5.frozen 3
  by_cases h5 : n0 ≤ 20 ∧ n1 ≤ 20
  · obtain ⟨m, hm⟩ : ∃ m, (if n0 < n1 then n1 else n0) = m := ⟨_, rfl⟩
    have m1 : ¬ (20 < m) := by rw [← hm]; split <;> omega
    have HN := Lib.hid (HQ.out.2 h5)
    have HF := Lib.hid ((((R5.set 0 (.slice (some ⟨b, 0, none⟩) 2 2)).set 1 (.int .i64 step)).set 2 (.int .i64 n0)).set 3 (.int .i64 n1))
    have HBF := Lib.hid ((((HB5.out.setCell (p := ⟨w.heap.size + 1, 0, none⟩) hne (.slice (some ⟨b, 0, none⟩) 2 2)).setCell (p := ⟨w.heap.size + 1, 1, none⟩) hne (.int .i64 step)).setCell (p := ⟨w.heap.size + 1, 2, none⟩) hne (.int .i64 n0)).setCell (p := ⟨w.heap.size + 1, 3, none⟩) hne (.int .i64 n1))
    clear h5 R5
    go_wp2
    have t0 := HF.out.cell 0 rfl
    have t1 := HF.out.cell 1 rfl
    have t2 := HF.out.cell 2 rfl
    have t3 := HF.out.cell 3 rfl
    exact bodyPost_ret (v := gv (some ⟨b, 0, none⟩) 2 step n0 n1) (by simp [results, Tryd.results27, go_sem, t0, t1, t2, t3]) rfl ⟨HBF.out, .inl ⟨HN.out, b, by rw [hn0.out, hn1.out], (((HCH5.out.far HNE.out _).far HNE.out _).far HNE.out _).far HNE.out _⟩⟩
  · obtain ⟨m, hm⟩ : ∃ m, (if n0 < n1 then n1 else n0) = m := ⟨_, rfl⟩
    have m1 : 20 < m := by rw [← hm]; split <;> omega
    have HN := Lib.hid (fun k => h5 (HQ.out.1 k))
    have HF := Lib.hid ((((R5.set 0 (.slice none 0 0)).set 1 (.int .i64 0)).set 2 (.int .i64 0)).set 3 (.int .i64 0))
    have HBF := Lib.hid ((((HB5.out.setCell (p := ⟨w.heap.size + 1, 0, none⟩) hne (.slice none 0 0)).setCell (p := ⟨w.heap.size + 1, 1, none⟩) hne (.int .i64 0)).setCell (p := ⟨w.heap.size + 1, 2, none⟩) hne (.int .i64 0)).setCell (p := ⟨w.heap.size + 1, 3, none⟩) hne (.int .i64 0))
    clear h5 R5
    go_wp2
    have t0 := HF.out.cell 0 rfl
    have t1 := HF.out.cell 1 rfl
    have t2 := HF.out.cell 2 rfl
    have t3 := HF.out.cell 3 rfl
    exact bodyPost_ret (v := gv none 0 0 0 0) (by simp [results, Tryd.results27, go_sem, t0, t1, t2, t3]) rfl ⟨HBF.out, .inr ⟨HN.out, rfl⟩⟩
end Go.Proofs.YtkogoflcacameaaDoor
namespace Go.Proofs.YtkogoflcacameaaDoor
set_option maxRecDepth 100000
open Go.RowKit
attribute [local go_sem ↓] Go.wp_at_zero Go.wp_at_succ
set_option maxHeartbeats 2000000 in
theorem implGridSize (x y z : Sl) (ls lo hi : List Int) (step : Int) (w : World) (hx : IntsAt w x.a x.len ls) (hy : IntsAt w y.a y.len lo) (hz : IntsAt w z.a z.len hi) (bx : x.len ≤ 9223372036854775807) (b_y : y.len ≤ 9223372036854775807) (bz : z.len ≤ 9223372036854775807) :
    Calls Tryd.prog 8 #[av x y z, .int .i64 step] w fun e w' => e = .returned (.tuple #[.int .i64 (gridX ls lo hi step), .int .i64 (gridY ls lo hi step)]) ∧ Below w.heap.size w w' := by
  have HB := Lib.hid (below_box w (.cells #[.slice x.a x.len x.cap, .slice y.a y.len y.cap, .slice z.a z.len z.cap] 25))
  have HC := Lib.hid (gridOfC x y z ls lo hi step _ (hx.next HB.out) (hy.next HB.out) (hz.next HB.out) bx b_y bz)
  clear hx hy hz
  go_enter Tryd.func8, Tryd.ntmps8
  go_wp2_with fail
  refine HC.out.mono ?_
  clear HC
  rintro e w1 ⟨B1, ⟨hok, b, rfl, _⟩ | ⟨hok, rfl⟩⟩
  · have HV := Lib.hid (And.intro (gridX_in hok) (gridY_in hok))
    have HB1 := Lib.hid (below_call HB.out B1)
    clear B1 hok
    generalize cellsN lo hi step 0 = n0 at *
    generalize cellsN lo hi step 1 = n1 at *
    have HR := Lib.hid (Blk.new w1 #[.slice (some ⟨b, 0, none⟩) 2 2, .int .i64 step, .int .i64 n0, .int .i64 n1] 61)
    have HB2 := Lib.hid (below_call HB1.out (below_box w1 (.cells #[.slice (some ⟨b, 0, none⟩) 2 2, .int .i64 step, .int .i64 n0, .int .i64 n1] 61)))
    go_upto_region 2 with fail
    generalize w1.alloc (.cells #[.slice (some ⟨b, 0, none⟩) 2 2, .int .i64 step, .int .i64 n0, .int .i64 n1] 61) = w2 at *
    have u2 := HR.out.kept 2 rfl
    have u3 := HR.out.kept 3 rfl
    refine wp_region_kept (by kernel_rfl) (by kernel_rfl) ?_
    repeat (go_big_quiet_step (fail))
    refine wpQuiet_nil ?_
    rintro w5 ⟨⟨_, K2⟩, rfl⟩
    have HB5 := Lib.hid (below_call HB2.out K2)
    clear u2 u3 K2
    go_wp2
    exact bodyPost_ret (v := .tuple #[.int .i64 n0, .int .i64 n1]) (by simp [results, Tryd.results8, go_sem]) rfl ⟨by rw [HV.out.1, HV.out.2], HB5.out⟩
  · have HV := Lib.hid (And.intro (gridX_out hok) (gridY_out hok))
    have HB1 := Lib.hid (below_call HB.out B1)
    clear B1 hok
    have HR := Lib.hid (Blk.new w1 #[.slice none 0 0, .int .i64 0, .int .i64 0, .int .i64 0] 61)
    have HB2 := Lib.hid (below_call HB1.out (below_box w1 (.cells #[.slice none 0 0, .int .i64 0, .int .i64 0, .int .i64 0] 61)))
    go_upto_region 2 with fail
    generalize w1.alloc (.cells #[.slice none 0 0, .int .i64 0, .int .i64 0, .int .i64 0] 61) = w2 at *
    have u2 := HR.out.kept 2 rfl
    have u3 := HR.out.kept 3 rfl
    refine wp_region_kept (by kernel_rfl) (by kernel_rfl) ?_
    repeat (go_big_quiet_step (fail))
    refine wpQuiet_nil ?_
    rintro w5 ⟨⟨_, K2⟩, rfl⟩
    have HB5 := Lib.hid (below_call HB2.out K2)
    clear u2 u3 K2
    go_wp2
    exact bodyPost_ret (v := .tuple #[.int .i64 0, .int .i64 0]) (by simp [results, Tryd.results8, go_sem]) rfl ⟨by rw [HV.out.1, HV.out.2], HB5.out⟩
set_option maxHeartbeats 2000000 in
theorem gridHas (a : Option Addr) (n : Nat) (s r k x y : Int) (w : World) :
    Calls Tryd.prog 36 #[gv a n s r k, pt x y] w fun e w' => e = .returned (.bool (decide (0 ≤ x ∧ x < r ∧ 0 ≤ y ∧ y < k))) ∧ Below w.heap.size w w' := by
  have HB := Lib.hid (below_box2 w (.cells #[.slice a n n, .int .i64 s, .int .i64 r, .int .i64 k] 61) (.cells #[.int .i64 x, .int .i64 y] 38))
  generalize hv : decide (0 ≤ x ∧ x < r ∧ 0 ≤ y ∧ y < k) = v
  replace hv := Lib.hid hv
  by_cases h1 : 0 ≤ x
  rotate_left
  · have HV := Lib.hid (show false = v from by rw [← hv.out]; exact (decide_eq_false (fun q => h1 q.1)).symm)
    have q1 : decide (0 ≤ x) = false := decide_eq_false h1
    go_enter Tryd.func36, Tryd.ntmps36
    go_wp2
    go_ret
    exact ⟨ret_bool HV.out, HB.out⟩
  by_cases h2 : x < r
  rotate_left
  · have HV := Lib.hid (show false = v from by rw [← hv.out]; exact (decide_eq_false (fun q => h2 q.2.1)).symm)
    have q1 : decide (x < r) = false := decide_eq_false h2
    go_enter Tryd.func36, Tryd.ntmps36
    go_wp2
    go_ret
    exact ⟨ret_bool HV.out, HB.out⟩
  by_cases h3 : 0 ≤ y
  rotate_left
  · have HV := Lib.hid (show false = v from by rw [← hv.out]; exact (decide_eq_false (fun q => h3 q.2.2.1)).symm)
    have q1 : decide (0 ≤ y) = false := decide_eq_false h3
    go_enter Tryd.func36, Tryd.ntmps36
    go_wp2
    go_ret
    exact ⟨ret_bool HV.out, HB.out⟩
  have HV := Lib.hid (show decide (y < k) = v from by rw [← hv.out]; exact Bool.eq_iff_iff.2 (by simp only [decide_eq_true_eq]; exact ⟨fun q => ⟨h1, h2, h3, q⟩, fun q => q.2.2.2⟩))
  go_enter Tryd.func36, Tryd.ntmps36
  go_wp2
  go_ret
  exact ⟨ret_bool HV.out, HB.out⟩
/-- Numbers of the call's own. -/
def IntRow (zs : List Int) (w : World) (e : Ending) (w' : World) : Prop :=
  ∃ s : Sl, e = .returned (.slice s.a s.len s.cap) ∧ s.len = zs.length ∧ OwnI w' w.heap.size (.slice s.a s.len s.cap) zs ∧ Below w.heap.size w w'
theorem two_own (w : World) (B : Nat) (hB : B ≤ w.heap.size) (p q : Int) (T : TypeId) (hT : T = 3) : OwnI (w.alloc (.cells #[.int .i64 p, .int .i64 q] T)) B (.slice (some ⟨w.heap.size, 0, none⟩) 2 2) [p, q] := by
  subst hT
  exact World.ownsRow_lit (base := B) (e := 3) (size := 1) w #[.int .i64 p, .int .i64 q] 2 hB (by unfold maxLen; omega) rfl
theorem nil_own (w : World) (B : Nat) : OwnI w B (.slice none 0 0) [] := World.ownsRow_nil _ _ _ _
theorem zero_own (w : World) (B : Nat) (hB : B ≤ w.heap.size) (T : TypeId) (hT : T = 3) : OwnI (w.alloc (.cells #[] T)) B (.slice (some ⟨w.heap.size, 0, none⟩) 0 0) [] := by
  subst hT
  exact World.ownsRow_lit (base := B) (e := 3) (size := 1) w #[] 0 hB (Nat.zero_le _) rfl
set_option maxHeartbeats 2000000 in
theorem gridJoints (b : Nat) (ls lo hi : List Int) (step r k : Int) (c : C2) (w : World) (hc : ChainAt w b 2 ls lo hi) (hk : okCell ls lo hi step c) :
    Calls Tryd.prog 30 #[gv (some ⟨b, 0, none⟩) 2 step r k, pt c.1 c.2] w (IntRow (angL lo step c) w) := by
  have HB := Lib.hid (below_box2 w (.cells #[.slice (some ⟨b, 0, none⟩) 2 2, .int .i64 step, .int .i64 r, .int .i64 k] 61) (.cells #[.int .i64 c.1, .int .i64 c.2] 38))
  have HG := Lib.hid ((Blk.new w #[.slice (some ⟨b, 0, none⟩) 2 2, .int .i64 step, .int .i64 r, .int .i64 k] 61).alloc (.cells #[.int .i64 c.1, .int .i64 c.2] 38))
  have P := AtP.box (w.alloc (.cells #[.slice (some ⟨b, 0, none⟩) 2 2, .int .i64 step, .int .i64 r, .int .i64 k] 61)) c.1 c.2 38
  rw [show (w.alloc (.cells #[.slice (some ⟨b, 0, none⟩) 2 2, .int .i64 step, .int .i64 r, .int .i64 k] 61)).heap.size = w.heap.size + 1 by simp] at P
  have HCH := Lib.hid (hc.next HB.out)
  obtain ⟨⟨h1, h2, h3, h4, h5, h6⟩, c1, c2, c3, c4⟩ := hk
  have a0 := arm_span h1 (k := 0) (by omega)
  have a1 := arm_span h1 (k := 1) (by omega)
  unfold cellsN at c2 c4
  have s0 := cell_span c1 c2 h3
  have s1 := cell_span c3 c4 h3
  have HA := Lib.hid (show angL lo step c = [lo.getD 0 0 + c.1 * step, lo.getD 1 0 + c.2 * step] from rfl)
  obtain ⟨x, y⟩ := c
  simp only at *
  obtain ⟨m0, hm0⟩ : ∃ m, x * step = m := ⟨_, rfl⟩
  obtain ⟨m1, hm1⟩ : ∃ m, y * step = m := ⟨_, rfl⟩
  rw [hm0] at s0 HA
  rw [hm1] at s1 HA
  have o1 : IntKind.i64.wrap (x * step) = m0 := by rw [hm0]; exact wrap_in (by omega) (by omega)
  have o2 : IntKind.i64.wrap (y * step) = m1 := by rw [hm1]; exact wrap_in (by omega) (by omega)
  have o3 : IntKind.i64.wrap (lo.getD 0 0 + m0) = lo.getD 0 0 + m0 := wrap_in (by omega) (by omega)
  have o4 : IntKind.i64.wrap (lo.getD 1 0 + m1) = lo.getD 1 0 + m1 := wrap_in (by omega) (by omega)
  clear hm0 hm1 s0 s1 a0 a1 c1 c2 c3 c4 h1 h2 h3 h4 h5 h6 hc
  go_enter Tryd.func30, Tryd.ntmps30
  go_upto_region 1 with fail
  generalize (w.alloc (.cells #[.slice (some ⟨b, 0, none⟩) 2 2, .int .i64 step, .int .i64 r, .int .i64 k] 61)).alloc (.cells #[.int .i64 x, .int .i64 y] 38) = w0 at *
  obtain ⟨a0, a1, a2⟩ := HCH.out.c 0 (by omega)
  obtain ⟨b0, b1, b2⟩ := HCH.out.c 1 (by omega)
  have u1 := keptCell (o := 1) HCH.out.lt a1
  have u4 := keptCell (o := 4) HCH.out.lt b1
  have v0 := HG.out.kept 0 rfl
  have v1 := HG.out.kept 1 rfl
  obtain ⟨e0, e1⟩ := P.kepts
  clear a0 a1 a2 b0 b1 b2 P
  generalize lo.getD 0 0 = l0 at *
  generalize lo.getD 1 0 = l1 at *
  refine wp_region_ktail 22 (by kernel_rfl) (by kernel_rfl) ?_
  simp only [List.take_succ_cons, List.take_zero, List.drop_succ_cons, List.drop_zero]
  repeat (go_big_quiet_step (fail))
  refine wpQuiet_nil ?_
  rintro w2 ⟨⟨_, K2⟩, rfl⟩
  clear u1 u4 v0 v1 e0 e1
  have HB2 := Lib.hid (below_call HB.out K2)
  clear K2
  go_wp2
  go_ret
  exact ⟨⟨some ⟨w2.heap.size, 0, none⟩, 2, 2⟩, rfl, rfl, by rw [HA.out]; exact two_own w2 _ HB2.out.size _ _ _ rfl, below_call HB2.out (below_box _ _)⟩
set_option maxHeartbeats 4000000 in
theorem implCellJoints (x y z : Sl) (ls lo hi : List Int) (step : Int) (c : C2) (w : World) (hx : IntsAt w x.a x.len ls) (hy : IntsAt w y.a y.len lo) (hz : IntsAt w z.a z.len hi) (bx : x.len ≤ 9223372036854775807) (b_y : y.len ≤ 9223372036854775807) (bz : z.len ≤ 9223372036854775807) :
    Calls Tryd.prog 11 #[av x y z, .int .i64 step, pt c.1 c.2] w (IntRow (jointsV ls lo hi step c) w) := by
  have HB := Lib.hid (below_box2 w (.cells #[.slice x.a x.len x.cap, .slice y.a y.len y.cap, .slice z.a z.len z.cap] 25) (.cells #[.int .i64 c.1, .int .i64 c.2] 38))
  have P := AtP.box (w.alloc (.cells #[.slice x.a x.len x.cap, .slice y.a y.len y.cap, .slice z.a z.len z.cap] 25)) c.1 c.2 38
  rw [show (w.alloc (.cells #[.slice x.a x.len x.cap, .slice y.a y.len y.cap, .slice z.a z.len z.cap] 25)).heap.size = w.heap.size + 1 by simp] at P
  have HC := Lib.hid (gridOfC x y z ls lo hi step _ (hx.next HB.out) (hy.next HB.out) (hz.next HB.out) bx b_y bz)
  clear hx hy hz
  go_enter Tryd.func11, Tryd.ntmps11
  go_wp2_with fail
  refine HC.out.mono ?_
  clear HC
  generalize (w.alloc (.cells #[.slice x.a x.len x.cap, .slice y.a y.len y.cap, .slice z.a z.len z.cap] 25)).alloc (.cells #[.int .i64 c.1, .int .i64 c.2] 38) = w0 at *
  rintro e w1 ⟨B1, ⟨hok, b, rfl, hc⟩ | ⟨hok, rfl⟩⟩
  · have HB1 := Lib.hid (below_call HB.out B1)
    have HOK := Lib.hid hok
    have P1 := P.next B1
    obtain ⟨n0, hn0⟩ : ∃ n, cellsN lo hi step 0 = n := ⟨_, rfl⟩
    obtain ⟨n1, hn1⟩ : ∃ n, cellsN lo hi step 1 = n := ⟨_, rfl⟩
    rw [hn0, hn1]
    have Bg := below_box w1 (.cells #[.slice (some ⟨b, 0, none⟩) 2 2, .int .i64 step, .int .i64 n0, .int .i64 n1] 61)
    have HR := Lib.hid (Blk.new w1 #[.slice (some ⟨b, 0, none⟩) 2 2, .int .i64 step, .int .i64 n0, .int .i64 n1] 61)
    have HB2 := Lib.hid (below_call HB1.out Bg)
    have HCH := Lib.hid (hc.next Bg)
    have P2 := P1.next Bg
    have HOC := Lib.hid (show (0 ≤ c.1 ∧ c.1 < n0 ∧ 0 ≤ c.2 ∧ c.2 < n1) ↔ okCell ls lo hi step c by subst hn0 hn1; exact ⟨fun q => ⟨hok, q⟩, fun q => q.2⟩)
    clear B1 hok P P1 Bg hc hn0 hn1
    go_upto_region 2 with fail
    generalize w1.alloc (.cells #[.slice (some ⟨b, 0, none⟩) 2 2, .int .i64 step, .int .i64 n0, .int .i64 n1] 61) = w2 at *
    have q0 := HR.out.cell 0 rfl
    have q1 := HR.out.cell 1 rfl
    have q2 := HR.out.cell 2 rfl
    have q3 := HR.out.cell 3 rfl
    obtain ⟨_, p0, p1⟩ := id P2
    have HH := Lib.hid (gridHas (some ⟨b, 0, none⟩) 2 step n0 n1 c.1 c.2 w2)
    by_cases hk : 0 ≤ c.1 ∧ c.1 < n0 ∧ 0 ≤ c.2 ∧ c.2 < n1
    · rw [decide_eq_true hk] at HH
      have HK := Lib.hid (HOC.out.1 hk)
      clear hk
      go_wp2_with fail
      refine HH.out.mono ?_
      rintro e w3 ⟨rfl, B3⟩
      have HB3 := Lib.hid (below_call HB2.out B3)
      have HCH3 := Lib.hid (HCH.out.next B3)
      have R3 := HR.out.next B3
      have P3 := P2.next B3
      clear q0 q1 q2 q3 p0 p1 B3 P2 HH
      have q0 := R3.cell 0 rfl
      have q1 := R3.cell 1 rfl
      have q2 := R3.cell 2 rfl
      have q3 := R3.cell 3 rfl
      obtain ⟨_, p0, p1⟩ := id P3
      have HJ := Lib.hid (gridJoints b ls lo hi step n0 n1 c w3 HCH3.out HK.out)
      have HV := Lib.hid (jointsV_in HK.out)
      go_wp2_with fail
      refine HJ.out.mono ?_
      rintro e w4 ⟨⟨sa, sl, sc⟩, rfl, hl, ho, B4⟩
      have HF := Lib.hid (And.intro hl (And.intro ho (below_call HB3.out B4)))
      have hsz := HB3.out.size
      clear hl ho B4 q0 q1 q2 q3 p0 p1 P3 R3 HJ
      go_wp2
      go_ret
      exact ⟨⟨sa, sl, sc⟩, rfl, by rw [HV.out]; exact HF.out.1, by rw [HV.out]; exact World.ownsRow_down HF.out.2.1 hsz, HF.out.2.2⟩
    · rw [decide_eq_false hk] at HH
      have HV := Lib.hid (jointsV_out (fun q => hk (HOC.out.2 q)))
      clear hk
      go_wp2_with fail
      refine HH.out.mono ?_
      rintro e w3 ⟨rfl, B3⟩
      have HB3 := Lib.hid (below_call HB2.out B3)
      clear B3 q0 q1 q2 q3 p0 p1 P2 HH
      go_wp2
      go_ret
      exact ⟨⟨none, 0, 0⟩, rfl, by rw [HV.out]; rfl, by rw [HV.out]; exact nil_own _ _, HB3.out⟩
  · have HB1 := Lib.hid (below_call HB.out B1)
    have P1 := P.next B1
    have Bg := below_box w1 (.cells #[.slice none 0 0, .int .i64 0, .int .i64 0, .int .i64 0] 61)
    have HR := Lib.hid (Blk.new w1 #[.slice none 0 0, .int .i64 0, .int .i64 0, .int .i64 0] 61)
    have HB2 := Lib.hid (below_call HB1.out Bg)
    have P2 := P1.next Bg
    have HV := Lib.hid (jointsV_out (c := c) (fun q => hok q.1))
    clear B1 hok P P1 Bg
    go_upto_region 2 with fail
    generalize w1.alloc (.cells #[.slice none 0 0, .int .i64 0, .int .i64 0, .int .i64 0] 61) = w2 at *
    have q0 := HR.out.cell 0 rfl
    have q1 := HR.out.cell 1 rfl
    have q2 := HR.out.cell 2 rfl
    have q3 := HR.out.cell 3 rfl
    obtain ⟨_, p0, p1⟩ := id P2
    have HH := Lib.hid (gridHas none 0 0 0 0 c.1 c.2 w2)
    rw [decide_eq_false (by omega)] at HH
    go_wp2_with fail
    refine HH.out.mono ?_
    rintro e w3 ⟨rfl, B3⟩
    have HB3 := Lib.hid (below_call HB2.out B3)
    clear B3 q0 q1 q2 q3 p0 p1 P2 HH
    go_wp2
    go_ret
    exact ⟨⟨none, 0, 0⟩, rfl, by rw [HV.out]; rfl, by rw [HV.out]; exact nil_own _ _, HB3.out⟩
end Go.Proofs.YtkogoflcacameaaDoor
