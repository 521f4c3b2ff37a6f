/- The draws of the laws on motors. -/
import Derived.Test.YtgnchgmbflkakaaD14
namespace Go.Proofs.Ytgnchgmbflkakaa
set_option maxRecDepth 100000
open Go.RowKit
attribute [local go_sem ↓] Go.wp_at_zero Go.wp_at_succ
/-- What holds when the operations of 'listed' have come up. -/
inductive RFMS (w w0 : World) (r R V : Nat) (x y : Int) (u : World) : Array Bool → Act → Prop
  | mk (l0 l1 l2 l3 l4 l5 l6 l7 l8 l9 l10 l11 l12 l13 l14 l15 l16 l17 : Bool) (v3 v4 v11 v12 v13 v14 v15 v16 v17 v18 v19 v20 v21 v22 v23 v24 v25 p0 p1 p7 p8 p9 p10 : Value) (M : Nat) (xR yR : Int)
    (c0 : l0 = true → v11 = pt x y) (c1 : l1 = true → v12 = .pointer (some ⟨r, 0, none⟩)) (c2 : l2 = true → CI 0 202 v13) (c3 : l3 = true → CI (-100) (102) v14) (c4 : l4 = true → CI (-101) (101) v15) (c5 : l5 = true → v16 = .pointer (some ⟨r, 0, none⟩)) (c6 : l6 = true → CI 0 19 v17) (c7 : l7 = true → CA r u 4 (-1) (101) v18) (c8 : l8 = true → CA r u 7 (0) (3) v19) (c9 : l9 = true → v20 = .pointer (some ⟨r, 0, none⟩)) (c10 : l10 = true → CI 0 6 v21) (c11 : l11 = true → CP r u (0) (3) v22) (c12 : l12 = true → CI (0) (3) v23) (c13 : l13 = true → CP r u (-1) (101) v24) (c14 : l14 = true → CI (-1) (101) v25) (c15 : l15 = true → xR = x ∧ yR = y) (c16 : l16 = true → CI (-101) (101) v3) (c17 : l17 = true → CI (-1) (101) v4)
    (hM : M + ((if l2 then 0 else 1) + (if l6 then 0 else 1) + (if l10 then 0 else 1)) ≤ 1000) (G : GSt w w0 r [R] M u) (oR : OwnP u R xR yR) : RFMS w w0 r R V x y u #[l0, l1, l2, l3, l4, l5, l6, l7, l8, l9, l10, l11, l12, l13, l14, l15, l16, l17] { tmps := #[p0, p1, .pointer (some ⟨R, 0, none⟩), v3, v4, .pointer (some ⟨r, 0, none⟩), .pointer (some ⟨V, 0, none⟩), p7, p8, p9, p10, v11, v12, v13, v14, v15, v16, v17, v18, v19, v20, v21, v22, v23, v24, v25], defers := [] }
theorem RFMS.size {w w0 : World} {r R V : Nat} {x y : Int} {u : World} {listed : Array Bool} {a : Act} (h : RFMS w w0 r R V x y u listed a) : listed.size = 18 := by cases h; rfl
/-- What holds when the operations of 'listed' have come up. -/
inductive RFMA (w w0 : World) (r R V : Nat) (x y : Int) (ga gs : Int) (u : World) : Array Bool → Act → Prop
  | mk (l0 l1 l2 l3 l4 l5 l6 l7 l8 : Bool) (v3 v4 v5 v24 v25 v26 v27 v28 p0 p1 p10 p11 p12 p13 p14 p15 p16 p17 p18 p19 p20 p21 p22 p23 : Value) (M : Nat) (xR yR : Int)
    (c0 : l0 = true → v24 = pt x y) (c1 : l1 = true → v25 = .int .i64 ga) (c2 : l2 = true → v26 = .int .i64 gs) (c3 : l3 = true → v27 = .pointer (some ⟨r, 0, none⟩)) (c4 : l4 = true → CI (-1) (65) v28) (c5 : l5 = true → xR = x ∧ yR = y) (c6 : l6 = true → v3 = .int .i64 ga) (c7 : l7 = true → v4 = .int .i64 gs) (c8 : l8 = true → CI (-1) (65) v5)
    (hM : M + ((if l4 then 0 else 3)) ≤ 1000) (G : GSt w w0 r [R] M u) (oR : OwnP u R xR yR) : RFMA w w0 r R V x y ga gs u #[l0, l1, l2, l3, l4, l5, l6, l7, l8] { tmps := #[p0, p1, .pointer (some ⟨R, 0, none⟩), v3, v4, v5, .pointer (some ⟨r, 0, none⟩), .pointer (some ⟨V, 0, none⟩), .int .i64 ga, .int .i64 gs, p10, p11, p12, p13, p14, p15, p16, p17, p18, p19, p20, p21, p22, p23, v24, v25, v26, v27, v28], defers := [] }
theorem RFMA.size {w w0 : World} {r R V : Nat} {x y : Int} {ga gs : Int} {u : World} {listed : Array Bool} {a : Act} (h : RFMA w w0 r R V x y ga gs u listed a) : listed.size = 9 := by cases h; rfl
/-- What holds when the operations of 'listed' have come up. -/
inductive RFMR (w w0 : World) (r R V : Nat) (x y : Int) (ga gs gd : Int) (u : World) : Array Bool → Act → Prop
  | mk (l0 l1 l2 l3 l4 l5 l6 l7 l8 l9 l10 l11 l12 l13 l14 l15 l16 l17 l18 l19 l20 l21 l22 l23 l24 l25 l26 l27 : Bool) (v3 v4 v5 v6 v7 v22 v23 v24 v25 v26 v27 v28 v29 v30 v31 v32 v33 v34 v35 v36 v37 v38 v39 v40 v41 v42 v43 p0 p1 p13 p14 p15 p16 p17 p18 p19 p20 p21 : Value) (M : Nat) (xR yR : Int)
    (c0 : l0 = true → v22 = pt x y) (c1 : l1 = true → v23 = .int .i64 ga) (c2 : l2 = true → v24 = .int .i64 gs) (c3 : l3 = true → v25 = .int .i64 gd) (c4 : l4 = true → v26 = .pointer (some ⟨r, 0, none⟩)) (c5 : l5 = true → CI 0 8 v27) (c6 : l6 = true → CA r u 3 (-1) (8) v28) (c7 : l7 = true → CA r u 5 (0) (2) v29) (c8 : l8 = true → v30 = .pointer (some ⟨r, 0, none⟩)) (c9 : l9 = true → CI 0 4 v31) (c10 : l10 = true → CP r u (0) (2) v32) (c11 : l11 = true → CI (0) (2) v33) (c12 : l12 = true → CP r u (-1) (8) v34) (c13 : l13 = true → CI (-1) (8) v35) (c14 : l14 = true → v36 = .pointer (some ⟨r, 0, none⟩)) (c15 : l15 = true → CI 0 29 v37) (c16 : l16 = true → CA r u 2 (0) (401) v38) (c17 : l17 = true → v39 = .pointer (some ⟨r, 0, none⟩)) (c18 : l18 = true → CI 0 11 v40) (c19 : l19 = true → CI (0) (1) v41) (c20 : l20 = true → CP r u (0) (401) v42) (c21 : l21 = true → CI (0) (401) v43) (c22 : l22 = true → xR = x ∧ yR = y) (c23 : l23 = true → v3 = .int .i64 ga) (c24 : l24 = true → v4 = .int .i64 gs) (c25 : l25 = true → v5 = .int .i64 gd) (c26 : l26 = true → CI (-1) (8) v6) (c27 : l27 = true → CI (0) (401) v7)
    (hM : M + ((if l5 then 0 else 1) + (if l9 then 0 else 1) + (if l15 then 0 else 1) + (if l18 then 0 else 1)) ≤ 1000) (G : GSt w w0 r [R] M u) (oR : OwnP u R xR yR) : RFMR w w0 r R V x y ga gs gd u #[l0, l1, l2, l3, l4, l5, l6, l7, l8, l9, l10, l11, l12, l13, l14, l15, l16, l17, l18, l19, l20, l21, l22, l23, l24, l25, l26, l27] { tmps := #[p0, p1, .pointer (some ⟨R, 0, none⟩), v3, v4, v5, v6, v7, .pointer (some ⟨r, 0, none⟩), .pointer (some ⟨V, 0, none⟩), .int .i64 ga, .int .i64 gs, .int .i64 gd, p13, p14, p15, p16, p17, p18, p19, p20, p21, v22, v23, v24, v25, v26, v27, v28, v29, v30, v31, v32, v33, v34, v35, v36, v37, v38, v39, v40, v41, v42, v43], defers := [] }
theorem RFMR.size {w w0 : World} {r R V : Nat} {x y : Int} {ga gs gd : Int} {u : World} {listed : Array Bool} {a : Act} (h : RFMR w w0 r R V x y ga gs gd u listed a) : listed.size = 28 := by cases h; rfl
/-- A motor is drawn. -/
def GotM (w : World) (e : Ending) (w' : World) : Prop := ∃ x y : Int, (-10001 ≤ x ∧ x ≤ 10001) ∧ (-201 ≤ y ∧ y ≤ 201) ∧ e = .returned (pt x y) ∧ Below w.heap.size w w'
/-- A motor, a torque and a friction are drawn. -/
def GotMS (w : World) (e : Ending) (w' : World) : Prop := ∃ x y t f : Int, (-10001 ≤ x ∧ x ≤ 10001) ∧ (-201 ≤ y ∧ y ≤ 201) ∧ (-101 ≤ t ∧ t ≤ 101) ∧ (-1 ≤ f ∧ f ≤ 101) ∧ e = .returned (.tuple #[pt x y, .int .i64 t, .int .i64 f]) ∧ Below w.heap.size w w'
/-- A motor, a target and two gains are drawn. -/
def GotMA (w : World) (e : Ending) (w' : World) : Prop := ∃ x y g k d : Int, (-10001 ≤ x ∧ x ≤ 10001) ∧ (-201 ≤ y ∧ y ≤ 201) ∧ (-200 ≤ g ∧ g ≤ 10199) ∧ (-1 ≤ k ∧ k ≤ 65) ∧ (-1 ≤ d ∧ d ≤ 65) ∧ e = .returned (.tuple #[pt x y, .int .i64 g, .int .i64 k, .int .i64 d]) ∧ Below w.heap.size w w'
/-- A run is drawn. -/
def GotMR (w : World) (e : Ending) (w' : World) : Prop := ∃ x y g k d f n : Int, (-10001 ≤ x ∧ x ≤ 10001) ∧ (-201 ≤ y ∧ y ≤ 201) ∧ (-200 ≤ g ∧ g ≤ 10199) ∧ (-1 ≤ k ∧ k ≤ 65) ∧ (-1 ≤ d ∧ d ≤ 65) ∧ (-1 ≤ f ∧ f ≤ 8) ∧ (0 ≤ n ∧ n ≤ 401) ∧ e = .returned (.tuple #[pt x y, .int .i64 g, .int .i64 k, .int .i64 d, .int .i64 f, .int .i64 n]) ∧ Below w.heap.size w w'
theorem drawMotorValid (w : World) (a : Option Addr) (len cap : Nat) (zs : List Int) (h : Bytes w a len cap zs) :
    Calls Try.prog 14 #[.slice a len cap] w (GotM w) := by
  have O0 := OwnP.box w 0 0 24
  have H0 := below_box w (.cells #[.int .i64 0, .int .i64 0] 24)
  go_enter Try.func14, Try.ntmps14
  go_wp2_with fail
  refine (gopen w _ a len cap zs h H0 (w.heap.size + 1) (by simp)).mono ?_
  rintro e w1 ⟨rfl, hr1, hb1⟩
  have O1 := Lib.hid (O0.next hb1)
  have H1 := Lib.hid (below_call H0 hb1)
  clear O0 H0 hb1 h
  go_wp2_with fail
  refine (l20Motor w w1 0 (w.heap.size + 1) 2 hr1 H1.out (by omega) (by omega) (by omega)).mono ?_
  rintro e w2 ⟨x, y, hx, hy, rfl, G2⟩
  obtain ⟨⟨_, c0, c1⟩, z0, z1⟩ := G2.ownp O1.out (by omega) (by simp)
  have HX := Lib.hid hx
  have HY := Lib.hid hy
  have HB := Lib.hid ((G2.old.setCell (p := ⟨w.heap.size, 0, none⟩) (Nat.le_refl _) (.int .i64 x)).setCell (p := ⟨w.heap.size, 1, none⟩) (Nat.le_refl _) (.int .i64 y))
  clear hr1 O1 H1 G2 hx hy
  go_wp2
  exact bodyPost_ret (v := pt x y) (by simp [results, Try.results14, go_sem, c0, c1]) rfl ⟨x, y, HX.out, HY.out, rfl, HB.out⟩
theorem drawBrakeTorque (w : World) (a : Option Addr) (len cap : Nat) (zs : List Int) (h : Bytes w a len cap zs) :
    Calls Try.prog 22 #[.slice a len cap] w (GotM w) := by
  have O0 := OwnP.box w 0 0 24
  have H0 := below_box w (.cells #[.int .i64 0, .int .i64 0] 24)
  go_enter Try.func22, Try.ntmps22
  go_wp2_with fail
  refine (gopen w _ a len cap zs h H0 (w.heap.size + 1) (by simp)).mono ?_
  rintro e w1 ⟨rfl, hr1, hb1⟩
  have O1 := Lib.hid (O0.next hb1)
  have H1 := Lib.hid (below_call H0 hb1)
  clear O0 H0 hb1 h
  go_wp2_with fail
  refine (l20Motor w w1 0 (w.heap.size + 1) 9 hr1 H1.out (by omega) (by omega) (by omega)).mono ?_
  rintro e w2 ⟨x, y, hx, hy, rfl, G2⟩
  obtain ⟨⟨_, c0, c1⟩, z0, z1⟩ := G2.ownp O1.out (by omega) (by simp)
  have HX := Lib.hid hx
  have HY := Lib.hid hy
  have HB := Lib.hid ((G2.old.setCell (p := ⟨w.heap.size, 0, none⟩) (Nat.le_refl _) (.int .i64 x)).setCell (p := ⟨w.heap.size, 1, none⟩) (Nat.le_refl _) (.int .i64 y))
  clear hr1 O1 H1 G2 hx hy
  go_wp2
  exact bodyPost_ret (v := pt x y) (by simp [results, Try.results22, go_sem, c0, c1]) rfl ⟨x, y, HX.out, HY.out, rfl, HB.out⟩
theorem ggain {w w0 u : World} {r M : Nat} {rs : List Nat} (n : Int) (h0 : 0 < n) (h1 : n ≤ 1000000) (h : GSt w w0 r rs M u) (hM : M ≤ 900000) :
    Calls Try.prog 49 #[.pointer (some ⟨r, 0, none⟩), .int .i64 n] u fun e u' => ∃ x : Int, -1 ≤ x ∧ x ≤ 65 ∧ e = .returned (.int .i64 x) ∧ GSt w w0 r rs (M + 3) u' ∧ GKeeps r u u' ∧ u.grownBy u' (some r) := by
  go_enter Try.func49, Try.ntmps49
  go_wp2_with fail
  refine (godd n h0 h1 h (by omega)).mono ?_
  rintro e w1 ⟨b, rfl, G1, hg1⟩
  clear h h0 h1
  cases b
  · go_wp2_with fail
    refine (gpick 65 (by omega) G1 (by omega)).mono ?_
    rintro e w2 ⟨x, x0, x1, rfl, G2, _, hg2⟩
    have HG := Lib.hid (G2.mono (show M + 1 + 1 ≤ M + 3 by omega))
    have HH := Lib.hid (hg1.trans hg2)
    clear G1 G2 hg1 hg2
    go_wp2
    go_ret
    exact ⟨x, by omega, by omega, rfl, HG.out, GKeeps.grown HH.out, HH.out⟩
  · have G2 := G1.next (below_box w1 (.cells #[.int .i64 (-1), .int .i64 65] 3))
    have hg2 := only_alloc hg1 (.cells #[.int .i64 (-1), .int .i64 65] 3)
    have lt1 := G1.rd.lt
    clear G1
    go_wp2_with fail
    refine (gpick 2 (by omega) G2 (by omega)).mono ?_
    rintro e w3 ⟨x, x0, x1, rfl, G3, _, hg3⟩
    have f0 := hg3.cell_far ⟨w1.heap.size, 0, none⟩ (by simp) (by simp; omega)
    have f1 := hg3.cell_far ⟨w1.heap.size, 1, none⟩ (by simp) (by simp; omega)
    have HG := Lib.hid (G3.mono (show M + 1 + 1 ≤ M + 3 by omega))
    have HH := Lib.hid (hg2.trans hg3)
    clear G2 G3 hg1 hg2 hg3
    have hx : x = 0 ∨ x = 1 := by omega
    clear x0 x1
    rcases hx with rfl | rfl
    all_goals
      go_wp2
      go_ret
      exact ⟨_, by omega, by omega, rfl, HG.out, GKeeps.grown HH.out, HH.out⟩
set_option maxHeartbeats 8000000 in
theorem drawMotorStep (w : World) (a : Option Addr) (len cap : Nat) (zs : List Int) (h : Bytes w a len cap zs) :
    Calls Try.prog 18 #[.slice a len cap] w (GotMS w) := by
  have O0 := OwnP.box w 0 0 24
  have H0 := below_box w (.cells #[.int .i64 0, .int .i64 0] 24)
  go_enter Try.func18, Try.ntmps18
  go_wp2_with fail
  refine (gopen w _ a len cap zs h H0 (w.heap.size + 1) (by simp)).mono ?_
  rintro e w1 ⟨rfl, hr1, hb1⟩
  have O1 := Lib.hid (O0.next hb1)
  have H1 := Lib.hid (below_call H0 hb1)
  clear O0 H0
  go_wp2_with fail
  clear hb1 h
  refine (l20Motor w w1 0 (w.heap.size + 1) 12 hr1 H1.out (by omega) (by omega) (by omega)).mono ?_
  rintro e w2 ⟨x, y, hx, hy, rfl, G2⟩
  have O2 := (G2.ownp O1.out (by omega) (by simp)).alloc (.cells #[.int .i64 x, .int .i64 y] 24)
  have PV := OwnP.box w2 x y 24
  have G3 := G2.next (below_box w2 (.cells #[.int .i64 x, .int .i64 y] 24))
  have hlr := G2.rd.lt
  have HX := Lib.hid hx
  have HY := Lib.hid hy
  clear hr1 O1 H1 G2 hx hy
  go_upto_region 3 with fail
  generalize w2.alloc (.cells #[.int .i64 x, .int .i64 y] 24) = w3 at *
  have nVr : w2.heap.size ≠ w.heap.size + 1 := by omega
  have nVs : w2.heap.size ∉ [w.heap.size] := by simp; omega
  generalize w2.heap.size = V at *
  have gR : w.heap.size ≤ w.heap.size := Nat.le_refl _
  have lR : w.heap.size < w.heap.size + 1 := by omega
  clear hlr
  have hPV := PV.toAtP
  have G0 := Lib.hid ((GSt.start (rs := [w.heap.size]) G3.rd G3.old).drew)
  have oR0 := Lib.hid (O2.next (below_drew' _))
  clear G3 O2 PV
  have HM0 := Lib.hid (show 910 + ((if false then 0 else 1) + (if false then 0 else 1) + (if false then 0 else 1)) ≤ 1000 by decide)
  refine wp_region_inv (fun listed act u => RFMS w w3 (w.heap.size + 1) w.heap.size V x y u listed act) (by kernel_rfl) ?hlt ?hsz ?h0 ?hstep ?hdone
  case h0 =>
    exact ⟨false, false, false, false, false, false, false, false, false, false, false, false, false, false, false, false, false, false, _, _, _, _, _, _, _, _, _, _, _, _, _, _, _, _, _, _, _, _, _, _, _, _, _, _, (by intro h; cases h), (by intro h; cases h), (by intro h; cases h), (by intro h; cases h), (by intro h; cases h), (by intro h; cases h), (by intro h; cases h), (by intro h; cases h), (by intro h; cases h), (by intro h; cases h), (by intro h; cases h), (by intro h; cases h), (by intro h; cases h), (by intro h; cases h), (by intro h; cases h), (by intro h; cases h), (by intro h; cases h), (by intro h; cases h), HM0.out, G0.out, oR0.out⟩
  case hstep =>
    intro listed act u i o hR ho hl hd
    obtain ⟨l0, l1, l2, l3, l4, l5, l6, l7, l8, l9, l10, l11, l12, l13, l14, l15, l16, l17, v3, v4, v11, v12, v13, v14, v15, v16, v17, v18, v19, v20, v21, v22, v23, v24, v25, p0, p1, p7, p8, p9, p10, M, xR, yR, c0, c1, c2, c3, c4, c5, c6, c7, c8, c9, c10, c11, c12, c13, c14, c15, c16, c17, hM, G, oR⟩ := hR
    have hi : i < 18 := by rcases Nat.lt_or_ge i 18 with h | h; exact h; rw [Array.getElem?_eq_none (by simpa using h)] at ho; cases ho
    have hi2 : i = 0 ∨ i = 1 ∨ i = 2 ∨ i = 3 ∨ i = 4 ∨ i = 5 ∨ i = 6 ∨ i = 7 ∨ i = 8 ∨ i = 9 ∨ i = 10 ∨ i = 11 ∨ i = 12 ∨ i = 13 ∨ i = 14 ∨ i = 15 ∨ i = 16 ∨ i = 17 := by omega
    rcases hi2 with rfl | rfl | rfl | rfl | rfl | rfl | rfl | rfl | rfl | rfl | rfl | rfl | rfl | rfl | rfl | rfl | rfl | rfl
    all_goals (cases ho)
    · obtain ⟨_, k0, k1⟩ := G.atp hPV nVr nVs
      refine wpOp_step rfl (fun K hK => ?_)
      go_simp
      refine hK _ _ ?_
      exact ⟨true, l1, l2, l3, l4, l5, l6, l7, l8, l9, l10, l11, l12, l13, l14, l15, l16, l17, _, _, _, _, _, _, _, _, _, _, _, _, _, _, _, _, _, _, _, _, _, _, _, M, xR, yR, fun _ => rfl, c1, c2, c3, c4, c5, c6, c7, c8, c9, c10, c11, c12, c13, c14, c15, c16, c17, hM, G, oR⟩
    · skip
      refine wpOp_step rfl (fun K hK => ?_)
      go_simp
      refine hK _ _ ?_
      exact ⟨l0, true, l2, l3, l4, l5, l6, l7, l8, l9, l10, l11, l12, l13, l14, l15, l16, l17, _, _, _, _, _, _, _, _, _, _, _, _, _, _, _, _, _, _, _, _, _, _, _, M, xR, yR, c0, fun _ => rfl, c2, c3, c4, c5, c6, c7, c8, c9, c10, c11, c12, c13, c14, c15, c16, c17, hM, G, oR⟩
    · obtain rfl := c1 (hd { on := 1, ground := Ground.data } (by simp) rfl)
      have e2 : l2 = false := hl
      subst e2
      refine wpOp_step rfl (fun K hK => ?_)
      go_simp
      refine (gpick 203 (by omega) G (by omega)).mono ?_
      rintro e u' ⟨xk, h0, h1, rfl, G', KA, hg⟩
      refine hK _ _ ?_
      exact ⟨l0, l1, true, l3, l4, l5, l6, l7, l8, l9, l10, l11, l12, l13, l14, l15, l16, l17, _, _, _, _, _, _, _, _, _, _, _, _, _, _, _, _, _, _, _, _, _, _, _, (M + 1), xR, yR, c0, c1, fun _ => ⟨xk, rfl, h0, by omega⟩, c3, c4, c5, c6, fun h => (c7 h).keep KA, fun h => (c8 h).keep KA, c9, c10, fun h => (c11 h).keep KA, c12, fun h => (c13 h).keep KA, c14, c15, c16, c17, by simp only [Bool.false_eq_true, if_false, if_true] at hM ⊢; omega, G', oR.grown hg (by omega)⟩
    · obtain ⟨x, rfl, h0, h1⟩ := (c2 (hd { on := 2, ground := Ground.data } (by simp) rfl)).any
      have ow : IntKind.i64.wrap (x - 100) = x - 100 := wrap_in (by omega) (by omega)
      refine wpOp_step rfl (fun K hK => ?_)
      go_simp
      refine hK _ _ ?_
      exact ⟨l0, l1, l2, true, l4, l5, l6, l7, l8, l9, l10, l11, l12, l13, l14, l15, l16, l17, _, _, _, _, _, _, _, _, _, _, _, _, _, _, _, _, _, _, _, _, _, _, _, M, xR, yR, c0, c1, c2, fun _ => ⟨_, rfl, by omega, by omega⟩, c4, c5, c6, c7, c8, c9, c10, c11, c12, c13, c14, c15, c16, c17, hM, G, oR⟩
    · obtain ⟨x, rfl, h0, h1⟩ := (c3 (hd { on := 3, ground := Ground.data } (by simp) rfl)).any
      have ow : IntKind.i64.wrap (x - 1) = x - 1 := wrap_in (by omega) (by omega)
      refine wpOp_step rfl (fun K hK => ?_)
      go_simp
      refine hK _ _ ?_
      exact ⟨l0, l1, l2, l3, true, l5, l6, l7, l8, l9, l10, l11, l12, l13, l14, l15, l16, l17, _, _, _, _, _, _, _, _, _, _, _, _, _, _, _, _, _, _, _, _, _, _, _, M, xR, yR, c0, c1, c2, c3, fun _ => ⟨_, rfl, by omega, by omega⟩, c5, c6, c7, c8, c9, c10, c11, c12, c13, c14, c15, c16, c17, hM, G, oR⟩
    · skip
      refine wpOp_step rfl (fun K hK => ?_)
      go_simp
      refine hK _ _ ?_
      exact ⟨l0, l1, l2, l3, l4, true, l6, l7, l8, l9, l10, l11, l12, l13, l14, l15, l16, l17, _, _, _, _, _, _, _, _, _, _, _, _, _, _, _, _, _, _, _, _, _, _, _, M, xR, yR, c0, c1, c2, c3, c4, fun _ => rfl, c6, c7, c8, c9, c10, c11, c12, c13, c14, c15, c16, c17, hM, G, oR⟩
    · obtain rfl := c5 (hd { on := 5, ground := Ground.data } (by simp) rfl)
      have e6 : l6 = false := hl
      subst e6
      refine wpOp_step rfl (fun K hK => ?_)
      go_simp
      refine (gpick 20 (by omega) G (by omega)).mono ?_
      rintro e u' ⟨xk, h0, h1, rfl, G', KA, hg⟩
      refine hK _ _ ?_
      exact ⟨l0, l1, l2, l3, l4, l5, true, l7, l8, l9, l10, l11, l12, l13, l14, l15, l16, l17, _, _, _, _, _, _, _, _, _, _, _, _, _, _, _, _, _, _, _, _, _, _, _, (M + 1), xR, yR, c0, c1, c2, c3, c4, c5, fun _ => ⟨xk, rfl, h0, by omega⟩, fun h => (c7 h).keep KA, fun h => (c8 h).keep KA, c9, c10, fun h => (c11 h).keep KA, c12, fun h => (c13 h).keep KA, c14, c15, c16, c17, by simp only [Bool.false_eq_true, if_false, if_true] at hM ⊢; omega, G', oR.grown hg (by omega)⟩
    · have hlt := G.rd.lt
      obtain ⟨q0, rfl, q00, q01⟩ := (c6 (hd { on := 6, ground := Ground.data } (by simp) rfl)).any
      have HA := Lib.hid (GArr.new (r := (w.heap.size + 1)) u [q0, 0, (-1), 101] [.int .i64 q0, .int .i64 0, .int .i64 (-1), .int .i64 101] rfl 3 hlt)
      refine wpOp_step rfl (fun K hK => ?_)
      go_simp
      refine hK _ _ ?_
      exact ⟨l0, l1, l2, l3, l4, l5, l6, true, l8, l9, l10, l11, l12, l13, l14, l15, l16, l17, _, _, _, _, _, _, _, _, _, _, _, _, _, _, _, _, _, _, _, _, _, _, _, M, xR, yR, c0, c1, c2, c3, c4, c5, c6, fun _ => ⟨_, [q0, 0, (-1), 101], rfl, rfl, by intro z hz; simp at hz; omega, HA.out⟩, fun h => (c8 h).keep (GKeeps.alloc (w.heap.size + 1) u _), c9, c10, fun h => (c11 h).keep (GKeeps.alloc (w.heap.size + 1) u _), c12, fun h => (c13 h).keep (GKeeps.alloc (w.heap.size + 1) u _), c14, c15, c16, c17, hM, G.next (below_box u _), oR.alloc _⟩
    · have hlt := G.rd.lt
      have HA := Lib.hid (GArr.new (r := (w.heap.size + 1)) u [0, 0, 0, 1, 1, 2, 3] [.int .i64 0, .int .i64 0, .int .i64 0, .int .i64 1, .int .i64 1, .int .i64 2, .int .i64 3] rfl 3 hlt)
      refine wpOp_step rfl (fun K hK => ?_)
      go_simp
      refine hK _ _ ?_
      exact ⟨l0, l1, l2, l3, l4, l5, l6, l7, true, l9, l10, l11, l12, l13, l14, l15, l16, l17, _, _, _, _, _, _, _, _, _, _, _, _, _, _, _, _, _, _, _, _, _, _, _, M, xR, yR, c0, c1, c2, c3, c4, c5, c6, fun h => (c7 h).keep (GKeeps.alloc (w.heap.size + 1) u _), fun _ => ⟨_, [0, 0, 0, 1, 1, 2, 3], rfl, rfl, by intro z hz; simp at hz; omega, HA.out⟩, c9, c10, fun h => (c11 h).keep (GKeeps.alloc (w.heap.size + 1) u _), c12, fun h => (c13 h).keep (GKeeps.alloc (w.heap.size + 1) u _), c14, c15, c16, c17, hM, G.next (below_box u _), oR.alloc _⟩
    · skip
      refine wpOp_step rfl (fun K hK => ?_)
      go_simp
      refine hK _ _ ?_
      exact ⟨l0, l1, l2, l3, l4, l5, l6, l7, l8, true, l10, l11, l12, l13, l14, l15, l16, l17, _, _, _, _, _, _, _, _, _, _, _, _, _, _, _, _, _, _, _, _, _, _, _, M, xR, yR, c0, c1, c2, c3, c4, c5, c6, c7, c8, fun _ => rfl, c10, c11, c12, c13, c14, c15, c16, c17, hM, G, oR⟩
    · obtain rfl := c9 (hd { on := 9, ground := Ground.data } (by simp) rfl)
      have e10 : l10 = false := hl
      subst e10
      refine wpOp_step rfl (fun K hK => ?_)
      go_simp
      refine (gpick 7 (by omega) G (by omega)).mono ?_
      rintro e u' ⟨xk, h0, h1, rfl, G', KA, hg⟩
      refine hK _ _ ?_
      exact ⟨l0, l1, l2, l3, l4, l5, l6, l7, l8, l9, true, l11, l12, l13, l14, l15, l16, l17, _, _, _, _, _, _, _, _, _, _, _, _, _, _, _, _, _, _, _, _, _, _, _, (M + 1), xR, yR, c0, c1, c2, c3, c4, c5, c6, fun h => (c7 h).keep KA, fun h => (c8 h).keep KA, c9, fun _ => ⟨xk, rfl, h0, by omega⟩, fun h => (c11 h).keep KA, c12, fun h => (c13 h).keep KA, c14, c15, c16, c17, by simp only [Bool.false_eq_true, if_false, if_true] at hM ⊢; omega, G', oR.grown hg (by omega)⟩
    · obtain ⟨b, rfl, hx⟩ := (c8 (hd { on := 8, ground := Ground.data } (by simp) rfl)).index
      obtain ⟨xk, rfl, x0, x1⟩ := (c10 (hd { on := 10, ground := Ground.data } (by simp) rfl)).any
      have x2 : xk < 7 := by omega
      have HX := Lib.hid (hx xk x0 (by omega))
      refine wpOp_step rfl (fun K hK => ?_)
      go_simp
      refine hK _ _ ?_
      exact ⟨l0, l1, l2, l3, l4, l5, l6, l7, l8, l9, l10, true, l12, l13, l14, l15, l16, l17, _, _, _, _, _, _, _, _, _, _, _, _, _, _, _, _, _, _, _, _, _, _, _, M, xR, yR, c0, c1, c2, c3, c4, c5, c6, c7, c8, c9, c10, fun _ => HX.out, c12, c13, c14, c15, c16, c17, hM, G, oR⟩
    · obtain ⟨b, k, z, rfl, ck, k0, k1⟩ := (c11 (hd { on := 11, ground := Ground.data } (by simp) rfl)).load
      refine wpOp_step rfl (fun K hK => ?_)
      go_simp
      refine hK _ _ ?_
      exact ⟨l0, l1, l2, l3, l4, l5, l6, l7, l8, l9, l10, l11, true, l13, l14, l15, l16, l17, _, _, _, _, _, _, _, _, _, _, _, _, _, _, _, _, _, _, _, _, _, _, _, M, xR, yR, c0, c1, c2, c3, c4, c5, c6, c7, c8, c9, c10, c11, fun _ => ⟨z, rfl, k0, k1⟩, c13, c14, c15, c16, c17, hM, G, oR⟩
    · obtain ⟨b, rfl, hx⟩ := (c7 (hd { on := 7, ground := Ground.data } (by simp) rfl)).index
      obtain ⟨xk, rfl, x0, x1⟩ := (c12 (hd { on := 12, ground := Ground.data } (by simp) rfl)).any
      have x2 : xk < 4 := by omega
      have HX := Lib.hid (hx xk x0 (by omega))
      refine wpOp_step rfl (fun K hK => ?_)
      go_simp
      refine hK _ _ ?_
      exact ⟨l0, l1, l2, l3, l4, l5, l6, l7, l8, l9, l10, l11, l12, true, l14, l15, l16, l17, _, _, _, _, _, _, _, _, _, _, _, _, _, _, _, _, _, _, _, _, _, _, _, M, xR, yR, c0, c1, c2, c3, c4, c5, c6, c7, c8, c9, c10, c11, c12, fun _ => HX.out, c14, c15, c16, c17, hM, G, oR⟩
    · obtain ⟨b, k, z, rfl, ck, k0, k1⟩ := (c13 (hd { on := 13, ground := Ground.data } (by simp) rfl)).load
      refine wpOp_step rfl (fun K hK => ?_)
      go_simp
      refine hK _ _ ?_
      exact ⟨l0, l1, l2, l3, l4, l5, l6, l7, l8, l9, l10, l11, l12, l13, true, l15, l16, l17, _, _, _, _, _, _, _, _, _, _, _, _, _, _, _, _, _, _, _, _, _, _, _, M, xR, yR, c0, c1, c2, c3, c4, c5, c6, c7, c8, c9, c10, c11, c12, c13, fun _ => ⟨z, rfl, k0, k1⟩, c15, c16, c17, hM, G, oR⟩
    · obtain rfl := c0 (hd { on := 0, ground := Ground.data } (by simp) rfl)
      obtain ⟨⟨_, q0, q1⟩, y0, y1⟩ := id oR
      have HG := Lib.hid (G.set2 (k := w.heap.size) (by simp) gR (by omega) (.int .i64 x) (.int .i64 y))
      have HK := Lib.hid (GKeeps.set2 (r := (w.heap.size + 1)) (c := w.heap.size) u (.int .i64 x) (.int .i64 y) lR)
      refine wpOp_step rfl (fun K hK => ?_)
      go_simp
      refine hK _ _ ?_
      exact ⟨l0, l1, l2, l3, l4, l5, l6, l7, l8, l9, l10, l11, l12, l13, l14, true, l16, l17, _, _, _, _, _, _, _, _, _, _, _, _, _, _, _, _, _, _, _, _, _, _, _, M, x, y, c0, c1, c2, c3, c4, c5, c6, fun h => (c7 h).keep HK.out, fun h => (c8 h).keep HK.out, c9, c10, fun h => (c11 h).keep HK.out, c12, fun h => (c13 h).keep HK.out, c14, fun _ => ⟨rfl, rfl⟩, c16, c17, hM, HG.out, (oR.put0 x).put1 y⟩
    · obtain ⟨x, rfl, h0, h1⟩ := (c4 (hd { on := 4, ground := Ground.data } (by simp) rfl)).any
      refine wpOp_step rfl (fun K hK => ?_)
      go_simp
      refine hK _ _ ?_
      exact ⟨l0, l1, l2, l3, l4, l5, l6, l7, l8, l9, l10, l11, l12, l13, l14, l15, true, l17, _, _, _, _, _, _, _, _, _, _, _, _, _, _, _, _, _, _, _, _, _, _, _, M, xR, yR, c0, c1, c2, c3, c4, c5, c6, c7, c8, c9, c10, c11, c12, c13, c14, c15, fun _ => ⟨x, rfl, h0, h1⟩, c17, hM, G, oR⟩
    · obtain ⟨x, rfl, h0, h1⟩ := (c14 (hd { on := 14, ground := Ground.data } (by simp) rfl)).any
      refine wpOp_step rfl (fun K hK => ?_)
      go_simp
      refine hK _ _ ?_
      exact ⟨l0, l1, l2, l3, l4, l5, l6, l7, l8, l9, l10, l11, l12, l13, l14, l15, l16, true, _, _, _, _, _, _, _, _, _, _, _, _, _, _, _, _, _, _, _, _, _, _, _, M, xR, yR, c0, c1, c2, c3, c4, c5, c6, c7, c8, c9, c10, c11, c12, c13, c14, c15, c16, fun _ => ⟨x, rfl, h0, h1⟩, hM, G, oR⟩
  case hlt => exact backB_spec (by kernel_rfl)
  case hsz => exact fun listed a u h => h.size
  case hdone =>
    intro listed act u9 hR hall
    obtain ⟨l0, l1, l2, l3, l4, l5, l6, l7, l8, l9, l10, l11, l12, l13, l14, l15, l16, l17, v3, v4, v11, v12, v13, v14, v15, v16, v17, v18, v19, v20, v21, v22, v23, v24, v25, p0, p1, p7, p8, p9, p10, M1, xR, yR, c0, c1, c2, c3, c4, c5, c6, c7, c8, c9, c10, c11, c12, c13, c14, c15, c16, c17, hM, G, oR⟩ := hR
    obtain ⟨rfl, rfl⟩ := c15 (hall 15 (by decide))
    obtain ⟨t9, rfl, t0, t1⟩ := (c16 (hall 16 (by decide))).any
    obtain ⟨f9, rfl, z0, z1⟩ := (c17 (hall 17 (by decide))).any
    obtain ⟨⟨_, i0, i1⟩, _, _⟩ := id oR
    have HO := Lib.hid G.old
    clear c0 c1 c2 c3 c4 c5 c6 c7 c8 c9 c10 c11 c12 c13 c14 c15 c16 c17 hall G oR hM
    go_wp2
    exact bodyPost_ret (v := .tuple #[pt xR yR, .int .i64 t9, .int .i64 f9]) (by simp [results, Try.results18, go_sem, i0, i1]) rfl ⟨xR, yR, t9, f9, HX.out, HY.out, ⟨t0, t1⟩, ⟨z0, z1⟩, rfl, HO.out⟩
set_option maxHeartbeats 8000000 in
theorem drawAimTorque (w : World) (a : Option Addr) (len cap : Nat) (zs : List Int) (h : Bytes w a len cap zs) :
    Calls Try.prog 25 #[.slice a len cap] w (GotMA w) := by
  have O0 := OwnP.box w 0 0 24
  have H0 := below_box w (.cells #[.int .i64 0, .int .i64 0] 24)
  go_enter Try.func25, Try.ntmps25
  go_wp2_with fail
  refine (gopen w _ a len cap zs h H0 (w.heap.size + 1) (by simp)).mono ?_
  rintro e w1 ⟨rfl, hr1, hb1⟩
  have O1 := Lib.hid (O0.next hb1)
  have H1 := Lib.hid (below_call H0 hb1)
  clear O0 H0
  go_wp2_with fail
  clear hb1 h
  refine (l20Motor w w1 0 (w.heap.size + 1) 14 hr1 H1.out (by omega) (by omega) (by omega)).mono ?_
  rintro e w2 ⟨x, y, hx, hy, rfl, G2⟩
  have O2 := (G2.ownp O1.out (by omega) (by simp)).alloc (.cells #[.int .i64 x, .int .i64 y] 24)
  have PV := OwnP.box w2 x y 24
  have G3 := G2.next (below_box w2 (.cells #[.int .i64 x, .int .i64 y] 24))
  have hlr := G2.rd.lt
  have HX := Lib.hid hx
  have HY := Lib.hid hy
  clear hr1 O1 H1 G2 hx hy
  go_upto_region 3 with fail
  generalize w2.alloc (.cells #[.int .i64 x, .int .i64 y] 24) = w3 at *
  have nVr : w2.heap.size ≠ w.heap.size + 1 := by omega
  have nVs : w2.heap.size ∉ [w.heap.size] := by simp; omega
  generalize w2.heap.size = V at *
  have gR : w.heap.size ≤ w.heap.size := Nat.le_refl _
  have lR : w.heap.size < w.heap.size + 1 := by omega
  clear hlr
  go_wp2_with fail
  refine (gpick 400 (by omega) G3 (by omega)).mono ?_
  rintro e w4 ⟨x4, a4, b4, rfl, G4, _, hg4⟩
  have O4 := O2.grown hg4 (by omega)
  have P4 := PV.grown hg4 nVr
  clear hg4 G3 O2 PV
  go_wp2_with fail
  refine (gpick 14 (by omega) G4 (by omega)).mono ?_
  rintro e w5 ⟨x5, a5, b5, rfl, G5, _, hg5⟩
  have O5 := O4.grown hg5 (by omega)
  have P5 := P4.grown hg5 nVr
  obtain ⟨d5, hd5⟩ : ∃ d, x5.tdiv 13 = d := ⟨_, rfl⟩
  have d0 : 0 ≤ d5 ∧ d5 ≤ 1 := by rw [← hd5, Int.tdiv_eq_ediv_of_nonneg a5]; omega
  obtain ⟨ga, hga⟩ : ∃ g, x4 - 200 + d5 * 10000 = g := ⟨_, rfl⟩
  have q0 : IntKind.i64.wrap (x4 - 200) = x4 - 200 := wrap_in (by omega) (by omega)
  have q1 : IntKind.i64.wrap (x5.tdiv 13) = d5 := by rw [hd5]; exact wrap_in (by omega) (by omega)
  have q2 : IntKind.i64.wrap (d5 * 10000) = d5 * 10000 := wrap_in (by omega) (by omega)
  have q3 : IntKind.i64.wrap (x4 - 200 + d5 * 10000) = ga := by rw [hga]; exact wrap_in (by omega) (by omega)
  have HGA := Lib.hid (show -200 ≤ ga ∧ ga ≤ 10199 by omega)
  clear hg5 G4 O4 P4 hga hd5 a4 b4 a5 b5 d0
  go_wp2_with fail
  refine (ggain 14 (by omega) (by omega) G5 (by omega)).mono ?_
  rintro e w6 ⟨gs, s0, s1, rfl, G6, _, hg6⟩
  have O6 := O5.grown hg6 (by omega)
  have P6 := P5.grown hg6 nVr
  have HGS := Lib.hid (And.intro s0 s1)
  clear hg6 G5 O5 P5 q0 q1 q2 q3 s0 s1
  go_upto_region 5 with fail
  have hPV := P6.toAtP
  have G0 := Lib.hid ((GSt.start (rs := [w.heap.size]) G6.rd G6.old).drew)
  have oR0 := Lib.hid (O6.next (below_drew' _))
  clear G6 O6 P6
  have HM0 := Lib.hid (show 910 + 1 + 1 + 3 + (if false then 0 else 3) ≤ 1000 by decide)
  refine wp_region_inv (fun listed act u => RFMA w w6 (w.heap.size + 1) w.heap.size V x y ga gs u listed act) (by kernel_rfl) ?hlt ?hsz ?h0 ?hstep ?hdone
  case h0 =>
    exact ⟨false, false, false, false, false, false, false, false, false, _, _, _, _, _, _, _, _, _, _, _, _, _, _, _, _, _, _, _, _, _, _, _, _, _, _, _, (by intro h; cases h), (by intro h; cases h), (by intro h; cases h), (by intro h; cases h), (by intro h; cases h), (by intro h; cases h), (by intro h; cases h), (by intro h; cases h), (by intro h; cases h), HM0.out, G0.out, oR0.out⟩
  case hstep =>
    intro listed act u i o hR ho hl hd
    obtain ⟨l0, l1, l2, l3, l4, l5, l6, l7, l8, v3, v4, v5, v24, v25, v26, v27, v28, p0, p1, p10, p11, p12, p13, p14, p15, p16, p17, p18, p19, p20, p21, p22, p23, M, xR, yR, c0, c1, c2, c3, c4, c5, c6, c7, c8, hM, G, oR⟩ := hR
    have hi : i < 9 := by rcases Nat.lt_or_ge i 9 with h | h; exact h; rw [Array.getElem?_eq_none (by simpa using h)] at ho; cases ho
    have hi2 : i = 0 ∨ i = 1 ∨ i = 2 ∨ i = 3 ∨ i = 4 ∨ i = 5 ∨ i = 6 ∨ i = 7 ∨ i = 8 := by omega
    rcases hi2 with rfl | rfl | rfl | rfl | rfl | rfl | rfl | rfl | rfl
    all_goals (cases ho)
    · obtain ⟨_, k0, k1⟩ := G.atp hPV nVr nVs
      refine wpOp_step rfl (fun K hK => ?_)
      go_simp
      refine hK _ _ ?_
      exact ⟨true, l1, l2, l3, l4, l5, l6, l7, l8, _, _, _, _, _, _, _, _, _, _, _, _, _, _, _, _, _, _, _, _, _, _, _, _, M, xR, yR, fun _ => rfl, c1, c2, c3, c4, c5, c6, c7, c8, hM, G, oR⟩
    · skip
      refine wpOp_step rfl (fun K hK => ?_)
      go_simp
      refine hK _ _ ?_
      exact ⟨l0, true, l2, l3, l4, l5, l6, l7, l8, _, _, _, _, _, _, _, _, _, _, _, _, _, _, _, _, _, _, _, _, _, _, _, _, M, xR, yR, c0, fun _ => rfl, c2, c3, c4, c5, c6, c7, c8, hM, G, oR⟩
    · skip
      refine wpOp_step rfl (fun K hK => ?_)
      go_simp
      refine hK _ _ ?_
      exact ⟨l0, l1, true, l3, l4, l5, l6, l7, l8, _, _, _, _, _, _, _, _, _, _, _, _, _, _, _, _, _, _, _, _, _, _, _, _, M, xR, yR, c0, c1, fun _ => rfl, c3, c4, c5, c6, c7, c8, hM, G, oR⟩
    · skip
      refine wpOp_step rfl (fun K hK => ?_)
      go_simp
      refine hK _ _ ?_
      exact ⟨l0, l1, l2, true, l4, l5, l6, l7, l8, _, _, _, _, _, _, _, _, _, _, _, _, _, _, _, _, _, _, _, _, _, _, _, _, M, xR, yR, c0, c1, c2, fun _ => rfl, c4, c5, c6, c7, c8, hM, G, oR⟩
    · obtain rfl := c3 (hd { on := 3, ground := Ground.data } (by simp) rfl)
      have e4 : l4 = false := hl
      subst e4
      refine wpOp_step rfl (fun K hK => ?_)
      go_simp
      refine (ggain 14 (by omega) (by omega) G (by omega)).mono ?_
      rintro e u' ⟨xk, h0, h1, rfl, G', KA, hg⟩
      refine hK _ _ ?_
      exact ⟨l0, l1, l2, l3, true, l5, l6, l7, l8, _, _, _, _, _, _, _, _, _, _, _, _, _, _, _, _, _, _, _, _, _, _, _, _, (M + 3), xR, yR, c0, c1, c2, c3, fun _ => ⟨xk, rfl, h0, h1⟩, c5, c6, c7, c8, by simp only [Bool.false_eq_true, if_false, if_true] at hM ⊢; omega, G', oR.grown hg (by omega)⟩
    · obtain rfl := c0 (hd { on := 0, ground := Ground.data } (by simp) rfl)
      obtain ⟨⟨_, q0, q1⟩, y0, y1⟩ := id oR
      have HG := Lib.hid (G.set2 (k := w.heap.size) (by simp) gR (by omega) (.int .i64 x) (.int .i64 y))
      have HK := Lib.hid (GKeeps.set2 (r := (w.heap.size + 1)) (c := w.heap.size) u (.int .i64 x) (.int .i64 y) lR)
      refine wpOp_step rfl (fun K hK => ?_)
      go_simp
      refine hK _ _ ?_
      exact ⟨l0, l1, l2, l3, l4, true, l6, l7, l8, _, _, _, _, _, _, _, _, _, _, _, _, _, _, _, _, _, _, _, _, _, _, _, _, M, x, y, c0, c1, c2, c3, c4, fun _ => ⟨rfl, rfl⟩, c6, c7, c8, hM, HG.out, (oR.put0 x).put1 y⟩
    · obtain rfl := c1 (hd { on := 1, ground := Ground.data } (by simp) rfl)
      refine wpOp_step rfl (fun K hK => ?_)
      go_simp
      refine hK _ _ ?_
      exact ⟨l0, l1, l2, l3, l4, l5, true, l7, l8, _, _, _, _, _, _, _, _, _, _, _, _, _, _, _, _, _, _, _, _, _, _, _, _, M, xR, yR, c0, c1, c2, c3, c4, c5, fun _ => rfl, c7, c8, hM, G, oR⟩
    · obtain rfl := c2 (hd { on := 2, ground := Ground.data } (by simp) rfl)
      refine wpOp_step rfl (fun K hK => ?_)
      go_simp
      refine hK _ _ ?_
      exact ⟨l0, l1, l2, l3, l4, l5, l6, true, l8, _, _, _, _, _, _, _, _, _, _, _, _, _, _, _, _, _, _, _, _, _, _, _, _, M, xR, yR, c0, c1, c2, c3, c4, c5, c6, fun _ => rfl, c8, hM, G, oR⟩
    · obtain ⟨x, rfl, h0, h1⟩ := (c4 (hd { on := 4, ground := Ground.data } (by simp) rfl)).any
      refine wpOp_step rfl (fun K hK => ?_)
      go_simp
      refine hK _ _ ?_
      exact ⟨l0, l1, l2, l3, l4, l5, l6, l7, true, _, _, _, _, _, _, _, _, _, _, _, _, _, _, _, _, _, _, _, _, _, _, _, _, M, xR, yR, c0, c1, c2, c3, c4, c5, c6, c7, fun _ => ⟨x, rfl, h0, h1⟩, hM, G, oR⟩
  case hlt => exact backB_spec (by kernel_rfl)
  case hsz => exact fun listed a u h => h.size
  case hdone =>
    intro listed act u9 hR hall
    obtain ⟨l0, l1, l2, l3, l4, l5, l6, l7, l8, v3, v4, v5, v24, v25, v26, v27, v28, p0, p1, p10, p11, p12, p13, p14, p15, p16, p17, p18, p19, p20, p21, p22, p23, M1, xR, yR, c0, c1, c2, c3, c4, c5, c6, c7, c8, hM, G, oR⟩ := hR
    obtain ⟨rfl, rfl⟩ := c5 (hall 5 (by decide))
    obtain rfl := c6 (hall 6 (by decide))
    obtain rfl := c7 (hall 7 (by decide))
    obtain ⟨d9, rfl, z0, z1⟩ := (c8 (hall 8 (by decide))).any
    obtain ⟨⟨_, i0, i1⟩, _, _⟩ := id oR
    have HO := Lib.hid G.old
    clear c0 c1 c2 c3 c4 c5 c6 c7 c8 hall G oR hM
    go_wp2
    exact bodyPost_ret (v := .tuple #[pt xR yR, .int .i64 ga, .int .i64 gs, .int .i64 d9]) (by simp [results, Try.results25, go_sem, i0, i1]) rfl ⟨xR, yR, ga, gs, d9, HX.out, HY.out, HGA.out, HGS.out, ⟨z0, z1⟩, rfl, HO.out⟩
set_option maxHeartbeats 16000000 in
theorem drawRunMotor (w : World) (a : Option Addr) (len cap : Nat) (zs : List Int) (h : Bytes w a len cap zs) :
    Calls Try.prog 28 #[.slice a len cap] w (GotMR w) := by
  have O0 := OwnP.box w 0 0 24
  have H0 := below_box w (.cells #[.int .i64 0, .int .i64 0] 24)
  go_enter Try.func28, Try.ntmps28
  go_wp2_with fail
  refine (gopen w _ a len cap zs h H0 (w.heap.size + 1) (by simp)).mono ?_
  rintro e w1 ⟨rfl, hr1, hb1⟩
  have O1 := Lib.hid (O0.next hb1)
  have H1 := Lib.hid (below_call H0 hb1)
  clear O0 H0
  go_wp2_with fail
  refine (drawAimTorque w1 a len cap zs (h.below (below_call (below_box w _) hb1))).mono ?_
  rintro e w2 ⟨x, y, ga, gs, gd, hx, hy, hga, hgs, hgd, rfl, B2⟩
  have G2 := (GSt.start (rs := []) hr1 H1.out).next B2
  clear B2 hb1 h
  have O2 := (G2.ownp O1.out (by omega) (by simp)).alloc (.cells #[.int .i64 x, .int .i64 y] 24)
  have PV := OwnP.box w2 x y 24
  have G3 := G2.next (below_box w2 (.cells #[.int .i64 x, .int .i64 y] 24))
  have hlr := G2.rd.lt
  have HX := Lib.hid hx
  have HY := Lib.hid hy
  clear hr1 O1 H1 G2 hx hy
  go_upto_region 3 with fail
  generalize w2.alloc (.cells #[.int .i64 x, .int .i64 y] 24) = w3 at *
  have nVr : w2.heap.size ≠ w.heap.size + 1 := by omega
  have nVs : w2.heap.size ∉ [w.heap.size] := by simp; omega
  generalize w2.heap.size = V at *
  have gR : w.heap.size ≤ w.heap.size := Nat.le_refl _
  have lR : w.heap.size < w.heap.size + 1 := by omega
  clear hlr
  have HGA := Lib.hid hga
  have HGS := Lib.hid hgs
  have HGD := Lib.hid hgd
  clear hga hgs hgd
  have hPV := PV.toAtP
  have G0 := Lib.hid ((GSt.start (rs := [w.heap.size]) G3.rd G3.old).drew)
  have oR0 := Lib.hid (O2.next (below_drew' _))
  clear G3 O2 PV
  have HM0 := Lib.hid (show 0 + ((if false then 0 else 1) + (if false then 0 else 1) + (if false then 0 else 1) + (if false then 0 else 1)) ≤ 1000 by decide)
  refine wp_region_inv (fun listed act u => RFMR w w3 (w.heap.size + 1) w.heap.size V x y ga gs gd u listed act) (by kernel_rfl) ?hlt ?hsz ?h0 ?hstep ?hdone
  case h0 =>
    exact ⟨false, false, false, false, false, false, false, false, false, false, false, false, false, false, false, false, false, false, false, false, false, false, false, false, false, false, false, false, _, _, _, _, _, _, _, _, _, _, _, _, _, _, _, _, _, _, _, _, _, _, _, _, _, _, _, _, _, _, _, _, _, _, _, _, _, _, _, _, _, (by intro h; cases h), (by intro h; cases h), (by intro h; cases h), (by intro h; cases h), (by intro h; cases h), (by intro h; cases h), (by intro h; cases h), (by intro h; cases h), (by intro h; cases h), (by intro h; cases h), (by intro h; cases h), (by intro h; cases h), (by intro h; cases h), (by intro h; cases h), (by intro h; cases h), (by intro h; cases h), (by intro h; cases h), (by intro h; cases h), (by intro h; cases h), (by intro h; cases h), (by intro h; cases h), (by intro h; cases h), (by intro h; cases h), (by intro h; cases h), (by intro h; cases h), (by intro h; cases h), (by intro h; cases h), (by intro h; cases h), HM0.out, G0.out, oR0.out⟩
  case hstep =>
    intro listed act u i o hR ho hl hd
    obtain ⟨l0, l1, l2, l3, l4, l5, l6, l7, l8, l9, l10, l11, l12, l13, l14, l15, l16, l17, l18, l19, l20, l21, l22, l23, l24, l25, l26, l27, v3, v4, v5, v6, v7, v22, v23, v24, v25, v26, v27, v28, v29, v30, v31, v32, v33, v34, v35, v36, v37, v38, v39, v40, v41, v42, v43, p0, p1, p13, p14, p15, p16, p17, p18, p19, p20, p21, M, xR, yR, c0, c1, c2, c3, c4, c5, c6, c7, c8, c9, c10, c11, c12, c13, c14, c15, c16, c17, c18, c19, c20, c21, c22, c23, c24, c25, c26, c27, hM, G, oR⟩ := hR
    have hi : i < 28 := by rcases Nat.lt_or_ge i 28 with h | h; exact h; rw [Array.getElem?_eq_none (by simpa using h)] at ho; cases ho
    have hi2 : i = 0 ∨ i = 1 ∨ i = 2 ∨ i = 3 ∨ i = 4 ∨ i = 5 ∨ i = 6 ∨ i = 7 ∨ i = 8 ∨ i = 9 ∨ i = 10 ∨ i = 11 ∨ i = 12 ∨ i = 13 ∨ i = 14 ∨ i = 15 ∨ i = 16 ∨ i = 17 ∨ i = 18 ∨ i = 19 ∨ i = 20 ∨ i = 21 ∨ i = 22 ∨ i = 23 ∨ i = 24 ∨ i = 25 ∨ i = 26 ∨ i = 27 := by omega
    rcases hi2 with rfl | rfl | rfl | rfl | rfl | rfl | rfl | rfl | rfl | rfl | rfl | rfl | rfl | rfl | rfl | rfl | rfl | rfl | rfl | rfl | rfl | rfl | rfl | rfl | rfl | rfl | rfl | rfl
    all_goals (cases ho)
    · obtain ⟨_, k0, k1⟩ := G.atp hPV nVr nVs
      refine wpOp_step rfl (fun K hK => ?_)
      go_simp
      refine hK _ _ ?_
      exact ⟨true, l1, l2, l3, l4, l5, l6, l7, l8, l9, l10, l11, l12, l13, l14, l15, l16, l17, l18, l19, l20, l21, l22, l23, l24, l25, l26, l27, _, _, _, _, _, _, _, _, _, _, _, _, _, _, _, _, _, _, _, _, _, _, _, _, _, _, _, _, _, _, _, _, _, _, _, _, _, _, M, xR, yR, fun _ => rfl, c1, c2, c3, c4, c5, c6, c7, c8, c9, c10, c11, c12, c13, c14, c15, c16, c17, c18, c19, c20, c21, c22, c23, c24, c25, c26, c27, hM, G, oR⟩
    · skip
      refine wpOp_step rfl (fun K hK => ?_)
      go_simp
      refine hK _ _ ?_
      exact ⟨l0, true, l2, l3, l4, l5, l6, l7, l8, l9, l10, l11, l12, l13, l14, l15, l16, l17, l18, l19, l20, l21, l22, l23, l24, l25, l26, l27, _, _, _, _, _, _, _, _, _, _, _, _, _, _, _, _, _, _, _, _, _, _, _, _, _, _, _, _, _, _, _, _, _, _, _, _, _, _, M, xR, yR, c0, fun _ => rfl, c2, c3, c4, c5, c6, c7, c8, c9, c10, c11, c12, c13, c14, c15, c16, c17, c18, c19, c20, c21, c22, c23, c24, c25, c26, c27, hM, G, oR⟩
    · skip
      refine wpOp_step rfl (fun K hK => ?_)
      go_simp
      refine hK _ _ ?_
      exact ⟨l0, l1, true, l3, l4, l5, l6, l7, l8, l9, l10, l11, l12, l13, l14, l15, l16, l17, l18, l19, l20, l21, l22, l23, l24, l25, l26, l27, _, _, _, _, _, _, _, _, _, _, _, _, _, _, _, _, _, _, _, _, _, _, _, _, _, _, _, _, _, _, _, _, _, _, _, _, _, _, M, xR, yR, c0, c1, fun _ => rfl, c3, c4, c5, c6, c7, c8, c9, c10, c11, c12, c13, c14, c15, c16, c17, c18, c19, c20, c21, c22, c23, c24, c25, c26, c27, hM, G, oR⟩
    · skip
      refine wpOp_step rfl (fun K hK => ?_)
      go_simp
      refine hK _ _ ?_
      exact ⟨l0, l1, l2, true, l4, l5, l6, l7, l8, l9, l10, l11, l12, l13, l14, l15, l16, l17, l18, l19, l20, l21, l22, l23, l24, l25, l26, l27, _, _, _, _, _, _, _, _, _, _, _, _, _, _, _, _, _, _, _, _, _, _, _, _, _, _, _, _, _, _, _, _, _, _, _, _, _, _, M, xR, yR, c0, c1, c2, fun _ => rfl, c4, c5, c6, c7, c8, c9, c10, c11, c12, c13, c14, c15, c16, c17, c18, c19, c20, c21, c22, c23, c24, c25, c26, c27, hM, G, oR⟩
    · skip
      refine wpOp_step rfl (fun K hK => ?_)
      go_simp
      refine hK _ _ ?_
      exact ⟨l0, l1, l2, l3, true, l5, l6, l7, l8, l9, l10, l11, l12, l13, l14, l15, l16, l17, l18, l19, l20, l21, l22, l23, l24, l25, l26, l27, _, _, _, _, _, _, _, _, _, _, _, _, _, _, _, _, _, _, _, _, _, _, _, _, _, _, _, _, _, _, _, _, _, _, _, _, _, _, M, xR, yR, c0, c1, c2, c3, fun _ => rfl, c5, c6, c7, c8, c9, c10, c11, c12, c13, c14, c15, c16, c17, c18, c19, c20, c21, c22, c23, c24, c25, c26, c27, hM, G, oR⟩
    · obtain rfl := c4 (hd { on := 4, ground := Ground.data } (by simp) rfl)
      have e5 : l5 = false := hl
      subst e5
      refine wpOp_step rfl (fun K hK => ?_)
      go_simp
      refine (gpick 9 (by omega) G (by omega)).mono ?_
      rintro e u' ⟨xk, h0, h1, rfl, G', KA, hg⟩
      refine hK _ _ ?_
      exact ⟨l0, l1, l2, l3, l4, true, l6, l7, l8, l9, l10, l11, l12, l13, l14, l15, l16, l17, l18, l19, l20, l21, l22, l23, l24, l25, l26, l27, _, _, _, _, _, _, _, _, _, _, _, _, _, _, _, _, _, _, _, _, _, _, _, _, _, _, _, _, _, _, _, _, _, _, _, _, _, _, (M + 1), xR, yR, c0, c1, c2, c3, c4, fun _ => ⟨xk, rfl, h0, by omega⟩, fun h => (c6 h).keep KA, fun h => (c7 h).keep KA, c8, c9, fun h => (c10 h).keep KA, c11, fun h => (c12 h).keep KA, c13, c14, c15, fun h => (c16 h).keep KA, c17, c18, c19, fun h => (c20 h).keep KA, c21, c22, c23, c24, c25, c26, c27, by simp only [Bool.false_eq_true, if_false, if_true] at hM ⊢; omega, G', oR.grown hg (by omega)⟩
    · have hlt := G.rd.lt
      obtain ⟨q0, rfl, q00, q01⟩ := (c5 (hd { on := 5, ground := Ground.data } (by simp) rfl)).any
      have HA := Lib.hid (GArr.new (r := (w.heap.size + 1)) u [q0, 0, (-1)] [.int .i64 q0, .int .i64 0, .int .i64 (-1)] rfl 3 hlt)
      refine wpOp_step rfl (fun K hK => ?_)
      go_simp
      refine hK _ _ ?_
      exact ⟨l0, l1, l2, l3, l4, l5, true, l7, l8, l9, l10, l11, l12, l13, l14, l15, l16, l17, l18, l19, l20, l21, l22, l23, l24, l25, l26, l27, _, _, _, _, _, _, _, _, _, _, _, _, _, _, _, _, _, _, _, _, _, _, _, _, _, _, _, _, _, _, _, _, _, _, _, _, _, _, M, xR, yR, c0, c1, c2, c3, c4, c5, fun _ => ⟨_, [q0, 0, (-1)], rfl, rfl, by intro z hz; simp at hz; omega, HA.out⟩, fun h => (c7 h).keep (GKeeps.alloc (w.heap.size + 1) u _), c8, c9, fun h => (c10 h).keep (GKeeps.alloc (w.heap.size + 1) u _), c11, fun h => (c12 h).keep (GKeeps.alloc (w.heap.size + 1) u _), c13, c14, c15, fun h => (c16 h).keep (GKeeps.alloc (w.heap.size + 1) u _), c17, c18, c19, fun h => (c20 h).keep (GKeeps.alloc (w.heap.size + 1) u _), c21, c22, c23, c24, c25, c26, c27, hM, G.next (below_box u _), oR.alloc _⟩
    · have hlt := G.rd.lt
      have HA := Lib.hid (GArr.new (r := (w.heap.size + 1)) u [0, 0, 0, 1, 2] [.int .i64 0, .int .i64 0, .int .i64 0, .int .i64 1, .int .i64 2] rfl 3 hlt)
      refine wpOp_step rfl (fun K hK => ?_)
      go_simp
      refine hK _ _ ?_
      exact ⟨l0, l1, l2, l3, l4, l5, l6, true, l8, l9, l10, l11, l12, l13, l14, l15, l16, l17, l18, l19, l20, l21, l22, l23, l24, l25, l26, l27, _, _, _, _, _, _, _, _, _, _, _, _, _, _, _, _, _, _, _, _, _, _, _, _, _, _, _, _, _, _, _, _, _, _, _, _, _, _, M, xR, yR, c0, c1, c2, c3, c4, c5, fun h => (c6 h).keep (GKeeps.alloc (w.heap.size + 1) u _), fun _ => ⟨_, [0, 0, 0, 1, 2], rfl, rfl, by intro z hz; simp at hz; omega, HA.out⟩, c8, c9, fun h => (c10 h).keep (GKeeps.alloc (w.heap.size + 1) u _), c11, fun h => (c12 h).keep (GKeeps.alloc (w.heap.size + 1) u _), c13, c14, c15, fun h => (c16 h).keep (GKeeps.alloc (w.heap.size + 1) u _), c17, c18, c19, fun h => (c20 h).keep (GKeeps.alloc (w.heap.size + 1) u _), c21, c22, c23, c24, c25, c26, c27, hM, G.next (below_box u _), oR.alloc _⟩
    · skip
      refine wpOp_step rfl (fun K hK => ?_)
      go_simp
      refine hK _ _ ?_
      exact ⟨l0, l1, l2, l3, l4, l5, l6, l7, true, l9, l10, l11, l12, l13, l14, l15, l16, l17, l18, l19, l20, l21, l22, l23, l24, l25, l26, l27, _, _, _, _, _, _, _, _, _, _, _, _, _, _, _, _, _, _, _, _, _, _, _, _, _, _, _, _, _, _, _, _, _, _, _, _, _, _, M, xR, yR, c0, c1, c2, c3, c4, c5, c6, c7, fun _ => rfl, c9, c10, c11, c12, c13, c14, c15, c16, c17, c18, c19, c20, c21, c22, c23, c24, c25, c26, c27, hM, G, oR⟩
    · obtain rfl := c8 (hd { on := 8, ground := Ground.data } (by simp) rfl)
      have e9 : l9 = false := hl
      subst e9
      refine wpOp_step rfl (fun K hK => ?_)
      go_simp
      refine (gpick 5 (by omega) G (by omega)).mono ?_
      rintro e u' ⟨xk, h0, h1, rfl, G', KA, hg⟩
      refine hK _ _ ?_
      exact ⟨l0, l1, l2, l3, l4, l5, l6, l7, l8, true, l10, l11, l12, l13, l14, l15, l16, l17, l18, l19, l20, l21, l22, l23, l24, l25, l26, l27, _, _, _, _, _, _, _, _, _, _, _, _, _, _, _, _, _, _, _, _, _, _, _, _, _, _, _, _, _, _, _, _, _, _, _, _, _, _, (M + 1), xR, yR, c0, c1, c2, c3, c4, c5, fun h => (c6 h).keep KA, fun h => (c7 h).keep KA, c8, fun _ => ⟨xk, rfl, h0, by omega⟩, fun h => (c10 h).keep KA, c11, fun h => (c12 h).keep KA, c13, c14, c15, fun h => (c16 h).keep KA, c17, c18, c19, fun h => (c20 h).keep KA, c21, c22, c23, c24, c25, c26, c27, by simp only [Bool.false_eq_true, if_false, if_true] at hM ⊢; omega, G', oR.grown hg (by omega)⟩
    · obtain ⟨b, rfl, hx⟩ := (c7 (hd { on := 7, ground := Ground.data } (by simp) rfl)).index
      obtain ⟨xk, rfl, x0, x1⟩ := (c9 (hd { on := 9, ground := Ground.data } (by simp) rfl)).any
      have x2 : xk < 5 := by omega
      have HX := Lib.hid (hx xk x0 (by omega))
      refine wpOp_step rfl (fun K hK => ?_)
      go_simp
      refine hK _ _ ?_
      exact ⟨l0, l1, l2, l3, l4, l5, l6, l7, l8, l9, true, l11, l12, l13, l14, l15, l16, l17, l18, l19, l20, l21, l22, l23, l24, l25, l26, l27, _, _, _, _, _, _, _, _, _, _, _, _, _, _, _, _, _, _, _, _, _, _, _, _, _, _, _, _, _, _, _, _, _, _, _, _, _, _, M, xR, yR, c0, c1, c2, c3, c4, c5, c6, c7, c8, c9, fun _ => HX.out, c11, c12, c13, c14, c15, c16, c17, c18, c19, c20, c21, c22, c23, c24, c25, c26, c27, hM, G, oR⟩
    · obtain ⟨b, k, z, rfl, ck, k0, k1⟩ := (c10 (hd { on := 10, ground := Ground.data } (by simp) rfl)).load
      refine wpOp_step rfl (fun K hK => ?_)
      go_simp
      refine hK _ _ ?_
      exact ⟨l0, l1, l2, l3, l4, l5, l6, l7, l8, l9, l10, true, l12, l13, l14, l15, l16, l17, l18, l19, l20, l21, l22, l23, l24, l25, l26, l27, _, _, _, _, _, _, _, _, _, _, _, _, _, _, _, _, _, _, _, _, _, _, _, _, _, _, _, _, _, _, _, _, _, _, _, _, _, _, M, xR, yR, c0, c1, c2, c3, c4, c5, c6, c7, c8, c9, c10, fun _ => ⟨z, rfl, k0, k1⟩, c12, c13, c14, c15, c16, c17, c18, c19, c20, c21, c22, c23, c24, c25, c26, c27, hM, G, oR⟩
    · obtain ⟨b, rfl, hx⟩ := (c6 (hd { on := 6, ground := Ground.data } (by simp) rfl)).index
      obtain ⟨xk, rfl, x0, x1⟩ := (c11 (hd { on := 11, ground := Ground.data } (by simp) rfl)).any
      have x2 : xk < 3 := by omega
      have HX := Lib.hid (hx xk x0 (by omega))
      refine wpOp_step rfl (fun K hK => ?_)
      go_simp
      refine hK _ _ ?_
      exact ⟨l0, l1, l2, l3, l4, l5, l6, l7, l8, l9, l10, l11, true, l13, l14, l15, l16, l17, l18, l19, l20, l21, l22, l23, l24, l25, l26, l27, _, _, _, _, _, _, _, _, _, _, _, _, _, _, _, _, _, _, _, _, _, _, _, _, _, _, _, _, _, _, _, _, _, _, _, _, _, _, M, xR, yR, c0, c1, c2, c3, c4, c5, c6, c7, c8, c9, c10, c11, fun _ => HX.out, c13, c14, c15, c16, c17, c18, c19, c20, c21, c22, c23, c24, c25, c26, c27, hM, G, oR⟩
    · obtain ⟨b, k, z, rfl, ck, k0, k1⟩ := (c12 (hd { on := 12, ground := Ground.data } (by simp) rfl)).load
      refine wpOp_step rfl (fun K hK => ?_)
      go_simp
      refine hK _ _ ?_
      exact ⟨l0, l1, l2, l3, l4, l5, l6, l7, l8, l9, l10, l11, l12, true, l14, l15, l16, l17, l18, l19, l20, l21, l22, l23, l24, l25, l26, l27, _, _, _, _, _, _, _, _, _, _, _, _, _, _, _, _, _, _, _, _, _, _, _, _, _, _, _, _, _, _, _, _, _, _, _, _, _, _, M, xR, yR, c0, c1, c2, c3, c4, c5, c6, c7, c8, c9, c10, c11, c12, fun _ => ⟨z, rfl, k0, k1⟩, c14, c15, c16, c17, c18, c19, c20, c21, c22, c23, c24, c25, c26, c27, hM, G, oR⟩
    · skip
      refine wpOp_step rfl (fun K hK => ?_)
      go_simp
      refine hK _ _ ?_
      exact ⟨l0, l1, l2, l3, l4, l5, l6, l7, l8, l9, l10, l11, l12, l13, true, l15, l16, l17, l18, l19, l20, l21, l22, l23, l24, l25, l26, l27, _, _, _, _, _, _, _, _, _, _, _, _, _, _, _, _, _, _, _, _, _, _, _, _, _, _, _, _, _, _, _, _, _, _, _, _, _, _, M, xR, yR, c0, c1, c2, c3, c4, c5, c6, c7, c8, c9, c10, c11, c12, c13, fun _ => rfl, c15, c16, c17, c18, c19, c20, c21, c22, c23, c24, c25, c26, c27, hM, G, oR⟩
    · obtain rfl := c14 (hd { on := 14, ground := Ground.data } (by simp) rfl)
      have e15 : l15 = false := hl
      subst e15
      refine wpOp_step rfl (fun K hK => ?_)
      go_simp
      refine (gpick 30 (by omega) G (by omega)).mono ?_
      rintro e u' ⟨xk, h0, h1, rfl, G', KA, hg⟩
      refine hK _ _ ?_
      exact ⟨l0, l1, l2, l3, l4, l5, l6, l7, l8, l9, l10, l11, l12, l13, l14, true, l16, l17, l18, l19, l20, l21, l22, l23, l24, l25, l26, l27, _, _, _, _, _, _, _, _, _, _, _, _, _, _, _, _, _, _, _, _, _, _, _, _, _, _, _, _, _, _, _, _, _, _, _, _, _, _, (M + 1), xR, yR, c0, c1, c2, c3, c4, c5, fun h => (c6 h).keep KA, fun h => (c7 h).keep KA, c8, c9, fun h => (c10 h).keep KA, c11, fun h => (c12 h).keep KA, c13, c14, fun _ => ⟨xk, rfl, h0, by omega⟩, fun h => (c16 h).keep KA, c17, c18, c19, fun h => (c20 h).keep KA, c21, c22, c23, c24, c25, c26, c27, by simp only [Bool.false_eq_true, if_false, if_true] at hM ⊢; omega, G', oR.grown hg (by omega)⟩
    · have hlt := G.rd.lt
      obtain ⟨q0, rfl, q00, q01⟩ := (c15 (hd { on := 15, ground := Ground.data } (by simp) rfl)).any
      have HA := Lib.hid (GArr.new (r := (w.heap.size + 1)) u [q0, 401] [.int .i64 q0, .int .i64 401] rfl 3 hlt)
      refine wpOp_step rfl (fun K hK => ?_)
      go_simp
      refine hK _ _ ?_
      exact ⟨l0, l1, l2, l3, l4, l5, l6, l7, l8, l9, l10, l11, l12, l13, l14, l15, true, l17, l18, l19, l20, l21, l22, l23, l24, l25, l26, l27, _, _, _, _, _, _, _, _, _, _, _, _, _, _, _, _, _, _, _, _, _, _, _, _, _, _, _, _, _, _, _, _, _, _, _, _, _, _, M, xR, yR, c0, c1, c2, c3, c4, c5, fun h => (c6 h).keep (GKeeps.alloc (w.heap.size + 1) u _), fun h => (c7 h).keep (GKeeps.alloc (w.heap.size + 1) u _), c8, c9, fun h => (c10 h).keep (GKeeps.alloc (w.heap.size + 1) u _), c11, fun h => (c12 h).keep (GKeeps.alloc (w.heap.size + 1) u _), c13, c14, c15, fun _ => ⟨_, [q0, 401], rfl, rfl, by intro z hz; simp at hz; omega, HA.out⟩, c17, c18, c19, fun h => (c20 h).keep (GKeeps.alloc (w.heap.size + 1) u _), c21, c22, c23, c24, c25, c26, c27, hM, G.next (below_box u _), oR.alloc _⟩
    · skip
      refine wpOp_step rfl (fun K hK => ?_)
      go_simp
      refine hK _ _ ?_
      exact ⟨l0, l1, l2, l3, l4, l5, l6, l7, l8, l9, l10, l11, l12, l13, l14, l15, l16, true, l18, l19, l20, l21, l22, l23, l24, l25, l26, l27, _, _, _, _, _, _, _, _, _, _, _, _, _, _, _, _, _, _, _, _, _, _, _, _, _, _, _, _, _, _, _, _, _, _, _, _, _, _, M, xR, yR, c0, c1, c2, c3, c4, c5, c6, c7, c8, c9, c10, c11, c12, c13, c14, c15, c16, fun _ => rfl, c18, c19, c20, c21, c22, c23, c24, c25, c26, c27, hM, G, oR⟩
    · obtain rfl := c17 (hd { on := 17, ground := Ground.data } (by simp) rfl)
      have e18 : l18 = false := hl
      subst e18
      refine wpOp_step rfl (fun K hK => ?_)
      go_simp
      refine (gpick 12 (by omega) G (by omega)).mono ?_
      rintro e u' ⟨xk, h0, h1, rfl, G', KA, hg⟩
      refine hK _ _ ?_
      exact ⟨l0, l1, l2, l3, l4, l5, l6, l7, l8, l9, l10, l11, l12, l13, l14, l15, l16, l17, true, l19, l20, l21, l22, l23, l24, l25, l26, l27, _, _, _, _, _, _, _, _, _, _, _, _, _, _, _, _, _, _, _, _, _, _, _, _, _, _, _, _, _, _, _, _, _, _, _, _, _, _, (M + 1), xR, yR, c0, c1, c2, c3, c4, c5, fun h => (c6 h).keep KA, fun h => (c7 h).keep KA, c8, c9, fun h => (c10 h).keep KA, c11, fun h => (c12 h).keep KA, c13, c14, c15, fun h => (c16 h).keep KA, c17, fun _ => ⟨xk, rfl, h0, by omega⟩, c19, fun h => (c20 h).keep KA, c21, c22, c23, c24, c25, c26, c27, by simp only [Bool.false_eq_true, if_false, if_true] at hM ⊢; omega, G', oR.grown hg (by omega)⟩
    · obtain ⟨x, rfl, h0, h1⟩ := (c18 (hd { on := 18, ground := Ground.data } (by simp) rfl)).any
      obtain ⟨q, hq⟩ : ∃ q, x.tdiv 11 = q := ⟨_, rfl⟩
      have q0 : 0 ≤ q := by rw [← hq, Int.tdiv_eq_ediv_of_nonneg (by omega)]; omega
      have q1 : q ≤ 1 := by rw [← hq, Int.tdiv_eq_ediv_of_nonneg (by omega)]; omega
      have ow : IntKind.i64.wrap q = q := wrap_in (by omega) (by omega)
      refine wpOp_step rfl (fun K hK => ?_)
      go_simp
      refine hK _ _ ?_
      exact ⟨l0, l1, l2, l3, l4, l5, l6, l7, l8, l9, l10, l11, l12, l13, l14, l15, l16, l17, l18, true, l20, l21, l22, l23, l24, l25, l26, l27, _, _, _, _, _, _, _, _, _, _, _, _, _, _, _, _, _, _, _, _, _, _, _, _, _, _, _, _, _, _, _, _, _, _, _, _, _, _, M, xR, yR, c0, c1, c2, c3, c4, c5, c6, c7, c8, c9, c10, c11, c12, c13, c14, c15, c16, c17, c18, fun _ => ⟨_, rfl, by omega, by omega⟩, c20, c21, c22, c23, c24, c25, c26, c27, hM, G, oR⟩
    · obtain ⟨b, rfl, hx⟩ := (c16 (hd { on := 16, ground := Ground.data } (by simp) rfl)).index
      obtain ⟨xk, rfl, x0, x1⟩ := (c19 (hd { on := 19, ground := Ground.data } (by simp) rfl)).any
      have x2 : xk < 2 := by omega
      have HX := Lib.hid (hx xk x0 (by omega))
      refine wpOp_step rfl (fun K hK => ?_)
      go_simp
      refine hK _ _ ?_
      exact ⟨l0, l1, l2, l3, l4, l5, l6, l7, l8, l9, l10, l11, l12, l13, l14, l15, l16, l17, l18, l19, true, l21, l22, l23, l24, l25, l26, l27, _, _, _, _, _, _, _, _, _, _, _, _, _, _, _, _, _, _, _, _, _, _, _, _, _, _, _, _, _, _, _, _, _, _, _, _, _, _, M, xR, yR, c0, c1, c2, c3, c4, c5, c6, c7, c8, c9, c10, c11, c12, c13, c14, c15, c16, c17, c18, c19, fun _ => HX.out, c21, c22, c23, c24, c25, c26, c27, hM, G, oR⟩
    · obtain ⟨b, k, z, rfl, ck, k0, k1⟩ := (c20 (hd { on := 20, ground := Ground.data } (by simp) rfl)).load
      refine wpOp_step rfl (fun K hK => ?_)
      go_simp
      refine hK _ _ ?_
      exact ⟨l0, l1, l2, l3, l4, l5, l6, l7, l8, l9, l10, l11, l12, l13, l14, l15, l16, l17, l18, l19, l20, true, l22, l23, l24, l25, l26, l27, _, _, _, _, _, _, _, _, _, _, _, _, _, _, _, _, _, _, _, _, _, _, _, _, _, _, _, _, _, _, _, _, _, _, _, _, _, _, M, xR, yR, c0, c1, c2, c3, c4, c5, c6, c7, c8, c9, c10, c11, c12, c13, c14, c15, c16, c17, c18, c19, c20, fun _ => ⟨z, rfl, k0, k1⟩, c22, c23, c24, c25, c26, c27, hM, G, oR⟩
    · obtain rfl := c0 (hd { on := 0, ground := Ground.data } (by simp) rfl)
      obtain ⟨⟨_, q0, q1⟩, y0, y1⟩ := id oR
      have HG := Lib.hid (G.set2 (k := w.heap.size) (by simp) gR (by omega) (.int .i64 x) (.int .i64 y))
      have HK := Lib.hid (GKeeps.set2 (r := (w.heap.size + 1)) (c := w.heap.size) u (.int .i64 x) (.int .i64 y) lR)
      refine wpOp_step rfl (fun K hK => ?_)
      go_simp
      refine hK _ _ ?_
      exact ⟨l0, l1, l2, l3, l4, l5, l6, l7, l8, l9, l10, l11, l12, l13, l14, l15, l16, l17, l18, l19, l20, l21, true, l23, l24, l25, l26, l27, _, _, _, _, _, _, _, _, _, _, _, _, _, _, _, _, _, _, _, _, _, _, _, _, _, _, _, _, _, _, _, _, _, _, _, _, _, _, M, x, y, c0, c1, c2, c3, c4, c5, fun h => (c6 h).keep HK.out, fun h => (c7 h).keep HK.out, c8, c9, fun h => (c10 h).keep HK.out, c11, fun h => (c12 h).keep HK.out, c13, c14, c15, fun h => (c16 h).keep HK.out, c17, c18, c19, fun h => (c20 h).keep HK.out, c21, fun _ => ⟨rfl, rfl⟩, c23, c24, c25, c26, c27, hM, HG.out, (oR.put0 x).put1 y⟩
    · obtain rfl := c1 (hd { on := 1, ground := Ground.data } (by simp) rfl)
      refine wpOp_step rfl (fun K hK => ?_)
      go_simp
      refine hK _ _ ?_
      exact ⟨l0, l1, l2, l3, l4, l5, l6, l7, l8, l9, l10, l11, l12, l13, l14, l15, l16, l17, l18, l19, l20, l21, l22, true, l24, l25, l26, l27, _, _, _, _, _, _, _, _, _, _, _, _, _, _, _, _, _, _, _, _, _, _, _, _, _, _, _, _, _, _, _, _, _, _, _, _, _, _, M, xR, yR, c0, c1, c2, c3, c4, c5, c6, c7, c8, c9, c10, c11, c12, c13, c14, c15, c16, c17, c18, c19, c20, c21, c22, fun _ => rfl, c24, c25, c26, c27, hM, G, oR⟩
    · obtain rfl := c2 (hd { on := 2, ground := Ground.data } (by simp) rfl)
      refine wpOp_step rfl (fun K hK => ?_)
      go_simp
      refine hK _ _ ?_
      exact ⟨l0, l1, l2, l3, l4, l5, l6, l7, l8, l9, l10, l11, l12, l13, l14, l15, l16, l17, l18, l19, l20, l21, l22, l23, true, l25, l26, l27, _, _, _, _, _, _, _, _, _, _, _, _, _, _, _, _, _, _, _, _, _, _, _, _, _, _, _, _, _, _, _, _, _, _, _, _, _, _, M, xR, yR, c0, c1, c2, c3, c4, c5, c6, c7, c8, c9, c10, c11, c12, c13, c14, c15, c16, c17, c18, c19, c20, c21, c22, c23, fun _ => rfl, c25, c26, c27, hM, G, oR⟩
    · obtain rfl := c3 (hd { on := 3, ground := Ground.data } (by simp) rfl)
      refine wpOp_step rfl (fun K hK => ?_)
      go_simp
      refine hK _ _ ?_
      exact ⟨l0, l1, l2, l3, l4, l5, l6, l7, l8, l9, l10, l11, l12, l13, l14, l15, l16, l17, l18, l19, l20, l21, l22, l23, l24, true, l26, l27, _, _, _, _, _, _, _, _, _, _, _, _, _, _, _, _, _, _, _, _, _, _, _, _, _, _, _, _, _, _, _, _, _, _, _, _, _, _, M, xR, yR, c0, c1, c2, c3, c4, c5, c6, c7, c8, c9, c10, c11, c12, c13, c14, c15, c16, c17, c18, c19, c20, c21, c22, c23, c24, fun _ => rfl, c26, c27, hM, G, oR⟩
    · obtain ⟨x, rfl, h0, h1⟩ := (c13 (hd { on := 13, ground := Ground.data } (by simp) rfl)).any
      refine wpOp_step rfl (fun K hK => ?_)
      go_simp
      refine hK _ _ ?_
      exact ⟨l0, l1, l2, l3, l4, l5, l6, l7, l8, l9, l10, l11, l12, l13, l14, l15, l16, l17, l18, l19, l20, l21, l22, l23, l24, l25, true, l27, _, _, _, _, _, _, _, _, _, _, _, _, _, _, _, _, _, _, _, _, _, _, _, _, _, _, _, _, _, _, _, _, _, _, _, _, _, _, M, xR, yR, c0, c1, c2, c3, c4, c5, c6, c7, c8, c9, c10, c11, c12, c13, c14, c15, c16, c17, c18, c19, c20, c21, c22, c23, c24, c25, fun _ => ⟨x, rfl, h0, h1⟩, c27, hM, G, oR⟩
    · obtain ⟨x, rfl, h0, h1⟩ := (c21 (hd { on := 21, ground := Ground.data } (by simp) rfl)).any
      refine wpOp_step rfl (fun K hK => ?_)
      go_simp
      refine hK _ _ ?_
      exact ⟨l0, l1, l2, l3, l4, l5, l6, l7, l8, l9, l10, l11, l12, l13, l14, l15, l16, l17, l18, l19, l20, l21, l22, l23, l24, l25, l26, true, _, _, _, _, _, _, _, _, _, _, _, _, _, _, _, _, _, _, _, _, _, _, _, _, _, _, _, _, _, _, _, _, _, _, _, _, _, _, M, xR, yR, c0, c1, c2, c3, c4, c5, c6, c7, c8, c9, c10, c11, c12, c13, c14, c15, c16, c17, c18, c19, c20, c21, c22, c23, c24, c25, c26, fun _ => ⟨x, rfl, h0, h1⟩, hM, G, oR⟩
  case hlt => exact backB_spec (by kernel_rfl)
  case hsz => exact fun listed a u h => h.size
  case hdone =>
    intro listed act u9 hR hall
    obtain ⟨l0, l1, l2, l3, l4, l5, l6, l7, l8, l9, l10, l11, l12, l13, l14, l15, l16, l17, l18, l19, l20, l21, l22, l23, l24, l25, l26, l27, v3, v4, v5, v6, v7, v22, v23, v24, v25, v26, v27, v28, v29, v30, v31, v32, v33, v34, v35, v36, v37, v38, v39, v40, v41, v42, v43, p0, p1, p13, p14, p15, p16, p17, p18, p19, p20, p21, M1, xR, yR, c0, c1, c2, c3, c4, c5, c6, c7, c8, c9, c10, c11, c12, c13, c14, c15, c16, c17, c18, c19, c20, c21, c22, c23, c24, c25, c26, c27, hM, G, oR⟩ := hR
    obtain ⟨rfl, rfl⟩ := c22 (hall 22 (by decide))
    obtain rfl := c23 (hall 23 (by decide))
    obtain rfl := c24 (hall 24 (by decide))
    obtain rfl := c25 (hall 25 (by decide))
    obtain ⟨f9, rfl, t0, t1⟩ := (c26 (hall 26 (by decide))).any
    obtain ⟨n9, rfl, z0, z1⟩ := (c27 (hall 27 (by decide))).any
    obtain ⟨⟨_, i0, i1⟩, _, _⟩ := id oR
    have HO := Lib.hid G.old
    clear c0 c1 c2 c3 c4 c5 c6 c7 c8 c9 c10 c11 c12 c13 c14 c15 c16 c17 c18 c19 c20 c21 c22 c23 c24 c25 c26 c27 hall G oR hM
    go_wp2
    exact bodyPost_ret (v := .tuple #[pt xR yR, .int .i64 ga, .int .i64 gs, .int .i64 gd, .int .i64 f9, .int .i64 n9]) (by simp [results, Try.results28, go_sem, i0, i1]) rfl ⟨xR, yR, ga, gs, gd, f9, n9, HX.out, HY.out, HGA.out, HGS.out, HGD.out, ⟨t0, t1⟩, ⟨z0, z1⟩, rfl, HO.out⟩
end Go.Proofs.Ytgnchgmbflkakaa
