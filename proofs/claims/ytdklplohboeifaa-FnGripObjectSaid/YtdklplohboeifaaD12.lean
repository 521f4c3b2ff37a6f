/- What the laws on the gripper draw: two widths, a speed and an object; a force, a friction and a weight. -/
import Derived.Test.YtdklplohboeifaaZbInv
import Derived.Test.YtdklplohboeifaaGc12
namespace Go.Proofs.Ytdklplohboeifaa
set_option maxRecDepth 100000
open Go.RowKit
attribute [local go_sem ↓] Go.wp_at_zero Go.wp_at_succ
/-- What holds when the operations of 'listed' have come up. -/
inductive RFGrip (w w0 : World) (r  : Nat) (xw xt xs : Int) (u : World) : Array Bool → Act → Prop
  | mk (l0 l1 l2 l3 l4 l5 l6 l7 l8 l9 l10 l11 l12 l13 l14 l15 l16 l17 l18 l19 l20 l21 l22 l23 l24 l25 l26 l27 : Bool) (v2 v3 v4 v5 v28 v29 v30 v31 v32 v33 v34 v35 v36 v37 v38 v39 v40 v41 v42 v43 v44 v45 v46 v47 v48 v49 v50 v51 p0 p1 p10 p11 p12 p13 p14 p15 p16 p17 p18 p19 p20 p21 p22 p23 p24 p25 p26 p27 : Value) (M : Nat)
    (c0 : l0 = true → v28 = .int .i64 xw) (c1 : l1 = true → CI (0) (200) v29) (c2 : l2 = true → CI (-1) (201) v30) (c3 : l3 = true → CA r u 3 (-1) (201) v31) (c4 : l4 = true → v32 = .pointer (some ⟨r, 0, none⟩)) (c5 : l5 = true → CI 0 2 v33) (c6 : l6 = true → CP r u (-1) (201) v34) (c7 : l7 = true → CI (-1) (201) v35) (c8 : l8 = true → v36 = .int .i64 xs) (c9 : l9 = true → v37 = .pointer (some ⟨r, 0, none⟩)) (c10 : l10 = true → CI 0 200 v38) (c11 : l11 = true → v39 = .int .i64 xw) (c12 : l12 = true → v40 = .pointer (some ⟨r, 0, none⟩)) (c13 : l13 = true → CI 0 8 v41) (c14 : l14 = true → CI (-9) 201 v42) (c15 : l15 = true → CI 0 201 v43) (c16 : l16 = true → CA r u 4 (0) (201) v44) (c17 : l17 = true → CA r u 7 (0) (3) v45) (c18 : l18 = true → v46 = .pointer (some ⟨r, 0, none⟩)) (c19 : l19 = true → CI 0 6 v47) (c20 : l20 = true → CP r u (0) (3) v48) (c21 : l21 = true → CI (0) (3) v49) (c22 : l22 = true → CP r u (0) (201) v50) (c23 : l23 = true → CI (0) (201) v51) (c24 : l24 = true → v2 = .int .i64 xw) (c25 : l25 = true → CI (-1) (201) v3) (c26 : l26 = true → v4 = .int .i64 xs) (c27 : l27 = true → CI (0) (201) v5)
    (hM : M + ((if l5 then 0 else 1) + (if l10 then 0 else 1) + (if l13 then 0 else 1) + (if l19 then 0 else 1)) ≤ 900) (G : GSt w w0 r [] M u) : RFGrip w w0 r   xw xt xs u #[l0, l1, l2, l3, l4, l5, l6, l7, l8, l9, l10, l11, l12, l13, l14, l15, l16, l17, l18, l19, l20, l21, l22, l23, l24, l25, l26, l27] { tmps := #[p0, p1, v2, v3, v4, v5, .pointer (some ⟨r, 0, none⟩), .int .i64 xw, .int .i64 xt, .int .i64 xs, p10, p11, p12, p13, p14, p15, p16, p17, p18, p19, p20, p21, p22, p23, p24, p25, p26, p27, v28, v29, v30, v31, v32, v33, v34, v35, v36, v37, v38, v39, v40, v41, v42, v43, v44, v45, v46, v47, v48, v49, v50, v51], defers := [] }
theorem RFGrip.size {w w0 : World} {r  : Nat} {xw xt xs : Int} {u : World} {listed : Array Bool} {a : Act} (h : RFGrip w w0 r   xw xt xs u listed a) : listed.size = 28 := by cases h; rfl
/-- What holds when the operations of 'listed' have come up. -/
inductive RFHold (w w0 : World) (r  : Nat) (xf xu m q : Int) (u : World) : Array Bool → Act → Prop
  | mk (l0 l1 l2 l3 l4 l5 l6 l7 l8 l9 l10 l11 l12 l13 l14 l15 l16 l17 l18 l19 l20 l21 : Bool) (v2 v3 v4 v20 v21 v22 v23 v24 v25 v26 v27 v28 v29 v30 v31 v32 v33 v34 v35 v36 v37 v38 p0 p1 p8 p9 p10 p11 p12 p13 p14 p15 p16 p17 p18 p19 : Value) (M : Nat)
    (c0 : l0 = true → v20 = .int .i64 xf) (c1 : l1 = true → v21 = .int .i64 xu) (c2 : l2 = true → v22 = .pointer (some ⟨r, 0, none⟩)) (c3 : l3 = true → CI 0 255 v23) (c4 : l4 = true → CI (0) (1020) v24) (c5 : l5 = true → v25 = .int .i64 xf) (c6 : l6 = true → v26 = .int .i64 xu) (c7 : l7 = true → v27 = .int .i64 m) (c8 : l8 = true → CI (-21) 4101 v28) (c9 : l9 = true → v29 = .int .i64 xf) (c10 : l10 = true → v30 = .int .i64 xu) (c11 : l11 = true → v31 = .int .i64 m) (c12 : l12 = true → CI (-21) 4101 v32) (c13 : l13 = true → CI (-20) (4102) v33) (c14 : l14 = true → CA r u 3 (-21) (4102) v34) (c15 : l15 = true → v35 = .pointer (some ⟨r, 0, none⟩)) (c16 : l16 = true → CI 0 2 v36) (c17 : l17 = true → CP r u (-21) (4102) v37) (c18 : l18 = true → CI (-21) (4102) v38) (c19 : l19 = true → v2 = .int .i64 xf) (c20 : l20 = true → v3 = .int .i64 xu) (c21 : l21 = true → CI (-21) (4102) v4)
    (hM : M + ((if l3 then 0 else 1) + (if l16 then 0 else 1)) ≤ 900) (G : GSt w w0 r [] M u) : RFHold w w0 r   xf xu m q u #[l0, l1, l2, l3, l4, l5, l6, l7, l8, l9, l10, l11, l12, l13, l14, l15, l16, l17, l18, l19, l20, l21] { tmps := #[p0, p1, v2, v3, v4, .pointer (some ⟨r, 0, none⟩), .int .i64 xf, .int .i64 xu, p8, p9, p10, p11, p12, p13, p14, p15, p16, p17, p18, p19, v20, v21, v22, v23, v24, v25, v26, v27, v28, v29, v30, v31, v32, v33, v34, v35, v36, v37, v38], defers := [] }
theorem RFHold.size {w w0 : World} {r  : Nat} {xf xu m q : Int} {u : World} {listed : Array Bool} {a : Act} (h : RFHold w w0 r   xf xu m q u listed a) : listed.size = 22 := by cases h; rfl
/-- What the draw of a gripper says. -/
def GotG (w : World) (e : Ending) (w' : World) : Prop :=
  ∃ x t s o : Int, (-1 ≤ x ∧ x ≤ 201) ∧ (-1 ≤ t ∧ t ≤ 201) ∧ (0 ≤ s ∧ s ≤ 200) ∧ (0 ≤ o ∧ o ≤ 201) ∧ e = .returned (.tuple #[.int .i64 x, .int .i64 t, .int .i64 s, .int .i64 o]) ∧ Below w.heap.size w w'
set_option maxHeartbeats 8000000 in
theorem drawGripStep (w : World) (a : Option Addr) (len cap : Nat) (zs : List Int) (h : Bytes w a len cap zs) :
    Calls Try.prog 10 #[.slice a len cap] w (GotG w) := by
  go_enter Try.func10, Try.ntmps10
  go_wp2_with fail
  refine (gopen w _ a len cap zs h (Below.refl _ _) w.heap.size rfl).mono ?_
  rintro e w1 ⟨rfl, hr1, hb1⟩
  have G1 := Lib.hid (GSt.start (rs := []) hr1 hb1)
  clear hb1 h
  go_wp2_with fail
  refine (gpick 203 (by omega) G1.out (by omega)).mono ?_
  rintro e w2 ⟨xw0, a2, b2, rfl, G2', _, _⟩
  have G2 := Lib.hid G2'
  obtain ⟨xw, hxw⟩ : ∃ xw, xw0 - 1 = xw := ⟨_, rfl⟩
  have hw0 : -1 ≤ xw := by omega
  have hw1 : xw ≤ 201 := by omega
  have o1 : IntKind.i64.wrap (xw0 - 1) = xw := hxw ▸ IntWalk.i64_in _ (by omega)
  clear a2 b2 G2' G1 hr1 hxw
  go_wp2_with fail
  refine (gpick 201 (by omega) G2.out (by omega)).mono ?_
  rintro e w3 ⟨xt, ht0, ht1, rfl, G3', _, _⟩
  have G3 := Lib.hid G3'
  clear G3' G2 o1
  go_upto_region 4 with fail
  go_cut [9] from 17 to 27 (fun v wx => ∃ xs : Int, v = .int .i64 xs ∧ 0 ≤ xs ∧ xs ≤ 200 ∧ Hid (Rd w.heap.size 4 wx w.heap.size) ∧ Hid (Below w.heap.size w wx))
  case first =>
    go_wp2_with fail
    refine (gpick 30 (by omega) G3.out (by omega)).mono ?_
    rintro e w4 ⟨x4, a4, b4, rfl, G4', _, _⟩
    have G4 := Lib.hid (((G4'.next (below_box w4 (.cells #[.int .i64 (1 + x4), .int .i64 0, .int .i64 200] 3)))).next (below_box _ (.cells #[.int .i64 0, .int .i64 0, .int .i64 0, .int .i64 0, .int .i64 1, .int .i64 2] 3)))
    have hlt := G4'.rd.lt
    clear G4' G3
    go_wp2_with fail
    refine (gpick 6 (by omega) G4.out (by omega)).mono ?_
    rintro e w5 ⟨x5, a5, b5, rfl, G5', _, hg5⟩
    have f1 := fun o => hg5.cell_far ⟨w4.heap.size + 1, o, none⟩ (by simp) (by simp; omega)
    have f0 := fun o => hg5.cell_far ⟨w4.heap.size, o, none⟩ (by simp; omega) (by simp; omega)
    have G5 := Lib.hid G5'
    clear G5' hg5 G4
    have hx : x5 = 0 ∨ x5 = 1 ∨ x5 = 2 ∨ x5 = 3 ∨ x5 = 4 ∨ x5 = 5 := by omega
    clear a5 b5
    rcases hx with rfl | rfl | rfl | rfl | rfl | rfl
    all_goals
      go_wp2_with fail
      go_meet
      refine ⟨_, rfl, ?_, ?_, Lib.hid G5.out.rd, Lib.hid G5.out.old⟩ <;> omega
  case rest =>
    obtain ⟨xs, rfl, hs0, hs1, HR, HO⟩ := hcut
    have G0 := Lib.hid ((GSt.start (rs := []) HR.out HO.out).drew)
    have HM0 := Lib.hid (show 4 + ((if false then 0 else 1) + (if false then 0 else 1) + (if false then 0 else 1) + (if false then 0 else 1)) ≤ 900 by decide)
    clear HR HO G3
    go_upto_region 5 with fail
    refine wp_region_inv (fun listed act u => RFGrip w wc w.heap.size   xw xt xs u listed act) (by kernel_rfl) ?hlt ?hsz ?h0 ?hstep ?hdone
    case h0 =>
      exact ⟨false, false, false, false, false, false, false, false, false, false, false, false, false, false, false, false, false, false, false, false, false, false, false, false, false, false, false, false, _, _, _, _, _, _, _, _, _, _, _, _, _, _, _, _, _, _, _, _, _, _, _, _, _, _, _, _, _, _, _, _, _, _, _, _, _, _, _, _, _, _, _, _, _, _, _, _, _, (by intro h; cases h), (by intro h; cases h), (by intro h; cases h), (by intro h; cases h), (by intro h; cases h), (by intro h; cases h), (by intro h; cases h), (by intro h; cases h), (by intro h; cases h), (by intro h; cases h), (by intro h; cases h), (by intro h; cases h), (by intro h; cases h), (by intro h; cases h), (by intro h; cases h), (by intro h; cases h), (by intro h; cases h), (by intro h; cases h), (by intro h; cases h), (by intro h; cases h), (by intro h; cases h), (by intro h; cases h), (by intro h; cases h), (by intro h; cases h), (by intro h; cases h), (by intro h; cases h), (by intro h; cases h), (by intro h; cases h), HM0.out, G0.out⟩
    case hstep =>
      intro listed act u i o hR ho hl hd
      obtain ⟨l0, l1, l2, l3, l4, l5, l6, l7, l8, l9, l10, l11, l12, l13, l14, l15, l16, l17, l18, l19, l20, l21, l22, l23, l24, l25, l26, l27, v2, v3, v4, v5, v28, v29, v30, v31, v32, v33, v34, v35, v36, v37, v38, v39, v40, v41, v42, v43, v44, v45, v46, v47, v48, v49, v50, v51, p0, p1, p10, p11, p12, p13, p14, p15, p16, p17, p18, p19, p20, p21, p22, p23, p24, p25, p26, p27, M, c0, c1, c2, c3, c4, c5, c6, c7, c8, c9, c10, c11, c12, c13, c14, c15, c16, c17, c18, c19, c20, c21, c22, c23, c24, c25, c26, c27, hM, G⟩ := hR
      have hi : i < 28 := by rcases Nat.lt_or_ge i 28 with h | h; exact h; rw [Array.getElem?_eq_none (by simpa using h)] at ho; cases ho
      have hi2 : i = 0 ∨ i = 1 ∨ i = 2 ∨ i = 3 ∨ i = 4 ∨ i = 5 ∨ i = 6 ∨ i = 7 ∨ i = 8 ∨ i = 9 ∨ i = 10 ∨ i = 11 ∨ i = 12 ∨ i = 13 ∨ i = 14 ∨ i = 15 ∨ i = 16 ∨ i = 17 ∨ i = 18 ∨ i = 19 ∨ i = 20 ∨ i = 21 ∨ i = 22 ∨ i = 23 ∨ i = 24 ∨ i = 25 ∨ i = 26 ∨ i = 27 := by omega
      rcases hi2 with rfl | rfl | rfl | rfl | rfl | rfl | rfl | rfl | rfl | rfl | rfl | rfl | rfl | rfl | rfl | rfl | rfl | rfl | rfl | rfl | rfl | rfl | rfl | rfl | rfl | rfl | rfl | rfl
      all_goals (cases ho)
      · skip
        refine wpOp_step rfl (fun K hK => ?_)
        go_simp
        refine hK _ _ ?_
        exact ⟨true, l1, l2, l3, l4, l5, l6, l7, l8, l9, l10, l11, l12, l13, l14, l15, l16, l17, l18, l19, l20, l21, l22, l23, l24, l25, l26, l27, _, _, _, _, _, _, _, _, _, _, _, _, _, _, _, _, _, _, _, _, _, _, _, _, _, _, _, _, _, _, _, _, _, _, _, _, _, _, _, _, _, _, _, _, _, _, _, _, M, fun _ => rfl, c1, c2, c3, c4, c5, c6, c7, c8, c9, c10, c11, c12, c13, c14, c15, c16, c17, c18, c19, c20, c21, c22, c23, c24, c25, c26, c27, hM, G⟩
      · skip
        all_goals
          refine wpOp_step rfl (fun K hK => ?_)
          go_simp
          refine hK _ _ ?_
          exact ⟨l0, true, l2, l3, l4, l5, l6, l7, l8, l9, l10, l11, l12, l13, l14, l15, l16, l17, l18, l19, l20, l21, l22, l23, l24, l25, l26, l27, _, _, _, _, _, _, _, _, _, _, _, _, _, _, _, _, _, _, _, _, _, _, _, _, _, _, _, _, _, _, _, _, _, _, _, _, _, _, _, _, _, _, _, _, _, _, _, _, M, c0, fun _ => ⟨xt, rfl, by omega, by omega⟩, c2, c3, c4, c5, c6, c7, c8, c9, c10, c11, c12, c13, c14, c15, c16, c17, c18, c19, c20, c21, c22, c23, c24, c25, c26, c27, hM, G⟩
      · skip
        all_goals
          refine wpOp_step rfl (fun K hK => ?_)
          go_simp
          refine hK _ _ ?_
          exact ⟨l0, l1, true, l3, l4, l5, l6, l7, l8, l9, l10, l11, l12, l13, l14, l15, l16, l17, l18, l19, l20, l21, l22, l23, l24, l25, l26, l27, _, _, _, _, _, _, _, _, _, _, _, _, _, _, _, _, _, _, _, _, _, _, _, _, _, _, _, _, _, _, _, _, _, _, _, _, _, _, _, _, _, _, _, _, _, _, _, _, M, c0, c1, fun _ => ⟨xw, rfl, by omega, by omega⟩, c3, c4, c5, c6, c7, c8, c9, c10, c11, c12, c13, c14, c15, c16, c17, c18, c19, c20, c21, c22, c23, c24, c25, c26, c27, hM, G⟩
      · have hlt := G.rd.lt
        obtain ⟨q0, rfl, q00, q01⟩ := (c1 (hd { on := 1, ground := Ground.data } (by simp) rfl)).any
        obtain ⟨q2, rfl, q20, q21⟩ := (c2 (hd { on := 2, ground := Ground.data } (by simp) rfl)).any
        have HA := Lib.hid (GArr.new (r := w.heap.size) u [q0, 0, q2] [.int .i64 q0, .int .i64 0, .int .i64 q2] rfl 3 hlt)
        refine wpOp_step rfl (fun K hK => ?_)
        go_simp
        refine hK _ _ ?_
        exact ⟨l0, l1, l2, true, l4, l5, l6, l7, l8, l9, l10, l11, l12, l13, l14, l15, l16, l17, l18, l19, l20, l21, l22, l23, l24, l25, l26, l27, _, _, _, _, _, _, _, _, _, _, _, _, _, _, _, _, _, _, _, _, _, _, _, _, _, _, _, _, _, _, _, _, _, _, _, _, _, _, _, _, _, _, _, _, _, _, _, _, M, c0, c1, c2, fun _ => ⟨_, [q0, 0, q2], rfl, rfl, by intro z hz; simp at hz; omega, HA.out⟩, c4, c5, fun h => (c6 h).keep (GKeeps.alloc w.heap.size u _), c7, c8, c9, c10, c11, c12, c13, c14, c15, fun h => (c16 h).keep (GKeeps.alloc w.heap.size u _), fun h => (c17 h).keep (GKeeps.alloc w.heap.size u _), c18, c19, fun h => (c20 h).keep (GKeeps.alloc w.heap.size u _), c21, fun h => (c22 h).keep (GKeeps.alloc w.heap.size u _), c23, c24, c25, c26, c27, hM, G.next (below_box u _)⟩
      · skip
        refine wpOp_step rfl (fun K hK => ?_)
        go_simp
        refine hK _ _ ?_
        exact ⟨l0, l1, l2, l3, true, l5, l6, l7, l8, l9, l10, l11, l12, l13, l14, l15, l16, l17, l18, l19, l20, l21, l22, l23, l24, l25, l26, l27, _, _, _, _, _, _, _, _, _, _, _, _, _, _, _, _, _, _, _, _, _, _, _, _, _, _, _, _, _, _, _, _, _, _, _, _, _, _, _, _, _, _, _, _, _, _, _, _, M, c0, c1, c2, c3, fun _ => rfl, c5, c6, c7, c8, c9, c10, c11, c12, c13, c14, c15, c16, c17, c18, c19, c20, c21, c22, c23, c24, c25, c26, c27, hM, G⟩
      · obtain rfl := c4 (hd { on := 4, ground := Ground.data } (by simp) rfl)
        have e5 : l5 = false := hl
        subst e5
        refine wpOp_step rfl (fun K hK => ?_)
        go_simp
        refine (gpick 3 (by omega) G (by omega)).mono ?_
        rintro e u' ⟨xk, h0, h1, rfl, G', KA, hg⟩
        refine hK _ _ ?_
        exact ⟨l0, l1, l2, l3, l4, true, l6, l7, l8, l9, l10, l11, l12, l13, l14, l15, l16, l17, l18, l19, l20, l21, l22, l23, l24, l25, l26, l27, _, _, _, _, _, _, _, _, _, _, _, _, _, _, _, _, _, _, _, _, _, _, _, _, _, _, _, _, _, _, _, _, _, _, _, _, _, _, _, _, _, _, _, _, _, _, _, _, (M + 1), c0, c1, c2, fun h => (c3 h).keep KA, c4, fun _ => ⟨xk, rfl, h0, by omega⟩, fun h => (c6 h).keep KA, c7, c8, c9, c10, c11, c12, c13, c14, c15, fun h => (c16 h).keep KA, fun h => (c17 h).keep KA, c18, c19, fun h => (c20 h).keep KA, c21, fun h => (c22 h).keep KA, c23, c24, c25, c26, c27, by simp only [Bool.false_eq_true, if_false, if_true] at hM ⊢; omega, G'⟩
      · obtain ⟨b, rfl, hx⟩ := (c3 (hd { on := 3, ground := Ground.data } (by simp) rfl)).index
        obtain ⟨xk, rfl, x0, x1⟩ := (c5 (hd { on := 5, ground := Ground.data } (by simp) rfl)).any
        have x2 : xk < 3 := by omega
        have HX := Lib.hid (hx xk x0 (by omega))
        refine wpOp_step rfl (fun K hK => ?_)
        go_simp
        refine hK _ _ ?_
        exact ⟨l0, l1, l2, l3, l4, l5, true, l7, l8, l9, l10, l11, l12, l13, l14, l15, l16, l17, l18, l19, l20, l21, l22, l23, l24, l25, l26, l27, _, _, _, _, _, _, _, _, _, _, _, _, _, _, _, _, _, _, _, _, _, _, _, _, _, _, _, _, _, _, _, _, _, _, _, _, _, _, _, _, _, _, _, _, _, _, _, _, M, c0, c1, c2, c3, c4, c5, fun _ => HX.out, c7, c8, c9, c10, c11, c12, c13, c14, c15, c16, c17, c18, c19, c20, c21, c22, c23, c24, c25, c26, c27, hM, G⟩
      · obtain ⟨b, k, z, rfl, ck, k0, k1⟩ := (c6 (hd { on := 6, ground := Ground.data } (by simp) rfl)).load
        refine wpOp_step rfl (fun K hK => ?_)
        go_simp
        refine hK _ _ ?_
        exact ⟨l0, l1, l2, l3, l4, l5, l6, true, l8, l9, l10, l11, l12, l13, l14, l15, l16, l17, l18, l19, l20, l21, l22, l23, l24, l25, l26, l27, _, _, _, _, _, _, _, _, _, _, _, _, _, _, _, _, _, _, _, _, _, _, _, _, _, _, _, _, _, _, _, _, _, _, _, _, _, _, _, _, _, _, _, _, _, _, _, _, M, c0, c1, c2, c3, c4, c5, c6, fun _ => ⟨z, rfl, k0, k1⟩, c8, c9, c10, c11, c12, c13, c14, c15, c16, c17, c18, c19, c20, c21, c22, c23, c24, c25, c26, c27, hM, G⟩
      · skip
        refine wpOp_step rfl (fun K hK => ?_)
        go_simp
        refine hK _ _ ?_
        exact ⟨l0, l1, l2, l3, l4, l5, l6, l7, true, l9, l10, l11, l12, l13, l14, l15, l16, l17, l18, l19, l20, l21, l22, l23, l24, l25, l26, l27, _, _, _, _, _, _, _, _, _, _, _, _, _, _, _, _, _, _, _, _, _, _, _, _, _, _, _, _, _, _, _, _, _, _, _, _, _, _, _, _, _, _, _, _, _, _, _, _, M, c0, c1, c2, c3, c4, c5, c6, c7, fun _ => rfl, c9, c10, c11, c12, c13, c14, c15, c16, c17, c18, c19, c20, c21, c22, c23, c24, c25, c26, c27, hM, G⟩
      · skip
        refine wpOp_step rfl (fun K hK => ?_)
        go_simp
        refine hK _ _ ?_
        exact ⟨l0, l1, l2, l3, l4, l5, l6, l7, l8, true, l10, l11, l12, l13, l14, l15, l16, l17, l18, l19, l20, l21, l22, l23, l24, l25, l26, l27, _, _, _, _, _, _, _, _, _, _, _, _, _, _, _, _, _, _, _, _, _, _, _, _, _, _, _, _, _, _, _, _, _, _, _, _, _, _, _, _, _, _, _, _, _, _, _, _, M, c0, c1, c2, c3, c4, c5, c6, c7, c8, fun _ => rfl, c10, c11, c12, c13, c14, c15, c16, c17, c18, c19, c20, c21, c22, c23, c24, c25, c26, c27, hM, G⟩
      · obtain rfl := c9 (hd { on := 9, ground := Ground.data } (by simp) rfl)
        have e10 : l10 = false := hl
        subst e10
        refine wpOp_step rfl (fun K hK => ?_)
        go_simp
        refine (gpick 201 (by omega) G (by omega)).mono ?_
        rintro e u' ⟨xk, h0, h1, rfl, G', KA, hg⟩
        refine hK _ _ ?_
        exact ⟨l0, l1, l2, l3, l4, l5, l6, l7, l8, l9, true, l11, l12, l13, l14, l15, l16, l17, l18, l19, l20, l21, l22, l23, l24, l25, l26, l27, _, _, _, _, _, _, _, _, _, _, _, _, _, _, _, _, _, _, _, _, _, _, _, _, _, _, _, _, _, _, _, _, _, _, _, _, _, _, _, _, _, _, _, _, _, _, _, _, (M + 1), c0, c1, c2, fun h => (c3 h).keep KA, c4, c5, fun h => (c6 h).keep KA, c7, c8, c9, fun _ => ⟨xk, rfl, h0, by omega⟩, c11, c12, c13, c14, c15, fun h => (c16 h).keep KA, fun h => (c17 h).keep KA, c18, c19, fun h => (c20 h).keep KA, c21, fun h => (c22 h).keep KA, c23, c24, c25, c26, c27, by simp only [Bool.false_eq_true, if_false, if_true] at hM ⊢; omega, G'⟩
      · skip
        refine wpOp_step rfl (fun K hK => ?_)
        go_simp
        refine hK _ _ ?_
        exact ⟨l0, l1, l2, l3, l4, l5, l6, l7, l8, l9, l10, true, l12, l13, l14, l15, l16, l17, l18, l19, l20, l21, l22, l23, l24, l25, l26, l27, _, _, _, _, _, _, _, _, _, _, _, _, _, _, _, _, _, _, _, _, _, _, _, _, _, _, _, _, _, _, _, _, _, _, _, _, _, _, _, _, _, _, _, _, _, _, _, _, M, c0, c1, c2, c3, c4, c5, c6, c7, c8, c9, c10, fun _ => rfl, c12, c13, c14, c15, c16, c17, c18, c19, c20, c21, c22, c23, c24, c25, c26, c27, hM, G⟩
      · skip
        refine wpOp_step rfl (fun K hK => ?_)
        go_simp
        refine hK _ _ ?_
        exact ⟨l0, l1, l2, l3, l4, l5, l6, l7, l8, l9, l10, l11, true, l13, l14, l15, l16, l17, l18, l19, l20, l21, l22, l23, l24, l25, l26, l27, _, _, _, _, _, _, _, _, _, _, _, _, _, _, _, _, _, _, _, _, _, _, _, _, _, _, _, _, _, _, _, _, _, _, _, _, _, _, _, _, _, _, _, _, _, _, _, _, M, c0, c1, c2, c3, c4, c5, c6, c7, c8, c9, c10, c11, fun _ => rfl, c13, c14, c15, c16, c17, c18, c19, c20, c21, c22, c23, c24, c25, c26, c27, hM, G⟩
      · obtain rfl := c12 (hd { on := 12, ground := Ground.data } (by simp) rfl)
        have e13 : l13 = false := hl
        subst e13
        refine wpOp_step rfl (fun K hK => ?_)
        go_simp
        refine (gpick 9 (by omega) G (by omega)).mono ?_
        rintro e u' ⟨xk, h0, h1, rfl, G', KA, hg⟩
        refine hK _ _ ?_
        exact ⟨l0, l1, l2, l3, l4, l5, l6, l7, l8, l9, l10, l11, l12, true, l14, l15, l16, l17, l18, l19, l20, l21, l22, l23, l24, l25, l26, l27, _, _, _, _, _, _, _, _, _, _, _, _, _, _, _, _, _, _, _, _, _, _, _, _, _, _, _, _, _, _, _, _, _, _, _, _, _, _, _, _, _, _, _, _, _, _, _, _, (M + 1), c0, c1, c2, fun h => (c3 h).keep KA, c4, c5, fun h => (c6 h).keep KA, c7, c8, c9, c10, c11, c12, fun _ => ⟨xk, rfl, h0, by omega⟩, c14, c15, fun h => (c16 h).keep KA, fun h => (c17 h).keep KA, c18, c19, fun h => (c20 h).keep KA, c21, fun h => (c22 h).keep KA, c23, c24, c25, c26, c27, by simp only [Bool.false_eq_true, if_false, if_true] at hM ⊢; omega, G'⟩
      · obtain rfl := c11 (hd { on := 11, ground := Ground.data } (by simp) rfl)
        obtain ⟨x, rfl, h0, h1⟩ := (c13 (hd { on := 13, ground := Ground.data } (by simp) rfl)).any
        have ow : IntKind.i64.wrap (xw - x) = xw - x := wrap_in (by omega) (by omega)
        all_goals
          refine wpOp_step rfl (fun K hK => ?_)
          go_simp
          refine hK _ _ ?_
          exact ⟨l0, l1, l2, l3, l4, l5, l6, l7, l8, l9, l10, l11, l12, l13, true, l15, l16, l17, l18, l19, l20, l21, l22, l23, l24, l25, l26, l27, _, _, _, _, _, _, _, _, _, _, _, _, _, _, _, _, _, _, _, _, _, _, _, _, _, _, _, _, _, _, _, _, _, _, _, _, _, _, _, _, _, _, _, _, _, _, _, _, M, c0, c1, c2, c3, c4, c5, c6, c7, c8, c9, c10, c11, c12, c13, fun _ => ⟨xw - x, rfl, by omega, by omega⟩, c15, c16, c17, c18, c19, c20, c21, c22, c23, c24, c25, c26, c27, hM, G⟩
      · obtain ⟨x, rfl, h0, h1⟩ := (c14 (hd { on := 14, ground := Ground.data } (by simp) rfl)).any
        rcases Int.lt_or_le 0 x with q | q
        all_goals
          refine wpOp_step rfl (fun K hK => ?_)
          go_simp
          refine hK _ _ ?_
          exact ⟨l0, l1, l2, l3, l4, l5, l6, l7, l8, l9, l10, l11, l12, l13, l14, true, l16, l17, l18, l19, l20, l21, l22, l23, l24, l25, l26, l27, _, _, _, _, _, _, _, _, _, _, _, _, _, _, _, _, _, _, _, _, _, _, _, _, _, _, _, _, _, _, _, _, _, _, _, _, _, _, _, _, _, _, _, _, _, _, _, _, M, c0, c1, c2, c3, c4, c5, c6, c7, c8, c9, c10, c11, c12, c13, c14, fun _ => ⟨_, rfl, by omega, by omega⟩, c16, c17, c18, c19, c20, c21, c22, c23, c24, c25, c26, c27, hM, G⟩
      · have hlt := G.rd.lt
        obtain ⟨q1, rfl, q10, q11⟩ := (c10 (hd { on := 10, ground := Ground.data } (by simp) rfl)).any
        obtain ⟨q2, rfl, q20, q21⟩ := (c15 (hd { on := 15, ground := Ground.data } (by simp) rfl)).any
        have HA := Lib.hid (GArr.new (r := w.heap.size) u [0, q1, q2, 201] [.int .i64 0, .int .i64 q1, .int .i64 q2, .int .i64 201] rfl 3 hlt)
        refine wpOp_step rfl (fun K hK => ?_)
        go_simp
        refine hK _ _ ?_
        exact ⟨l0, l1, l2, l3, l4, l5, l6, l7, l8, l9, l10, l11, l12, l13, l14, l15, true, l17, l18, l19, l20, l21, l22, l23, l24, l25, l26, l27, _, _, _, _, _, _, _, _, _, _, _, _, _, _, _, _, _, _, _, _, _, _, _, _, _, _, _, _, _, _, _, _, _, _, _, _, _, _, _, _, _, _, _, _, _, _, _, _, M, c0, c1, c2, fun h => (c3 h).keep (GKeeps.alloc w.heap.size u _), c4, c5, fun h => (c6 h).keep (GKeeps.alloc w.heap.size u _), c7, c8, c9, c10, c11, c12, c13, c14, c15, fun _ => ⟨_, [0, q1, q2, 201], rfl, rfl, by intro z hz; simp at hz; omega, HA.out⟩, fun h => (c17 h).keep (GKeeps.alloc w.heap.size u _), c18, c19, fun h => (c20 h).keep (GKeeps.alloc w.heap.size u _), c21, fun h => (c22 h).keep (GKeeps.alloc w.heap.size u _), c23, c24, c25, c26, c27, hM, G.next (below_box u _)⟩
      · have hlt := G.rd.lt
        have HA := Lib.hid (GArr.new (r := w.heap.size) u [0, 1, 1, 2, 2, 2, 3] [.int .i64 0, .int .i64 1, .int .i64 1, .int .i64 2, .int .i64 2, .int .i64 2, .int .i64 3] rfl 3 hlt)
        refine wpOp_step rfl (fun K hK => ?_)
        go_simp
        refine hK _ _ ?_
        exact ⟨l0, l1, l2, l3, l4, l5, l6, l7, l8, l9, l10, l11, l12, l13, l14, l15, l16, true, l18, l19, l20, l21, l22, l23, l24, l25, l26, l27, _, _, _, _, _, _, _, _, _, _, _, _, _, _, _, _, _, _, _, _, _, _, _, _, _, _, _, _, _, _, _, _, _, _, _, _, _, _, _, _, _, _, _, _, _, _, _, _, M, c0, c1, c2, fun h => (c3 h).keep (GKeeps.alloc w.heap.size u _), c4, c5, fun h => (c6 h).keep (GKeeps.alloc w.heap.size u _), c7, c8, c9, c10, c11, c12, c13, c14, c15, fun h => (c16 h).keep (GKeeps.alloc w.heap.size u _), fun _ => ⟨_, [0, 1, 1, 2, 2, 2, 3], rfl, rfl, by intro z hz; simp at hz; omega, HA.out⟩, c18, c19, fun h => (c20 h).keep (GKeeps.alloc w.heap.size u _), c21, fun h => (c22 h).keep (GKeeps.alloc w.heap.size u _), c23, c24, c25, c26, c27, hM, G.next (below_box u _)⟩
      · skip
        refine wpOp_step rfl (fun K hK => ?_)
        go_simp
        refine hK _ _ ?_
        exact ⟨l0, l1, l2, l3, l4, l5, l6, l7, l8, l9, l10, l11, l12, l13, l14, l15, l16, l17, true, l19, l20, l21, l22, l23, l24, l25, l26, l27, _, _, _, _, _, _, _, _, _, _, _, _, _, _, _, _, _, _, _, _, _, _, _, _, _, _, _, _, _, _, _, _, _, _, _, _, _, _, _, _, _, _, _, _, _, _, _, _, M, c0, c1, c2, c3, c4, c5, c6, c7, c8, c9, c10, c11, c12, c13, c14, c15, c16, c17, fun _ => rfl, c19, c20, c21, c22, c23, c24, c25, c26, c27, hM, G⟩
      · obtain rfl := c18 (hd { on := 18, ground := Ground.data } (by simp) rfl)
        have e19 : l19 = false := hl
        subst e19
        refine wpOp_step rfl (fun K hK => ?_)
        go_simp
        refine (gpick 7 (by omega) G (by omega)).mono ?_
        rintro e u' ⟨xk, h0, h1, rfl, G', KA, hg⟩
        refine hK _ _ ?_
        exact ⟨l0, l1, l2, l3, l4, l5, l6, l7, l8, l9, l10, l11, l12, l13, l14, l15, l16, l17, l18, true, l20, l21, l22, l23, l24, l25, l26, l27, _, _, _, _, _, _, _, _, _, _, _, _, _, _, _, _, _, _, _, _, _, _, _, _, _, _, _, _, _, _, _, _, _, _, _, _, _, _, _, _, _, _, _, _, _, _, _, _, (M + 1), c0, c1, c2, fun h => (c3 h).keep KA, c4, c5, fun h => (c6 h).keep KA, c7, c8, c9, c10, c11, c12, c13, c14, c15, fun h => (c16 h).keep KA, fun h => (c17 h).keep KA, c18, fun _ => ⟨xk, rfl, h0, by omega⟩, fun h => (c20 h).keep KA, c21, fun h => (c22 h).keep KA, c23, c24, c25, c26, c27, by simp only [Bool.false_eq_true, if_false, if_true] at hM ⊢; omega, G'⟩
      · obtain ⟨b, rfl, hx⟩ := (c17 (hd { on := 17, ground := Ground.data } (by simp) rfl)).index
        obtain ⟨xk, rfl, x0, x1⟩ := (c19 (hd { on := 19, ground := Ground.data } (by simp) rfl)).any
        have x2 : xk < 7 := by omega
        have HX := Lib.hid (hx xk x0 (by omega))
        refine wpOp_step rfl (fun K hK => ?_)
        go_simp
        refine hK _ _ ?_
        exact ⟨l0, l1, l2, l3, l4, l5, l6, l7, l8, l9, l10, l11, l12, l13, l14, l15, l16, l17, l18, l19, true, l21, l22, l23, l24, l25, l26, l27, _, _, _, _, _, _, _, _, _, _, _, _, _, _, _, _, _, _, _, _, _, _, _, _, _, _, _, _, _, _, _, _, _, _, _, _, _, _, _, _, _, _, _, _, _, _, _, _, M, c0, c1, c2, c3, c4, c5, c6, c7, c8, c9, c10, c11, c12, c13, c14, c15, c16, c17, c18, c19, fun _ => HX.out, c21, c22, c23, c24, c25, c26, c27, hM, G⟩
      · obtain ⟨b, k, z, rfl, ck, k0, k1⟩ := (c20 (hd { on := 20, ground := Ground.data } (by simp) rfl)).load
        refine wpOp_step rfl (fun K hK => ?_)
        go_simp
        refine hK _ _ ?_
        exact ⟨l0, l1, l2, l3, l4, l5, l6, l7, l8, l9, l10, l11, l12, l13, l14, l15, l16, l17, l18, l19, l20, true, l22, l23, l24, l25, l26, l27, _, _, _, _, _, _, _, _, _, _, _, _, _, _, _, _, _, _, _, _, _, _, _, _, _, _, _, _, _, _, _, _, _, _, _, _, _, _, _, _, _, _, _, _, _, _, _, _, M, c0, c1, c2, c3, c4, c5, c6, c7, c8, c9, c10, c11, c12, c13, c14, c15, c16, c17, c18, c19, c20, fun _ => ⟨z, rfl, k0, k1⟩, c22, c23, c24, c25, c26, c27, hM, G⟩
      · obtain ⟨b, rfl, hx⟩ := (c16 (hd { on := 16, ground := Ground.data } (by simp) rfl)).index
        obtain ⟨xk, rfl, x0, x1⟩ := (c21 (hd { on := 21, ground := Ground.data } (by simp) rfl)).any
        have x2 : xk < 4 := by omega
        have HX := Lib.hid (hx xk x0 (by omega))
        refine wpOp_step rfl (fun K hK => ?_)
        go_simp
        refine hK _ _ ?_
        exact ⟨l0, l1, l2, l3, l4, l5, l6, l7, l8, l9, l10, l11, l12, l13, l14, l15, l16, l17, l18, l19, l20, l21, true, l23, l24, l25, l26, l27, _, _, _, _, _, _, _, _, _, _, _, _, _, _, _, _, _, _, _, _, _, _, _, _, _, _, _, _, _, _, _, _, _, _, _, _, _, _, _, _, _, _, _, _, _, _, _, _, M, c0, c1, c2, c3, c4, c5, c6, c7, c8, c9, c10, c11, c12, c13, c14, c15, c16, c17, c18, c19, c20, c21, fun _ => HX.out, c23, c24, c25, c26, c27, hM, G⟩
      · obtain ⟨b, k, z, rfl, ck, k0, k1⟩ := (c22 (hd { on := 22, ground := Ground.data } (by simp) rfl)).load
        refine wpOp_step rfl (fun K hK => ?_)
        go_simp
        refine hK _ _ ?_
        exact ⟨l0, l1, l2, l3, l4, l5, l6, l7, l8, l9, l10, l11, l12, l13, l14, l15, l16, l17, l18, l19, l20, l21, l22, true, l24, l25, l26, l27, _, _, _, _, _, _, _, _, _, _, _, _, _, _, _, _, _, _, _, _, _, _, _, _, _, _, _, _, _, _, _, _, _, _, _, _, _, _, _, _, _, _, _, _, _, _, _, _, M, c0, c1, c2, c3, c4, c5, c6, c7, c8, c9, c10, c11, c12, c13, c14, c15, c16, c17, c18, c19, c20, c21, c22, fun _ => ⟨z, rfl, k0, k1⟩, c24, c25, c26, c27, hM, G⟩
      · obtain rfl := c0 (hd { on := 0, ground := Ground.data } (by simp) rfl)
        refine wpOp_step rfl (fun K hK => ?_)
        go_simp
        refine hK _ _ ?_
        exact ⟨l0, l1, l2, l3, l4, l5, l6, l7, l8, l9, l10, l11, l12, l13, l14, l15, l16, l17, l18, l19, l20, l21, l22, l23, true, l25, l26, l27, _, _, _, _, _, _, _, _, _, _, _, _, _, _, _, _, _, _, _, _, _, _, _, _, _, _, _, _, _, _, _, _, _, _, _, _, _, _, _, _, _, _, _, _, _, _, _, _, M, c0, c1, c2, c3, c4, c5, c6, c7, c8, c9, c10, c11, c12, c13, c14, c15, c16, c17, c18, c19, c20, c21, c22, c23, fun _ => rfl, c25, c26, c27, hM, G⟩
      · obtain ⟨x, rfl, h0, h1⟩ := (c7 (hd { on := 7, ground := Ground.data } (by simp) rfl)).any
        refine wpOp_step rfl (fun K hK => ?_)
        go_simp
        refine hK _ _ ?_
        exact ⟨l0, l1, l2, l3, l4, l5, l6, l7, l8, l9, l10, l11, l12, l13, l14, l15, l16, l17, l18, l19, l20, l21, l22, l23, l24, true, l26, l27, _, _, _, _, _, _, _, _, _, _, _, _, _, _, _, _, _, _, _, _, _, _, _, _, _, _, _, _, _, _, _, _, _, _, _, _, _, _, _, _, _, _, _, _, _, _, _, _, M, c0, c1, c2, c3, c4, c5, c6, c7, c8, c9, c10, c11, c12, c13, c14, c15, c16, c17, c18, c19, c20, c21, c22, c23, c24, fun _ => ⟨x, rfl, h0, h1⟩, c26, c27, hM, G⟩
      · obtain rfl := c8 (hd { on := 8, ground := Ground.data } (by simp) rfl)
        refine wpOp_step rfl (fun K hK => ?_)
        go_simp
        refine hK _ _ ?_
        exact ⟨l0, l1, l2, l3, l4, l5, l6, l7, l8, l9, l10, l11, l12, l13, l14, l15, l16, l17, l18, l19, l20, l21, l22, l23, l24, l25, true, l27, _, _, _, _, _, _, _, _, _, _, _, _, _, _, _, _, _, _, _, _, _, _, _, _, _, _, _, _, _, _, _, _, _, _, _, _, _, _, _, _, _, _, _, _, _, _, _, _, M, c0, c1, c2, c3, c4, c5, c6, c7, c8, c9, c10, c11, c12, c13, c14, c15, c16, c17, c18, c19, c20, c21, c22, c23, c24, c25, fun _ => rfl, c27, hM, G⟩
      · obtain ⟨x, rfl, h0, h1⟩ := (c23 (hd { on := 23, ground := Ground.data } (by simp) rfl)).any
        refine wpOp_step rfl (fun K hK => ?_)
        go_simp
        refine hK _ _ ?_
        exact ⟨l0, l1, l2, l3, l4, l5, l6, l7, l8, l9, l10, l11, l12, l13, l14, l15, l16, l17, l18, l19, l20, l21, l22, l23, l24, l25, l26, true, _, _, _, _, _, _, _, _, _, _, _, _, _, _, _, _, _, _, _, _, _, _, _, _, _, _, _, _, _, _, _, _, _, _, _, _, _, _, _, _, _, _, _, _, _, _, _, _, M, c0, c1, c2, c3, c4, c5, c6, c7, c8, c9, c10, c11, c12, c13, c14, c15, c16, c17, c18, c19, c20, c21, c22, c23, c24, c25, c26, fun _ => ⟨x, rfl, h0, h1⟩, hM, G⟩
    case hlt => exact backB_spec (by kernel_rfl)
    case hsz => exact fun listed a u h => h.size
    case hdone =>
      intro listed act u hR hall
      obtain ⟨l0, l1, l2, l3, l4, l5, l6, l7, l8, l9, l10, l11, l12, l13, l14, l15, l16, l17, l18, l19, l20, l21, l22, l23, l24, l25, l26, l27, v2, v3, v4, v5, v28, v29, v30, v31, v32, v33, v34, v35, v36, v37, v38, v39, v40, v41, v42, v43, v44, v45, v46, v47, v48, v49, v50, v51, p0, p1, p10, p11, p12, p13, p14, p15, p16, p17, p18, p19, p20, p21, p22, p23, p24, p25, p26, p27, M, c0, c1, c2, c3, c4, c5, c6, c7, c8, c9, c10, c11, c12, c13, c14, c15, c16, c17, c18, c19, c20, c21, c22, c23, c24, c25, c26, c27, hM, G⟩ := hR
      obtain rfl := c24 (hall 24 (by decide))
      obtain ⟨t9, rfl, t0, t1⟩ := (c25 (hall 25 (by decide))).any
      obtain rfl := c26 (hall 26 (by decide))
      obtain ⟨o9, rfl, z0, z1⟩ := (c27 (hall 27 (by decide))).any
      have HO := Lib.hid G.old
      clear c0 c1 c2 c3 c4 c5 c6 c7 c8 c9 c10 c11 c12 c13 c14 c15 c16 c17 c18 c19 c20 c21 c22 c23 c24 c25 c26 c27 hall G
      go_wp2
      exact bodyPost_ret (v := .tuple #[.int .i64 xw, .int .i64 t9, .int .i64 xs, .int .i64 o9]) (by simp [results, Try.results10, go_sem]) rfl ⟨xw, t9, xs, o9, ⟨hw0, hw1⟩, ⟨t0, t1⟩, ⟨hs0, hs1⟩, ⟨z0, z1⟩, rfl, HO.out⟩
theorem drawGripTime (w : World) (a : Option Addr) (len cap : Nat) (zs : List Int) (h : Bytes w a len cap zs) :
    Calls Try.prog 15 #[.slice a len cap] w (GotG w) := by
  go_enter Try.func15, Try.ntmps15
  go_wp2_with fail
  refine (drawGripStep w a len cap zs h).mono ?_
  rintro e w1 ⟨x, t, s, o, hx, ht, hs, ho, rfl, B⟩
  have HB := Lib.hid B
  clear B h
  go_wp2
  exact bodyPost_ret (v := .tuple #[.int .i64 x, .int .i64 t, .int .i64 s, .int .i64 o]) (by simp [results, Try.results15, go_sem]) rfl ⟨x, t, s, o, hx, ht, hs, ho, rfl, HB.out⟩
/-- What the draw of a weight says. -/
def GotW (w : World) (e : Ending) (w' : World) : Prop :=
  ∃ f u x : Int, (-5 ≤ f ∧ f ≤ 1020) ∧ (0 ≤ u ∧ u ≤ 201) ∧ (-21 ≤ x ∧ x ≤ 4102) ∧ e = .returned (.tuple #[.int .i64 f, .int .i64 u, .int .i64 x]) ∧ Below w.heap.size w w'
theorem quo50 {m : Int} (h0 : -1005 ≤ m) (h1 : m ≤ 205020) : -21 ≤ m.tdiv 50 ∧ m.tdiv 50 ≤ 4101 := by
  rcases Int.le_total 0 m with h | h
  · rw [Int.tdiv_eq_ediv_of_nonneg h]; omega
  · have e : m.tdiv 50 = -((-m).tdiv 50) := by rw [Int.neg_tdiv, Int.neg_neg]
    rw [e, Int.tdiv_eq_ediv_of_nonneg (by omega)]; omega
theorem fuM {f u : Int} (h0 : -5 ≤ f) (h1 : f ≤ 1020) (h2 : 0 ≤ u) (h3 : u ≤ 201) : -1005 ≤ f * u ∧ f * u ≤ 205020 := by
  have a := Int.mul_nonneg (show 0 ≤ f + 5 by omega) h2
  have b := Int.mul_nonneg (show 0 ≤ 1020 - f by omega) h2
  rw [Int.add_mul] at a
  rw [Int.sub_mul] at b
  omega
set_option maxHeartbeats 8000000 in
theorem drawHoldsWeight (w : World) (a : Option Addr) (len cap : Nat) (zs : List Int) (h : Bytes w a len cap zs) :
    Calls Try.prog 18 #[.slice a len cap] w (GotW w) := by
  go_enter Try.func18, Try.ntmps18
  go_wp2_with fail
  refine (gopen w _ a len cap zs h (Below.refl _ _) w.heap.size rfl).mono ?_
  rintro e w1 ⟨rfl, hr1, hb1⟩
  have G1 := Lib.hid (GSt.start (rs := []) hr1 hb1)
  clear hb1 h
  go_wp2_with fail
  refine (gpick 256 (by omega) G1.out (by omega)).mono ?_
  rintro e w2 ⟨x2, a2, b2, rfl, G2', _, _⟩
  have G2 := Lib.hid G2'
  clear G2' G1 hr1
  go_wp2_with fail
  refine (gpick 12 (by omega) G2.out (by omega)).mono ?_
  rintro e w3 ⟨x3, a3, b3, rfl, G3', _, _⟩
  have G3 := Lib.hid G3'
  obtain ⟨d3, hd3⟩ : ∃ d, x3.tdiv 11 = d := ⟨_, rfl⟩
  have d0 : 0 ≤ d3 ∧ d3 ≤ 1 := by rw [← hd3, Int.tdiv_eq_ediv_of_nonneg a3]; omega
  obtain ⟨xf, hxf⟩ : ∃ xf, x2 * 4 - d3 * 5 = xf := ⟨_, rfl⟩
  have q1 : IntKind.i64.wrap (x2 * 4) = x2 * 4 := wrap_in (by omega) (by omega)
  have q2 : IntKind.i64.wrap (x3.tdiv 11) = d3 := by rw [hd3]; exact wrap_in (by omega) (by omega)
  have q3 : IntKind.i64.wrap (d3 * 5) = d3 * 5 := wrap_in (by omega) (by omega)
  have q4 : IntKind.i64.wrap (x2 * 4 - d3 * 5) = xf := by rw [hxf]; exact wrap_in (by omega) (by omega)
  have hf : -5 ≤ xf ∧ xf ≤ 1020 := by omega
  clear G3' G2 hxf a2 b2 a3 b3 d0 hd3
  go_wp2_with fail
  refine (gpick 202 (by omega) G3.out (by omega)).mono ?_
  rintro e w4 ⟨xu, u0, u1, rfl, G4', _, _⟩
  clear q1 q2 q3 q4
  have hm' := fuM hf.1 hf.2 u0 (by omega)
  obtain ⟨m, hmm⟩ : ∃ m, xf * xu = m := ⟨_, rfl⟩
  rw [hmm] at hm'
  have ow : IntKind.i64.wrap (xf * xu) = m := by rw [hmm]; exact wrap_in (by omega) (by omega)
  obtain ⟨q, hq⟩ : ∃ q, m.tdiv 50 = q := ⟨_, rfl⟩
  have hq' : -21 ≤ q ∧ q ≤ 4101 := hq ▸ quo50 hm'.1 hm'.2
  have ow2 : IntKind.i64.wrap (m.tdiv 50) = q := by rw [hq]; exact wrap_in (by omega) (by omega)
  have hu : 0 ≤ xu ∧ xu ≤ 201 := by omega
  have hq0 := hq'.1
  have hq1 := hq'.2
  have G0 := Lib.hid ((GSt.start (rs := []) G4'.rd G4'.old).drew)
  have HM0 := Lib.hid (show 0 + 1 + 1 + 1 + ((if false then 0 else 1) + (if false then 0 else 1)) ≤ 900 by decide)
  clear hmm hq hm' G4' G3 u0 u1
  go_upto_region 4 with fail
  refine wp_region_inv (fun listed act u => RFHold w w4 w.heap.size   xf xu m q u listed act) (by kernel_rfl) ?hlt ?hsz ?h0 ?hstep ?hdone
  case h0 =>
    exact ⟨false, false, false, false, false, false, false, false, false, false, false, false, false, false, false, false, false, false, false, false, false, false, _, _, _, _, _, _, _, _, _, _, _, _, _, _, _, _, _, _, _, _, _, _, _, _, _, _, _, _, _, _, _, _, _, _, _, _, _, (by intro h; cases h), (by intro h; cases h), (by intro h; cases h), (by intro h; cases h), (by intro h; cases h), (by intro h; cases h), (by intro h; cases h), (by intro h; cases h), (by intro h; cases h), (by intro h; cases h), (by intro h; cases h), (by intro h; cases h), (by intro h; cases h), (by intro h; cases h), (by intro h; cases h), (by intro h; cases h), (by intro h; cases h), (by intro h; cases h), (by intro h; cases h), (by intro h; cases h), (by intro h; cases h), (by intro h; cases h), HM0.out, G0.out⟩
  case hstep =>
    intro listed act u i o hR ho hl hd
    obtain ⟨l0, l1, l2, l3, l4, l5, l6, l7, l8, l9, l10, l11, l12, l13, l14, l15, l16, l17, l18, l19, l20, l21, v2, v3, v4, v20, v21, v22, v23, v24, v25, v26, v27, v28, v29, v30, v31, v32, v33, v34, v35, v36, v37, v38, p0, p1, p8, p9, p10, p11, p12, p13, p14, p15, p16, p17, p18, p19, M, c0, c1, c2, c3, c4, c5, c6, c7, c8, c9, c10, c11, c12, c13, c14, c15, c16, c17, c18, c19, c20, c21, hM, G⟩ := hR
    have hi : i < 22 := by rcases Nat.lt_or_ge i 22 with h | h; exact h; rw [Array.getElem?_eq_none (by simpa using h)] at ho; cases ho
    have hi2 : i = 0 ∨ i = 1 ∨ i = 2 ∨ i = 3 ∨ i = 4 ∨ i = 5 ∨ i = 6 ∨ i = 7 ∨ i = 8 ∨ i = 9 ∨ i = 10 ∨ i = 11 ∨ i = 12 ∨ i = 13 ∨ i = 14 ∨ i = 15 ∨ i = 16 ∨ i = 17 ∨ i = 18 ∨ i = 19 ∨ i = 20 ∨ i = 21 := by omega
    rcases hi2 with rfl | rfl | rfl | rfl | rfl | rfl | rfl | rfl | rfl | rfl | rfl | rfl | rfl | rfl | rfl | rfl | rfl | rfl | rfl | rfl | rfl | rfl
    all_goals (cases ho)
    · skip
      refine wpOp_step rfl (fun K hK => ?_)
      go_simp
      refine hK _ _ ?_
      exact ⟨true, l1, l2, l3, l4, l5, l6, l7, l8, l9, l10, l11, l12, l13, l14, l15, l16, l17, l18, l19, l20, l21, _, _, _, _, _, _, _, _, _, _, _, _, _, _, _, _, _, _, _, _, _, _, _, _, _, _, _, _, _, _, _, _, _, _, _, _, M, fun _ => rfl, c1, c2, c3, c4, c5, c6, c7, c8, c9, c10, c11, c12, c13, c14, c15, c16, c17, c18, c19, c20, c21, hM, G⟩
    · skip
      refine wpOp_step rfl (fun K hK => ?_)
      go_simp
      refine hK _ _ ?_
      exact ⟨l0, true, l2, l3, l4, l5, l6, l7, l8, l9, l10, l11, l12, l13, l14, l15, l16, l17, l18, l19, l20, l21, _, _, _, _, _, _, _, _, _, _, _, _, _, _, _, _, _, _, _, _, _, _, _, _, _, _, _, _, _, _, _, _, _, _, _, _, M, c0, fun _ => rfl, c2, c3, c4, c5, c6, c7, c8, c9, c10, c11, c12, c13, c14, c15, c16, c17, c18, c19, c20, c21, hM, G⟩
    · skip
      refine wpOp_step rfl (fun K hK => ?_)
      go_simp
      refine hK _ _ ?_
      exact ⟨l0, l1, true, l3, l4, l5, l6, l7, l8, l9, l10, l11, l12, l13, l14, l15, l16, l17, l18, l19, l20, l21, _, _, _, _, _, _, _, _, _, _, _, _, _, _, _, _, _, _, _, _, _, _, _, _, _, _, _, _, _, _, _, _, _, _, _, _, M, c0, c1, fun _ => rfl, c3, c4, c5, c6, c7, c8, c9, c10, c11, c12, c13, c14, c15, c16, c17, c18, c19, c20, c21, hM, G⟩
    · obtain rfl := c2 (hd { on := 2, ground := Ground.data } (by simp) rfl)
      have e3 : l3 = false := hl
      subst e3
      refine wpOp_step rfl (fun K hK => ?_)
      go_simp
      refine (gpick 256 (by omega) G (by omega)).mono ?_
      rintro e u' ⟨xk, h0, h1, rfl, G', KA, hg⟩
      refine hK _ _ ?_
      exact ⟨l0, l1, l2, true, l4, l5, l6, l7, l8, l9, l10, l11, l12, l13, l14, l15, l16, l17, l18, l19, l20, l21, _, _, _, _, _, _, _, _, _, _, _, _, _, _, _, _, _, _, _, _, _, _, _, _, _, _, _, _, _, _, _, _, _, _, _, _, (M + 1), c0, c1, c2, fun _ => ⟨xk, rfl, h0, by omega⟩, c4, c5, c6, c7, c8, c9, c10, c11, c12, c13, fun h => (c14 h).keep KA, c15, c16, fun h => (c17 h).keep KA, c18, c19, c20, c21, by simp only [Bool.false_eq_true, if_false, if_true] at hM ⊢; omega, G'⟩
    · obtain ⟨x, rfl, h0, h1⟩ := (c3 (hd { on := 3, ground := Ground.data } (by simp) rfl)).any
      have ow : IntKind.i64.wrap (x * 4) = x * 4 := wrap_in (by omega) (by omega)
      refine wpOp_step rfl (fun K hK => ?_)
      go_simp
      refine hK _ _ ?_
      exact ⟨l0, l1, l2, l3, true, l5, l6, l7, l8, l9, l10, l11, l12, l13, l14, l15, l16, l17, l18, l19, l20, l21, _, _, _, _, _, _, _, _, _, _, _, _, _, _, _, _, _, _, _, _, _, _, _, _, _, _, _, _, _, _, _, _, _, _, _, _, M, c0, c1, c2, c3, fun _ => ⟨_, rfl, by omega, by omega⟩, c5, c6, c7, c8, c9, c10, c11, c12, c13, c14, c15, c16, c17, c18, c19, c20, c21, hM, G⟩
    · skip
      refine wpOp_step rfl (fun K hK => ?_)
      go_simp
      refine hK _ _ ?_
      exact ⟨l0, l1, l2, l3, l4, true, l6, l7, l8, l9, l10, l11, l12, l13, l14, l15, l16, l17, l18, l19, l20, l21, _, _, _, _, _, _, _, _, _, _, _, _, _, _, _, _, _, _, _, _, _, _, _, _, _, _, _, _, _, _, _, _, _, _, _, _, M, c0, c1, c2, c3, c4, fun _ => rfl, c6, c7, c8, c9, c10, c11, c12, c13, c14, c15, c16, c17, c18, c19, c20, c21, hM, G⟩
    · skip
      refine wpOp_step rfl (fun K hK => ?_)
      go_simp
      refine hK _ _ ?_
      exact ⟨l0, l1, l2, l3, l4, l5, true, l7, l8, l9, l10, l11, l12, l13, l14, l15, l16, l17, l18, l19, l20, l21, _, _, _, _, _, _, _, _, _, _, _, _, _, _, _, _, _, _, _, _, _, _, _, _, _, _, _, _, _, _, _, _, _, _, _, _, M, c0, c1, c2, c3, c4, c5, fun _ => rfl, c7, c8, c9, c10, c11, c12, c13, c14, c15, c16, c17, c18, c19, c20, c21, hM, G⟩
    · obtain rfl := c5 (hd { on := 5, ground := Ground.data } (by simp) rfl)
      obtain rfl := c6 (hd { on := 6, ground := Ground.data } (by simp) rfl)
      all_goals
        refine wpOp_step rfl (fun K hK => ?_)
        go_simp
        refine hK _ _ ?_
        exact ⟨l0, l1, l2, l3, l4, l5, l6, true, l8, l9, l10, l11, l12, l13, l14, l15, l16, l17, l18, l19, l20, l21, _, _, _, _, _, _, _, _, _, _, _, _, _, _, _, _, _, _, _, _, _, _, _, _, _, _, _, _, _, _, _, _, _, _, _, _, M, c0, c1, c2, c3, c4, c5, c6, fun _ => rfl, c8, c9, c10, c11, c12, c13, c14, c15, c16, c17, c18, c19, c20, c21, hM, G⟩
    · obtain rfl := c7 (hd { on := 7, ground := Ground.data } (by simp) rfl)
      all_goals
        refine wpOp_step rfl (fun K hK => ?_)
        go_simp
        refine hK _ _ ?_
        exact ⟨l0, l1, l2, l3, l4, l5, l6, l7, true, l9, l10, l11, l12, l13, l14, l15, l16, l17, l18, l19, l20, l21, _, _, _, _, _, _, _, _, _, _, _, _, _, _, _, _, _, _, _, _, _, _, _, _, _, _, _, _, _, _, _, _, _, _, _, _, M, c0, c1, c2, c3, c4, c5, c6, c7, fun _ => ⟨_, rfl, by omega, by omega⟩, c9, c10, c11, c12, c13, c14, c15, c16, c17, c18, c19, c20, c21, hM, G⟩
    · skip
      refine wpOp_step rfl (fun K hK => ?_)
      go_simp
      refine hK _ _ ?_
      exact ⟨l0, l1, l2, l3, l4, l5, l6, l7, l8, true, l10, l11, l12, l13, l14, l15, l16, l17, l18, l19, l20, l21, _, _, _, _, _, _, _, _, _, _, _, _, _, _, _, _, _, _, _, _, _, _, _, _, _, _, _, _, _, _, _, _, _, _, _, _, M, c0, c1, c2, c3, c4, c5, c6, c7, c8, fun _ => rfl, c10, c11, c12, c13, c14, c15, c16, c17, c18, c19, c20, c21, hM, G⟩
    · skip
      refine wpOp_step rfl (fun K hK => ?_)
      go_simp
      refine hK _ _ ?_
      exact ⟨l0, l1, l2, l3, l4, l5, l6, l7, l8, l9, true, l11, l12, l13, l14, l15, l16, l17, l18, l19, l20, l21, _, _, _, _, _, _, _, _, _, _, _, _, _, _, _, _, _, _, _, _, _, _, _, _, _, _, _, _, _, _, _, _, _, _, _, _, M, c0, c1, c2, c3, c4, c5, c6, c7, c8, c9, fun _ => rfl, c11, c12, c13, c14, c15, c16, c17, c18, c19, c20, c21, hM, G⟩
    · obtain rfl := c9 (hd { on := 9, ground := Ground.data } (by simp) rfl)
      obtain rfl := c10 (hd { on := 10, ground := Ground.data } (by simp) rfl)
      all_goals
        refine wpOp_step rfl (fun K hK => ?_)
        go_simp
        refine hK _ _ ?_
        exact ⟨l0, l1, l2, l3, l4, l5, l6, l7, l8, l9, l10, true, l12, l13, l14, l15, l16, l17, l18, l19, l20, l21, _, _, _, _, _, _, _, _, _, _, _, _, _, _, _, _, _, _, _, _, _, _, _, _, _, _, _, _, _, _, _, _, _, _, _, _, M, c0, c1, c2, c3, c4, c5, c6, c7, c8, c9, c10, fun _ => rfl, c12, c13, c14, c15, c16, c17, c18, c19, c20, c21, hM, G⟩
    · obtain rfl := c11 (hd { on := 11, ground := Ground.data } (by simp) rfl)
      all_goals
        refine wpOp_step rfl (fun K hK => ?_)
        go_simp
        refine hK _ _ ?_
        exact ⟨l0, l1, l2, l3, l4, l5, l6, l7, l8, l9, l10, l11, true, l13, l14, l15, l16, l17, l18, l19, l20, l21, _, _, _, _, _, _, _, _, _, _, _, _, _, _, _, _, _, _, _, _, _, _, _, _, _, _, _, _, _, _, _, _, _, _, _, _, M, c0, c1, c2, c3, c4, c5, c6, c7, c8, c9, c10, c11, fun _ => ⟨_, rfl, by omega, by omega⟩, c13, c14, c15, c16, c17, c18, c19, c20, c21, hM, G⟩
    · obtain ⟨x, rfl, h0, h1⟩ := (c12 (hd { on := 12, ground := Ground.data } (by simp) rfl)).any
      have ow : IntKind.i64.wrap (x + 1) = x + 1 := wrap_in (by omega) (by omega)
      refine wpOp_step rfl (fun K hK => ?_)
      go_simp
      refine hK _ _ ?_
      exact ⟨l0, l1, l2, l3, l4, l5, l6, l7, l8, l9, l10, l11, l12, true, l14, l15, l16, l17, l18, l19, l20, l21, _, _, _, _, _, _, _, _, _, _, _, _, _, _, _, _, _, _, _, _, _, _, _, _, _, _, _, _, _, _, _, _, _, _, _, _, M, c0, c1, c2, c3, c4, c5, c6, c7, c8, c9, c10, c11, c12, fun _ => ⟨_, rfl, by omega, by omega⟩, c14, c15, c16, c17, c18, c19, c20, c21, hM, G⟩
    · have hlt := G.rd.lt
      obtain ⟨q0, rfl, q00, q01⟩ := (c4 (hd { on := 4, ground := Ground.data } (by simp) rfl)).any
      obtain ⟨q1, rfl, q10, q11⟩ := (c8 (hd { on := 8, ground := Ground.data } (by simp) rfl)).any
      obtain ⟨q2, rfl, q20, q21⟩ := (c13 (hd { on := 13, ground := Ground.data } (by simp) rfl)).any
      have HA := Lib.hid (GArr.new (r := w.heap.size) u [q0, q1, q2] [.int .i64 q0, .int .i64 q1, .int .i64 q2] rfl 3 hlt)
      refine wpOp_step rfl (fun K hK => ?_)
      go_simp
      refine hK _ _ ?_
      exact ⟨l0, l1, l2, l3, l4, l5, l6, l7, l8, l9, l10, l11, l12, l13, true, l15, l16, l17, l18, l19, l20, l21, _, _, _, _, _, _, _, _, _, _, _, _, _, _, _, _, _, _, _, _, _, _, _, _, _, _, _, _, _, _, _, _, _, _, _, _, M, c0, c1, c2, c3, c4, c5, c6, c7, c8, c9, c10, c11, c12, c13, fun _ => ⟨_, [q0, q1, q2], rfl, rfl, by intro z hz; simp at hz; omega, HA.out⟩, c15, c16, fun h => (c17 h).keep (GKeeps.alloc w.heap.size u _), c18, c19, c20, c21, hM, G.next (below_box u _)⟩
    · skip
      refine wpOp_step rfl (fun K hK => ?_)
      go_simp
      refine hK _ _ ?_
      exact ⟨l0, l1, l2, l3, l4, l5, l6, l7, l8, l9, l10, l11, l12, l13, l14, true, l16, l17, l18, l19, l20, l21, _, _, _, _, _, _, _, _, _, _, _, _, _, _, _, _, _, _, _, _, _, _, _, _, _, _, _, _, _, _, _, _, _, _, _, _, M, c0, c1, c2, c3, c4, c5, c6, c7, c8, c9, c10, c11, c12, c13, c14, fun _ => rfl, c16, c17, c18, c19, c20, c21, hM, G⟩
    · obtain rfl := c15 (hd { on := 15, ground := Ground.data } (by simp) rfl)
      have e16 : l16 = false := hl
      subst e16
      refine wpOp_step rfl (fun K hK => ?_)
      go_simp
      refine (gpick 3 (by omega) G (by omega)).mono ?_
      rintro e u' ⟨xk, h0, h1, rfl, G', KA, hg⟩
      refine hK _ _ ?_
      exact ⟨l0, l1, l2, l3, l4, l5, l6, l7, l8, l9, l10, l11, l12, l13, l14, l15, true, l17, l18, l19, l20, l21, _, _, _, _, _, _, _, _, _, _, _, _, _, _, _, _, _, _, _, _, _, _, _, _, _, _, _, _, _, _, _, _, _, _, _, _, (M + 1), c0, c1, c2, c3, c4, c5, c6, c7, c8, c9, c10, c11, c12, c13, fun h => (c14 h).keep KA, c15, fun _ => ⟨xk, rfl, h0, by omega⟩, fun h => (c17 h).keep KA, c18, c19, c20, c21, by simp only [Bool.false_eq_true, if_false, if_true] at hM ⊢; omega, G'⟩
    · obtain ⟨b, rfl, hx⟩ := (c14 (hd { on := 14, ground := Ground.data } (by simp) rfl)).index
      obtain ⟨xk, rfl, x0, x1⟩ := (c16 (hd { on := 16, ground := Ground.data } (by simp) rfl)).any
      have x2 : xk < 3 := by omega
      have HX := Lib.hid (hx xk x0 (by omega))
      refine wpOp_step rfl (fun K hK => ?_)
      go_simp
      refine hK _ _ ?_
      exact ⟨l0, l1, l2, l3, l4, l5, l6, l7, l8, l9, l10, l11, l12, l13, l14, l15, l16, true, l18, l19, l20, l21, _, _, _, _, _, _, _, _, _, _, _, _, _, _, _, _, _, _, _, _, _, _, _, _, _, _, _, _, _, _, _, _, _, _, _, _, M, c0, c1, c2, c3, c4, c5, c6, c7, c8, c9, c10, c11, c12, c13, c14, c15, c16, fun _ => HX.out, c18, c19, c20, c21, hM, G⟩
    · obtain ⟨b, k, z, rfl, ck, k0, k1⟩ := (c17 (hd { on := 17, ground := Ground.data } (by simp) rfl)).load
      refine wpOp_step rfl (fun K hK => ?_)
      go_simp
      refine hK _ _ ?_
      exact ⟨l0, l1, l2, l3, l4, l5, l6, l7, l8, l9, l10, l11, l12, l13, l14, l15, l16, l17, true, l19, l20, l21, _, _, _, _, _, _, _, _, _, _, _, _, _, _, _, _, _, _, _, _, _, _, _, _, _, _, _, _, _, _, _, _, _, _, _, _, M, c0, c1, c2, c3, c4, c5, c6, c7, c8, c9, c10, c11, c12, c13, c14, c15, c16, c17, fun _ => ⟨z, rfl, k0, k1⟩, c19, c20, c21, hM, G⟩
    · obtain rfl := c0 (hd { on := 0, ground := Ground.data } (by simp) rfl)
      refine wpOp_step rfl (fun K hK => ?_)
      go_simp
      refine hK _ _ ?_
      exact ⟨l0, l1, l2, l3, l4, l5, l6, l7, l8, l9, l10, l11, l12, l13, l14, l15, l16, l17, l18, true, l20, l21, _, _, _, _, _, _, _, _, _, _, _, _, _, _, _, _, _, _, _, _, _, _, _, _, _, _, _, _, _, _, _, _, _, _, _, _, M, c0, c1, c2, c3, c4, c5, c6, c7, c8, c9, c10, c11, c12, c13, c14, c15, c16, c17, c18, fun _ => rfl, c20, c21, hM, G⟩
    · obtain rfl := c1 (hd { on := 1, ground := Ground.data } (by simp) rfl)
      refine wpOp_step rfl (fun K hK => ?_)
      go_simp
      refine hK _ _ ?_
      exact ⟨l0, l1, l2, l3, l4, l5, l6, l7, l8, l9, l10, l11, l12, l13, l14, l15, l16, l17, l18, l19, true, l21, _, _, _, _, _, _, _, _, _, _, _, _, _, _, _, _, _, _, _, _, _, _, _, _, _, _, _, _, _, _, _, _, _, _, _, _, M, c0, c1, c2, c3, c4, c5, c6, c7, c8, c9, c10, c11, c12, c13, c14, c15, c16, c17, c18, c19, fun _ => rfl, c21, hM, G⟩
    · obtain ⟨x, rfl, h0, h1⟩ := (c18 (hd { on := 18, ground := Ground.data } (by simp) rfl)).any
      refine wpOp_step rfl (fun K hK => ?_)
      go_simp
      refine hK _ _ ?_
      exact ⟨l0, l1, l2, l3, l4, l5, l6, l7, l8, l9, l10, l11, l12, l13, l14, l15, l16, l17, l18, l19, l20, true, _, _, _, _, _, _, _, _, _, _, _, _, _, _, _, _, _, _, _, _, _, _, _, _, _, _, _, _, _, _, _, _, _, _, _, _, M, c0, c1, c2, c3, c4, c5, c6, c7, c8, c9, c10, c11, c12, c13, c14, c15, c16, c17, c18, c19, c20, fun _ => ⟨x, rfl, h0, h1⟩, hM, G⟩
  case hlt => exact backB_spec (by kernel_rfl)
  case hsz => exact fun listed a u h => h.size
  case hdone =>
    intro listed act u hR hall
    obtain ⟨l0, l1, l2, l3, l4, l5, l6, l7, l8, l9, l10, l11, l12, l13, l14, l15, l16, l17, l18, l19, l20, l21, v2, v3, v4, v20, v21, v22, v23, v24, v25, v26, v27, v28, v29, v30, v31, v32, v33, v34, v35, v36, v37, v38, p0, p1, p8, p9, p10, p11, p12, p13, p14, p15, p16, p17, p18, p19, M, c0, c1, c2, c3, c4, c5, c6, c7, c8, c9, c10, c11, c12, c13, c14, c15, c16, c17, c18, c19, c20, c21, hM, G⟩ := hR
    obtain rfl := c19 (hall 19 (by decide))
    obtain rfl := c20 (hall 20 (by decide))
    obtain ⟨x9, rfl, x0, x1⟩ := (c21 (hall 21 (by decide))).any
    have HO := Lib.hid G.old
    clear c0 c1 c2 c3 c4 c5 c6 c7 c8 c9 c10 c11 c12 c13 c14 c15 c16 c17 c18 c19 c20 c21 hall G
    go_wp2
    exact bodyPost_ret (v := .tuple #[.int .i64 xf, .int .i64 xu, .int .i64 x9]) (by simp [results, Try.results18, go_sem]) rfl ⟨xf, xu, x9, hf, hu, ⟨x0, x1⟩, rfl, HO.out⟩
end Go.Proofs.Ytdklplohboeifaa
