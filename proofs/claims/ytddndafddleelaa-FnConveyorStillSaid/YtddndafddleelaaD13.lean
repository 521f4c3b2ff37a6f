/- What the laws on the conveyor draw: a speed and a window, a place and a time. -/
import Derived.Test.YtddndafddleelaaZbInv
import Derived.Test.YtddndafddleelaaNum13
namespace Go.Proofs.Ytddndafddleelaa
set_option maxRecDepth 100000
open Go.RowKit
attribute [local go_sem ↓] Go.wp_at_zero Go.wp_at_succ
/-- What holds when the operations of 'listed' have come up. -/
inductive RFWin (w w0 : World) (r  : Nat) (lo : Int) (u : World) : Array Bool → Act → Prop
  | mk (l0 l1 l2 l3 l4 l5 l6 l7 l8 l9 l10 l11 l12 l13 l14 l15 l16 l17 l18 l19 l20 l21 l22 : Bool) (v2 v3 v4 v9 v10 v11 v12 v13 v14 v15 v16 v17 v18 v19 v20 v21 v22 v23 v24 v25 v26 v27 v28 p1 p6 p7 p8 : Value) (M : Nat)
    (c0 : l0 = true → v9 = .pointer (some ⟨r, 0, none⟩)) (c1 : l1 = true → CI 0 19 v10) (c2 : l2 = true → CA r u 5 (-1) (201) v11) (c3 : l3 = true → CA r u 9 (0) (4) v12) (c4 : l4 = true → v13 = .pointer (some ⟨r, 0, none⟩)) (c5 : l5 = true → CI 0 8 v14) (c6 : l6 = true → CP r u (0) (4) v15) (c7 : l7 = true → CI (0) (4) v16) (c8 : l8 = true → CP r u (-1) (201) v17) (c9 : l9 = true → CI (-1) (201) v18) (c10 : l10 = true → v19 = .int .i64 lo) (c11 : l11 = true → v20 = .int .i64 lo) (c12 : l12 = true → v21 = .pointer (some ⟨r, 0, none⟩)) (c13 : l13 = true → CI 0 39 v22) (c14 : l14 = true → CI (-20) 78 v23) (c15 : l15 = true → v24 = .pointer (some ⟨r, 0, none⟩)) (c16 : l16 = true → CI 0 15 v25) (c17 : l17 = true → CI (0) (1) v26) (c18 : l18 = true → CI (0) (60) v27) (c19 : l19 = true → CI (-80) 78 v28) (c20 : l20 = true → CI (-1) (201) v2) (c21 : l21 = true → v3 = .int .i64 lo) (c22 : l22 = true → CI (-80) (78) v4)
    (hM : M + ((if l1 then 0 else 1) + (if l5 then 0 else 1) + (if l13 then 0 else 1) + (if l16 then 0 else 1)) ≤ 900) (G : GSt w w0 r [] M u) : RFWin w w0 r   lo u #[l0, l1, l2, l3, l4, l5, l6, l7, l8, l9, l10, l11, l12, l13, l14, l15, l16, l17, l18, l19, l20, l21, l22] { tmps := #[.pointer (some ⟨r, 0, none⟩), p1, v2, v3, v4, .int .i64 lo, p6, p7, p8, v9, v10, v11, v12, v13, v14, v15, v16, v17, v18, v19, v20, v21, v22, v23, v24, v25, v26, v27, v28], defers := [] }
theorem RFWin.size {w w0 : World} {r  : Nat} {lo : Int} {u : World} {listed : Array Bool} {a : Act} (h : RFWin w w0 r   lo u listed a) : listed.size = 23 := by cases h; rfl
/-- What holds when the operations of 'listed' have come up. -/
inductive RFPTm (w w0 : World) (r  : Nat) (xs lo hi : Int) (u : World) : Array Bool → Act → Prop
  | mk (l0 l1 l2 l3 l4 l5 l6 l7 l8 l9 l10 l11 l12 l13 l14 l15 l16 l17 l18 l19 l20 l21 : Bool) (v2 v3 v4 v5 v6 v19 v20 v21 v22 v23 v24 v25 v26 v27 v28 v29 v30 v31 v32 v33 v34 v35 p0 p1 p11 p12 p13 p14 p15 p16 p17 p18 : Value) (M : Nat)
    (c0 : l0 = true → v19 = .pointer (some ⟨r, 0, none⟩)) (c1 : l1 = true → CI 0 255 v20) (c2 : l2 = true → CI (-255) (0) v21) (c3 : l3 = true → CI (-510) (0) v22) (c4 : l4 = true → v23 = .int .i64 xs) (c5 : l5 = true → v24 = .int .i64 lo) (c6 : l6 = true → v25 = .int .i64 hi) (c7 : l7 = true → v26 = .pointer (some ⟨r, 0, none⟩)) (c8 : l8 = true → CI 0 59 v27) (c9 : l9 = true → CA r u 4 (-1) (2001) v28) (c10 : l10 = true → CA r u 7 (0) (3) v29) (c11 : l11 = true → v30 = .pointer (some ⟨r, 0, none⟩)) (c12 : l12 = true → CI 0 6 v31) (c13 : l13 = true → CP r u (0) (3) v32) (c14 : l14 = true → CI (0) (3) v33) (c15 : l15 = true → CP r u (-1) (2001) v34) (c16 : l16 = true → CI (-1) (2001) v35) (c17 : l17 = true → CI (-510) (0) v2) (c18 : l18 = true → v3 = .int .i64 xs) (c19 : l19 = true → v4 = .int .i64 lo) (c20 : l20 = true → v5 = .int .i64 hi) (c21 : l21 = true → CI (-1) (2001) v6)
    (hM : M + ((if l1 then 0 else 1) + (if l8 then 0 else 1) + (if l12 then 0 else 1)) ≤ 1000) (G : GSt w w0 r [] M u) : RFPTm w w0 r   xs lo hi u #[l0, l1, l2, l3, l4, l5, l6, l7, l8, l9, l10, l11, l12, l13, l14, l15, l16, l17, l18, l19, l20, l21] { tmps := #[p0, p1, v2, v3, v4, v5, v6, .pointer (some ⟨r, 0, none⟩), .int .i64 xs, .int .i64 lo, .int .i64 hi, p11, p12, p13, p14, p15, p16, p17, p18, v19, v20, v21, v22, v23, v24, v25, v26, v27, v28, v29, v30, v31, v32, v33, v34, v35], defers := [] }
theorem RFPTm.size {w w0 : World} {r  : Nat} {xs lo hi : Int} {u : World} {listed : Array Bool} {a : Act} (h : RFPTm w w0 r   xs lo hi u listed a) : listed.size = 22 := by cases h; rfl
theorem GSt.trans13 {w w0 u v : World} {r M M' : Nat} (h : GSt w w0 r [] M u) (k : GSt w u r [] M' v) : GSt w w0 r [] M' v :=
  ⟨k.rd, k.old, Nat.le_trans h.size k.size, fun q h1 h2 h3 => (k.keep q (Nat.lt_of_lt_of_le h1 h.size) h2 h3).trans (h.keep q h1 h2 h3)⟩
/-- A speed and a window are drawn: of what lay in u the reader alone has changed. -/
def GotWin (w u : World) (M r : Nat) (e : Ending) (u' : World) : Prop :=
  ∃ s lo hi : Int, (-1 ≤ s ∧ s ≤ 201) ∧ (-20 ≤ lo ∧ lo ≤ 39) ∧ (-80 ≤ hi ∧ hi ≤ 78) ∧ e = .returned (.tuple #[.int .i64 s, .int .i64 lo, .int .i64 hi]) ∧ ∃ N, N ≤ 900 ∧ GSt w u r [] N u'
set_option maxHeartbeats 8000000 in
theorem l20Window (w u : World) (M r : Nat) (hr : Rd w.heap.size M u r) (hb : Below w.heap.size w u) (hM : M ≤ 800) :
    Calls Try.prog 38 #[.pointer (some ⟨r, 0, none⟩)] u (GotWin w u M r) := by
  have G1 := Lib.hid (GSt.start (rs := []) hr hb)
  clear hb hr
  go_enter Try.func38, Try.ntmps38
  go_wp2_with fail
  refine (gpick 60 (by omega) G1.out (by omega)).mono ?_
  rintro e w2 ⟨x2, a2, b2, rfl, G2', _, _⟩
  obtain ⟨lo, hlo⟩ : ∃ lo, x2 - 20 = lo := ⟨_, rfl⟩
  have lo0 : -20 ≤ lo := by omega
  have lo1 : lo ≤ 39 := by omega
  have o1 : IntKind.i64.wrap (x2 - 20) = lo := hlo ▸ IntWalk.i64_in _ (by omega)
  have G0 := Lib.hid (GSt.start (rs := []) G2'.rd G2'.old).drew
  have HK2 := Lib.hid G2'
  have HM0 := Lib.hid (show M + 1 + ((if false then 0 else 1) + (if false then 0 else 1) + (if false then 0 else 1) + (if false then 0 else 1)) ≤ 900 by simp; omega)
  clear G2' G1 a2 b2 hlo
  go_upto_region 2 with fail
  refine wp_region_inv (fun listed act u => RFWin w w2 r   lo u listed act) (by kernel_rfl) ?hlt ?hsz ?h0 ?hstep ?hdone
  case h0 =>
    exact ⟨false, false, false, false, false, false, false, false, false, false, false, false, false, false, false, false, false, false, false, false, false, false, false, _, _, _, _, _, _, _, _, _, _, _, _, _, _, _, _, _, _, _, _, _, _, _, _, _, _, _, _, (by intro h; cases h), (by intro h; cases h), (by intro h; cases h), (by intro h; cases h), (by intro h; cases h), (by intro h; cases h), (by intro h; cases h), (by intro h; cases h), (by intro h; cases h), (by intro h; cases h), (by intro h; cases h), (by intro h; cases h), (by intro h; cases h), (by intro h; cases h), (by intro h; cases h), (by intro h; cases h), (by intro h; cases h), (by intro h; cases h), (by intro h; cases h), (by intro h; cases h), (by intro h; cases h), (by intro h; cases h), (by intro h; cases h), HM0.out, G0.out⟩
  case hstep =>
    intro listed act u i o hR ho hl hd
    obtain ⟨l0, l1, l2, l3, l4, l5, l6, l7, l8, l9, l10, l11, l12, l13, l14, l15, l16, l17, l18, l19, l20, l21, l22, v2, v3, v4, v9, v10, v11, v12, v13, v14, v15, v16, v17, v18, v19, v20, v21, v22, v23, v24, v25, v26, v27, v28, p1, p6, p7, p8, M, c0, c1, c2, c3, c4, c5, c6, c7, c8, c9, c10, c11, c12, c13, c14, c15, c16, c17, c18, c19, c20, c21, c22, hM, G⟩ := hR
    have hi : i < 23 := by rcases Nat.lt_or_ge i 23 with h | h; exact h; rw [Array.getElem?_eq_none (by simpa using h)] at ho; cases ho
    have hi2 : i = 0 ∨ i = 1 ∨ i = 2 ∨ i = 3 ∨ i = 4 ∨ i = 5 ∨ i = 6 ∨ i = 7 ∨ i = 8 ∨ i = 9 ∨ i = 10 ∨ i = 11 ∨ i = 12 ∨ i = 13 ∨ i = 14 ∨ i = 15 ∨ i = 16 ∨ i = 17 ∨ i = 18 ∨ i = 19 ∨ i = 20 ∨ i = 21 ∨ i = 22 := by omega
    rcases hi2 with rfl | rfl | rfl | rfl | rfl | rfl | rfl | rfl | rfl | rfl | rfl | rfl | rfl | rfl | rfl | rfl | rfl | rfl | rfl | rfl | rfl | rfl | rfl
    all_goals (cases ho)
    · skip
      refine wpOp_step rfl (fun K hK => ?_)
      go_simp
      refine hK _ _ ?_
      exact ⟨true, l1, l2, l3, l4, l5, l6, l7, l8, l9, l10, l11, l12, l13, l14, l15, l16, l17, l18, l19, l20, l21, l22, _, _, _, _, _, _, _, _, _, _, _, _, _, _, _, _, _, _, _, _, _, _, _, _, _, _, _, M, fun _ => rfl, c1, c2, c3, c4, c5, c6, c7, c8, c9, c10, c11, c12, c13, c14, c15, c16, c17, c18, c19, c20, c21, c22, hM, G⟩
    · obtain rfl := c0 (hd { on := 0, ground := Ground.data } (by simp) rfl)
      have e1 : l1 = false := hl
      subst e1
      refine wpOp_step rfl (fun K hK => ?_)
      go_simp
      refine (gpick 20 (by omega) G (by omega)).mono ?_
      rintro e u' ⟨xk, h0, h1, rfl, G', KA, hg⟩
      refine hK _ _ ?_
      exact ⟨l0, true, l2, l3, l4, l5, l6, l7, l8, l9, l10, l11, l12, l13, l14, l15, l16, l17, l18, l19, l20, l21, l22, _, _, _, _, _, _, _, _, _, _, _, _, _, _, _, _, _, _, _, _, _, _, _, _, _, _, _, (M + 1), c0, fun _ => ⟨xk, rfl, h0, by omega⟩, fun h => (c2 h).keep KA, fun h => (c3 h).keep KA, c4, c5, fun h => (c6 h).keep KA, c7, fun h => (c8 h).keep KA, c9, c10, c11, c12, c13, c14, c15, c16, c17, c18, c19, c20, c21, c22, by simp only [Bool.false_eq_true, if_false, if_true] at hM ⊢; omega, G'⟩
    · have hlt := G.rd.lt
      obtain ⟨q0, rfl, q00, q01⟩ := (c1 (hd { on := 1, ground := Ground.data } (by simp) rfl)).any
      have HA := Lib.hid (GArr.new (r := r) u [q0, 0, 1, (-1), 201] [.int .i64 q0, .int .i64 0, .int .i64 1, .int .i64 (-1), .int .i64 201] rfl 3 hlt)
      refine wpOp_step rfl (fun K hK => ?_)
      go_simp
      refine hK _ _ ?_
      exact ⟨l0, l1, true, l3, l4, l5, l6, l7, l8, l9, l10, l11, l12, l13, l14, l15, l16, l17, l18, l19, l20, l21, l22, _, _, _, _, _, _, _, _, _, _, _, _, _, _, _, _, _, _, _, _, _, _, _, _, _, _, _, M, c0, c1, fun _ => ⟨_, [q0, 0, 1, (-1), 201], rfl, rfl, by intro z hz; simp at hz; omega, HA.out⟩, fun h => (c3 h).keep (GKeeps.alloc r u _), c4, c5, fun h => (c6 h).keep (GKeeps.alloc r u _), c7, fun h => (c8 h).keep (GKeeps.alloc r u _), c9, c10, c11, c12, c13, c14, c15, c16, c17, c18, c19, c20, c21, c22, hM, G.next (below_box u _)⟩
    · have hlt := G.rd.lt
      have HA := Lib.hid (GArr.new (r := r) u [0, 0, 0, 0, 1, 2, 2, 3, 4] [.int .i64 0, .int .i64 0, .int .i64 0, .int .i64 0, .int .i64 1, .int .i64 2, .int .i64 2, .int .i64 3, .int .i64 4] rfl 3 hlt)
      refine wpOp_step rfl (fun K hK => ?_)
      go_simp
      refine hK _ _ ?_
      exact ⟨l0, l1, l2, true, l4, l5, l6, l7, l8, l9, l10, l11, l12, l13, l14, l15, l16, l17, l18, l19, l20, l21, l22, _, _, _, _, _, _, _, _, _, _, _, _, _, _, _, _, _, _, _, _, _, _, _, _, _, _, _, M, c0, c1, fun h => (c2 h).keep (GKeeps.alloc r u _), fun _ => ⟨_, [0, 0, 0, 0, 1, 2, 2, 3, 4], rfl, rfl, by intro z hz; simp at hz; omega, HA.out⟩, c4, c5, fun h => (c6 h).keep (GKeeps.alloc r u _), c7, fun h => (c8 h).keep (GKeeps.alloc r u _), c9, c10, c11, c12, c13, c14, c15, c16, c17, c18, c19, c20, c21, c22, hM, G.next (below_box u _)⟩
    · skip
      refine wpOp_step rfl (fun K hK => ?_)
      go_simp
      refine hK _ _ ?_
      exact ⟨l0, l1, l2, l3, true, l5, l6, l7, l8, l9, l10, l11, l12, l13, l14, l15, l16, l17, l18, l19, l20, l21, l22, _, _, _, _, _, _, _, _, _, _, _, _, _, _, _, _, _, _, _, _, _, _, _, _, _, _, _, M, c0, c1, c2, c3, fun _ => rfl, c5, c6, c7, c8, c9, c10, c11, c12, c13, c14, c15, c16, c17, c18, c19, c20, c21, c22, hM, G⟩
    · obtain rfl := c4 (hd { on := 4, ground := Ground.data } (by simp) rfl)
      have e5 : l5 = false := hl
      subst e5
      refine wpOp_step rfl (fun K hK => ?_)
      go_simp
      refine (gpick 9 (by omega) G (by omega)).mono ?_
      rintro e u' ⟨xk, h0, h1, rfl, G', KA, hg⟩
      refine hK _ _ ?_
      exact ⟨l0, l1, l2, l3, l4, true, l6, l7, l8, l9, l10, l11, l12, l13, l14, l15, l16, l17, l18, l19, l20, l21, l22, _, _, _, _, _, _, _, _, _, _, _, _, _, _, _, _, _, _, _, _, _, _, _, _, _, _, _, (M + 1), c0, c1, fun h => (c2 h).keep KA, fun h => (c3 h).keep KA, c4, fun _ => ⟨xk, rfl, h0, by omega⟩, fun h => (c6 h).keep KA, c7, fun h => (c8 h).keep KA, c9, c10, c11, c12, c13, c14, c15, c16, c17, c18, c19, c20, c21, c22, by simp only [Bool.false_eq_true, if_false, if_true] at hM ⊢; omega, G'⟩
    · obtain ⟨b, rfl, hx⟩ := (c3 (hd { on := 3, ground := Ground.data } (by simp) rfl)).index
      obtain ⟨xk, rfl, x0, x1⟩ := (c5 (hd { on := 5, ground := Ground.data } (by simp) rfl)).any
      have x2 : xk < 9 := by omega
      have HX := Lib.hid (hx xk x0 (by omega))
      refine wpOp_step rfl (fun K hK => ?_)
      go_simp
      refine hK _ _ ?_
      exact ⟨l0, l1, l2, l3, l4, l5, true, l7, l8, l9, l10, l11, l12, l13, l14, l15, l16, l17, l18, l19, l20, l21, l22, _, _, _, _, _, _, _, _, _, _, _, _, _, _, _, _, _, _, _, _, _, _, _, _, _, _, _, M, c0, c1, c2, c3, c4, c5, fun _ => HX.out, c7, c8, c9, c10, c11, c12, c13, c14, c15, c16, c17, c18, c19, c20, c21, c22, hM, G⟩
    · obtain ⟨b, k, z, rfl, ck, k0, k1⟩ := (c6 (hd { on := 6, ground := Ground.data } (by simp) rfl)).load
      refine wpOp_step rfl (fun K hK => ?_)
      go_simp
      refine hK _ _ ?_
      exact ⟨l0, l1, l2, l3, l4, l5, l6, true, l8, l9, l10, l11, l12, l13, l14, l15, l16, l17, l18, l19, l20, l21, l22, _, _, _, _, _, _, _, _, _, _, _, _, _, _, _, _, _, _, _, _, _, _, _, _, _, _, _, M, c0, c1, c2, c3, c4, c5, c6, fun _ => ⟨z, rfl, k0, k1⟩, c8, c9, c10, c11, c12, c13, c14, c15, c16, c17, c18, c19, c20, c21, c22, hM, G⟩
    · obtain ⟨b, rfl, hx⟩ := (c2 (hd { on := 2, ground := Ground.data } (by simp) rfl)).index
      obtain ⟨xk, rfl, x0, x1⟩ := (c7 (hd { on := 7, ground := Ground.data } (by simp) rfl)).any
      have x2 : xk < 5 := by omega
      have HX := Lib.hid (hx xk x0 (by omega))
      refine wpOp_step rfl (fun K hK => ?_)
      go_simp
      refine hK _ _ ?_
      exact ⟨l0, l1, l2, l3, l4, l5, l6, l7, true, l9, l10, l11, l12, l13, l14, l15, l16, l17, l18, l19, l20, l21, l22, _, _, _, _, _, _, _, _, _, _, _, _, _, _, _, _, _, _, _, _, _, _, _, _, _, _, _, M, c0, c1, c2, c3, c4, c5, c6, c7, fun _ => HX.out, c9, c10, c11, c12, c13, c14, c15, c16, c17, c18, c19, c20, c21, c22, hM, G⟩
    · obtain ⟨b, k, z, rfl, ck, k0, k1⟩ := (c8 (hd { on := 8, ground := Ground.data } (by simp) rfl)).load
      refine wpOp_step rfl (fun K hK => ?_)
      go_simp
      refine hK _ _ ?_
      exact ⟨l0, l1, l2, l3, l4, l5, l6, l7, l8, true, l10, l11, l12, l13, l14, l15, l16, l17, l18, l19, l20, l21, l22, _, _, _, _, _, _, _, _, _, _, _, _, _, _, _, _, _, _, _, _, _, _, _, _, _, _, _, M, c0, c1, c2, c3, c4, c5, c6, c7, c8, fun _ => ⟨z, rfl, k0, k1⟩, c10, c11, c12, c13, c14, c15, c16, c17, c18, c19, c20, c21, c22, hM, G⟩
    · skip
      refine wpOp_step rfl (fun K hK => ?_)
      go_simp
      refine hK _ _ ?_
      exact ⟨l0, l1, l2, l3, l4, l5, l6, l7, l8, l9, true, l11, l12, l13, l14, l15, l16, l17, l18, l19, l20, l21, l22, _, _, _, _, _, _, _, _, _, _, _, _, _, _, _, _, _, _, _, _, _, _, _, _, _, _, _, M, c0, c1, c2, c3, c4, c5, c6, c7, c8, c9, fun _ => rfl, c11, c12, c13, c14, c15, c16, c17, c18, c19, c20, c21, c22, hM, G⟩
    · skip
      refine wpOp_step rfl (fun K hK => ?_)
      go_simp
      refine hK _ _ ?_
      exact ⟨l0, l1, l2, l3, l4, l5, l6, l7, l8, l9, l10, true, l12, l13, l14, l15, l16, l17, l18, l19, l20, l21, l22, _, _, _, _, _, _, _, _, _, _, _, _, _, _, _, _, _, _, _, _, _, _, _, _, _, _, _, M, c0, c1, c2, c3, c4, c5, c6, c7, c8, c9, c10, fun _ => rfl, c12, c13, c14, c15, c16, c17, c18, c19, c20, c21, c22, hM, G⟩
    · skip
      refine wpOp_step rfl (fun K hK => ?_)
      go_simp
      refine hK _ _ ?_
      exact ⟨l0, l1, l2, l3, l4, l5, l6, l7, l8, l9, l10, l11, true, l13, l14, l15, l16, l17, l18, l19, l20, l21, l22, _, _, _, _, _, _, _, _, _, _, _, _, _, _, _, _, _, _, _, _, _, _, _, _, _, _, _, M, c0, c1, c2, c3, c4, c5, c6, c7, c8, c9, c10, c11, fun _ => rfl, c13, c14, c15, c16, c17, c18, c19, c20, c21, c22, hM, G⟩
    · obtain rfl := c12 (hd { on := 12, ground := Ground.data } (by simp) rfl)
      have e13 : l13 = false := hl
      subst e13
      refine wpOp_step rfl (fun K hK => ?_)
      go_simp
      refine (gpick 40 (by omega) G (by omega)).mono ?_
      rintro e u' ⟨xk, h0, h1, rfl, G', KA, hg⟩
      refine hK _ _ ?_
      exact ⟨l0, l1, l2, l3, l4, l5, l6, l7, l8, l9, l10, l11, l12, true, l14, l15, l16, l17, l18, l19, l20, l21, l22, _, _, _, _, _, _, _, _, _, _, _, _, _, _, _, _, _, _, _, _, _, _, _, _, _, _, _, (M + 1), c0, c1, fun h => (c2 h).keep KA, fun h => (c3 h).keep KA, c4, c5, fun h => (c6 h).keep KA, c7, fun h => (c8 h).keep KA, c9, c10, c11, c12, fun _ => ⟨xk, rfl, h0, by omega⟩, c14, c15, c16, c17, c18, c19, c20, c21, c22, by simp only [Bool.false_eq_true, if_false, if_true] at hM ⊢; omega, G'⟩
    · obtain rfl := c11 (hd { on := 11, ground := Ground.data } (by simp) rfl)
      obtain ⟨x, rfl, h0, h1⟩ := (c13 (hd { on := 13, ground := Ground.data } (by simp) rfl)).any
      have ow : IntKind.i64.wrap (lo + x) = lo + x := wrap_in (by omega) (by omega)
      all_goals
        refine wpOp_step rfl (fun K hK => ?_)
        go_simp
        refine hK _ _ ?_
        exact ⟨l0, l1, l2, l3, l4, l5, l6, l7, l8, l9, l10, l11, l12, l13, true, l15, l16, l17, l18, l19, l20, l21, l22, _, _, _, _, _, _, _, _, _, _, _, _, _, _, _, _, _, _, _, _, _, _, _, _, _, _, _, M, c0, c1, c2, c3, c4, c5, c6, c7, c8, c9, c10, c11, c12, c13, fun _ => ⟨lo + x, rfl, by omega, by omega⟩, c15, c16, c17, c18, c19, c20, c21, c22, hM, G⟩
    · skip
      refine wpOp_step rfl (fun K hK => ?_)
      go_simp
      refine hK _ _ ?_
      exact ⟨l0, l1, l2, l3, l4, l5, l6, l7, l8, l9, l10, l11, l12, l13, l14, true, l16, l17, l18, l19, l20, l21, l22, _, _, _, _, _, _, _, _, _, _, _, _, _, _, _, _, _, _, _, _, _, _, _, _, _, _, _, M, c0, c1, c2, c3, c4, c5, c6, c7, c8, c9, c10, c11, c12, c13, c14, fun _ => rfl, c16, c17, c18, c19, c20, c21, c22, hM, G⟩
    · obtain rfl := c15 (hd { on := 15, ground := Ground.data } (by simp) rfl)
      have e16 : l16 = false := hl
      subst e16
      refine wpOp_step rfl (fun K hK => ?_)
      go_simp
      refine (gpick 16 (by omega) G (by omega)).mono ?_
      rintro e u' ⟨xk, h0, h1, rfl, G', KA, hg⟩
      refine hK _ _ ?_
      exact ⟨l0, l1, l2, l3, l4, l5, l6, l7, l8, l9, l10, l11, l12, l13, l14, l15, true, l17, l18, l19, l20, l21, l22, _, _, _, _, _, _, _, _, _, _, _, _, _, _, _, _, _, _, _, _, _, _, _, _, _, _, _, (M + 1), c0, c1, fun h => (c2 h).keep KA, fun h => (c3 h).keep KA, c4, c5, fun h => (c6 h).keep KA, c7, fun h => (c8 h).keep KA, c9, c10, c11, c12, c13, c14, c15, fun _ => ⟨xk, rfl, h0, by omega⟩, c17, c18, c19, c20, c21, c22, by simp only [Bool.false_eq_true, if_false, if_true] at hM ⊢; omega, G'⟩
    · obtain ⟨x, rfl, h0, h1⟩ := (c16 (hd { on := 16, ground := Ground.data } (by simp) rfl)).any
      obtain ⟨q, hq⟩ : ∃ q, x.tdiv 15 = q := ⟨_, rfl⟩
      have q0 : 0 ≤ q := by rw [← hq, Int.tdiv_eq_ediv_of_nonneg (by omega)]; omega
      have q1 : q ≤ 1 := by rw [← hq, Int.tdiv_eq_ediv_of_nonneg (by omega)]; omega
      have ow : IntKind.i64.wrap q = q := wrap_in (by omega) (by omega)
      refine wpOp_step rfl (fun K hK => ?_)
      go_simp
      refine hK _ _ ?_
      exact ⟨l0, l1, l2, l3, l4, l5, l6, l7, l8, l9, l10, l11, l12, l13, l14, l15, l16, true, l18, l19, l20, l21, l22, _, _, _, _, _, _, _, _, _, _, _, _, _, _, _, _, _, _, _, _, _, _, _, _, _, _, _, M, c0, c1, c2, c3, c4, c5, c6, c7, c8, c9, c10, c11, c12, c13, c14, c15, c16, fun _ => ⟨_, rfl, by omega, by omega⟩, c18, c19, c20, c21, c22, hM, G⟩
    · obtain ⟨x, rfl, h0, h1⟩ := (c17 (hd { on := 17, ground := Ground.data } (by simp) rfl)).any
      have ow : IntKind.i64.wrap (x * 60) = x * 60 := wrap_in (by omega) (by omega)
      refine wpOp_step rfl (fun K hK => ?_)
      go_simp
      refine hK _ _ ?_
      exact ⟨l0, l1, l2, l3, l4, l5, l6, l7, l8, l9, l10, l11, l12, l13, l14, l15, l16, l17, true, l19, l20, l21, l22, _, _, _, _, _, _, _, _, _, _, _, _, _, _, _, _, _, _, _, _, _, _, _, _, _, _, _, M, c0, c1, c2, c3, c4, c5, c6, c7, c8, c9, c10, c11, c12, c13, c14, c15, c16, c17, fun _ => ⟨_, rfl, by omega, by omega⟩, c19, c20, c21, c22, hM, G⟩
    · obtain ⟨x, rfl, h0, h1⟩ := (c14 (hd { on := 14, ground := Ground.data } (by simp) rfl)).any
      obtain ⟨y, rfl, g0, g1⟩ := (c18 (hd { on := 18, ground := Ground.data } (by simp) rfl)).any
      have ow : IntKind.i64.wrap (x - y) = x - y := wrap_in (by omega) (by omega)
      all_goals
        refine wpOp_step rfl (fun K hK => ?_)
        go_simp
        refine hK _ _ ?_
        exact ⟨l0, l1, l2, l3, l4, l5, l6, l7, l8, l9, l10, l11, l12, l13, l14, l15, l16, l17, l18, true, l20, l21, l22, _, _, _, _, _, _, _, _, _, _, _, _, _, _, _, _, _, _, _, _, _, _, _, _, _, _, _, M, c0, c1, c2, c3, c4, c5, c6, c7, c8, c9, c10, c11, c12, c13, c14, c15, c16, c17, c18, fun _ => ⟨x - y, rfl, by omega, by omega⟩, c20, c21, c22, hM, G⟩
    · obtain ⟨x, rfl, h0, h1⟩ := (c9 (hd { on := 9, ground := Ground.data } (by simp) rfl)).any
      refine wpOp_step rfl (fun K hK => ?_)
      go_simp
      refine hK _ _ ?_
      exact ⟨l0, l1, l2, l3, l4, l5, l6, l7, l8, l9, l10, l11, l12, l13, l14, l15, l16, l17, l18, l19, true, l21, l22, _, _, _, _, _, _, _, _, _, _, _, _, _, _, _, _, _, _, _, _, _, _, _, _, _, _, _, M, c0, c1, c2, c3, c4, c5, c6, c7, c8, c9, c10, c11, c12, c13, c14, c15, c16, c17, c18, c19, fun _ => ⟨x, rfl, h0, h1⟩, c21, c22, hM, G⟩
    · obtain rfl := c10 (hd { on := 10, ground := Ground.data } (by simp) rfl)
      refine wpOp_step rfl (fun K hK => ?_)
      go_simp
      refine hK _ _ ?_
      exact ⟨l0, l1, l2, l3, l4, l5, l6, l7, l8, l9, l10, l11, l12, l13, l14, l15, l16, l17, l18, l19, l20, true, l22, _, _, _, _, _, _, _, _, _, _, _, _, _, _, _, _, _, _, _, _, _, _, _, _, _, _, _, M, c0, c1, c2, c3, c4, c5, c6, c7, c8, c9, c10, c11, c12, c13, c14, c15, c16, c17, c18, c19, c20, fun _ => rfl, c22, hM, G⟩
    · obtain ⟨x, rfl, h0, h1⟩ := (c19 (hd { on := 19, ground := Ground.data } (by simp) rfl)).any
      refine wpOp_step rfl (fun K hK => ?_)
      go_simp
      refine hK _ _ ?_
      exact ⟨l0, l1, l2, l3, l4, l5, l6, l7, l8, l9, l10, l11, l12, l13, l14, l15, l16, l17, l18, l19, l20, l21, true, _, _, _, _, _, _, _, _, _, _, _, _, _, _, _, _, _, _, _, _, _, _, _, _, _, _, _, M, c0, c1, c2, c3, c4, c5, c6, c7, c8, c9, c10, c11, c12, c13, c14, c15, c16, c17, c18, c19, c20, c21, fun _ => ⟨x, rfl, h0, h1⟩, hM, G⟩
  case hlt => exact backB_spec (by kernel_rfl)
  case hsz => exact fun listed a u h => h.size
  case hdone =>
    intro listed act u hR hall
    obtain ⟨l0, l1, l2, l3, l4, l5, l6, l7, l8, l9, l10, l11, l12, l13, l14, l15, l16, l17, l18, l19, l20, l21, l22, v2, v3, v4, v9, v10, v11, v12, v13, v14, v15, v16, v17, v18, v19, v20, v21, v22, v23, v24, v25, v26, v27, v28, p1, p6, p7, p8, M1, c0, c1, c2, c3, c4, c5, c6, c7, c8, c9, c10, c11, c12, c13, c14, c15, c16, c17, c18, c19, c20, c21, c22, hM, G⟩ := hR
    obtain ⟨xs, rfl, s0, s1⟩ := (c20 (hall 20 (by decide))).any
    obtain rfl := c21 (hall 21 (by decide))
    obtain ⟨hi, rfl, z0, z1⟩ := (c22 (hall 22 (by decide))).any
    have HG := Lib.hid (HK2.out.trans13 G)
    have HM9 := Lib.hid (show M1 ≤ 900 by omega)
    clear c0 c1 c2 c3 c4 c5 c6 c7 c8 c9 c10 c11 c12 c13 c14 c15 c16 c17 c18 c19 c20 c21 c22 hall G
    go_wp2
    exact bodyPost_ret (v := .tuple #[.int .i64 xs, .int .i64 lo, .int .i64 hi]) (by simp [results, Try.results38, go_sem]) rfl ⟨xs, lo, hi, ⟨s0, s1⟩, ⟨lo0, lo1⟩, ⟨z0, z1⟩, rfl, _, HM9.out, HG.out⟩
/-- What the draw of a place and a time says. -/
def GotPT (w : World) (e : Ending) (w' : World) : Prop :=
  ∃ p s lo hi t : Int, (-510 ≤ p ∧ p ≤ 0) ∧ (-1 ≤ s ∧ s ≤ 201) ∧ (-20 ≤ lo ∧ lo ≤ 39) ∧ (-80 ≤ hi ∧ hi ≤ 78) ∧ (-1 ≤ t ∧ t ≤ 2001) ∧ e = .returned (.tuple #[.int .i64 p, .int .i64 s, .int .i64 lo, .int .i64 hi, .int .i64 t]) ∧ Below w.heap.size w w'
set_option maxHeartbeats 8000000 in
theorem drawPickTime (w : World) (a : Option Addr) (len cap : Nat) (zs : List Int) (h : Bytes w a len cap zs) :
    Calls Try.prog 16 #[.slice a len cap] w (GotPT w) := by
  go_enter Try.func16, Try.ntmps16
  go_wp2_with fail
  refine (gopen w _ a len cap zs h (Below.refl _ _) w.heap.size rfl).mono ?_
  rintro e w1 ⟨rfl, hr1, hb1⟩
  have HR1 := Lib.hid hr1
  have HB1 := Lib.hid hb1
  clear hb1 h hr1
  go_wp2_with fail
  refine (l20Window w w1 0 w.heap.size HR1.out HB1.out (by omega)).mono ?_
  rintro e w2 ⟨xs, lo, hi, hs, hlo, hhi, rfl, N2, hN2, G2⟩
  have HS := Lib.hid hs
  have HLO := Lib.hid hlo
  have HHI := Lib.hid hhi
  have G0 := Lib.hid (GSt.start (rs := []) G2.rd G2.old).drew
  have HM0 := Lib.hid (show N2 + ((if false then 0 else 1) + (if false then 0 else 1) + (if false then 0 else 1)) ≤ 1000 by simp; omega)
  clear G2 HR1 HB1 hs hlo hhi
  go_upto_region 3 with fail
  refine wp_region_inv (fun listed act u => RFPTm w w2 w.heap.size   xs lo hi u listed act) (by kernel_rfl) ?hlt ?hsz ?h0 ?hstep ?hdone
  case h0 =>
    exact ⟨false, false, false, false, false, false, false, false, false, false, false, false, false, false, false, false, false, false, false, false, false, false, _, _, _, _, _, _, _, _, _, _, _, _, _, _, _, _, _, _, _, _, _, _, _, _, _, _, _, _, _, _, _, _, _, (by intro h; cases h), (by intro h; cases h), (by intro h; cases h), (by intro h; cases h), (by intro h; cases h), (by intro h; cases h), (by intro h; cases h), (by intro h; cases h), (by intro h; cases h), (by intro h; cases h), (by intro h; cases h), (by intro h; cases h), (by intro h; cases h), (by intro h; cases h), (by intro h; cases h), (by intro h; cases h), (by intro h; cases h), (by intro h; cases h), (by intro h; cases h), (by intro h; cases h), (by intro h; cases h), (by intro h; cases h), HM0.out, G0.out⟩
  case hstep =>
    intro listed act u i o hR ho hl hd
    obtain ⟨l0, l1, l2, l3, l4, l5, l6, l7, l8, l9, l10, l11, l12, l13, l14, l15, l16, l17, l18, l19, l20, l21, v2, v3, v4, v5, v6, v19, v20, v21, v22, v23, v24, v25, v26, v27, v28, v29, v30, v31, v32, v33, v34, v35, p0, p1, p11, p12, p13, p14, p15, p16, p17, p18, M, c0, c1, c2, c3, c4, c5, c6, c7, c8, c9, c10, c11, c12, c13, c14, c15, c16, c17, c18, c19, c20, c21, hM, G⟩ := hR
    have hi : i < 22 := by rcases Nat.lt_or_ge i 22 with h | h; exact h; rw [Array.getElem?_eq_none (by simpa using h)] at ho; cases ho
    have hi2 : i = 0 ∨ i = 1 ∨ i = 2 ∨ i = 3 ∨ i = 4 ∨ i = 5 ∨ i = 6 ∨ i = 7 ∨ i = 8 ∨ i = 9 ∨ i = 10 ∨ i = 11 ∨ i = 12 ∨ i = 13 ∨ i = 14 ∨ i = 15 ∨ i = 16 ∨ i = 17 ∨ i = 18 ∨ i = 19 ∨ i = 20 ∨ i = 21 := by omega
    rcases hi2 with rfl | rfl | rfl | rfl | rfl | rfl | rfl | rfl | rfl | rfl | rfl | rfl | rfl | rfl | rfl | rfl | rfl | rfl | rfl | rfl | rfl | rfl
    all_goals (cases ho)
    · skip
      refine wpOp_step rfl (fun K hK => ?_)
      go_simp
      refine hK _ _ ?_
      exact ⟨true, l1, l2, l3, l4, l5, l6, l7, l8, l9, l10, l11, l12, l13, l14, l15, l16, l17, l18, l19, l20, l21, _, _, _, _, _, _, _, _, _, _, _, _, _, _, _, _, _, _, _, _, _, _, _, _, _, _, _, _, _, _, _, _, M, fun _ => rfl, c1, c2, c3, c4, c5, c6, c7, c8, c9, c10, c11, c12, c13, c14, c15, c16, c17, c18, c19, c20, c21, hM, G⟩
    · obtain rfl := c0 (hd { on := 0, ground := Ground.data } (by simp) rfl)
      have e1 : l1 = false := hl
      subst e1
      refine wpOp_step rfl (fun K hK => ?_)
      go_simp
      refine (gpick 256 (by omega) G (by omega)).mono ?_
      rintro e u' ⟨xk, h0, h1, rfl, G', KA, hg⟩
      refine hK _ _ ?_
      exact ⟨l0, true, l2, l3, l4, l5, l6, l7, l8, l9, l10, l11, l12, l13, l14, l15, l16, l17, l18, l19, l20, l21, _, _, _, _, _, _, _, _, _, _, _, _, _, _, _, _, _, _, _, _, _, _, _, _, _, _, _, _, _, _, _, _, (M + 1), c0, fun _ => ⟨xk, rfl, h0, by omega⟩, c2, c3, c4, c5, c6, c7, c8, fun h => (c9 h).keep KA, fun h => (c10 h).keep KA, c11, c12, fun h => (c13 h).keep KA, c14, fun h => (c15 h).keep KA, c16, c17, c18, c19, c20, c21, by simp only [Bool.false_eq_true, if_false, if_true] at hM ⊢; omega, G'⟩
    · obtain ⟨x, rfl, h0, h1⟩ := (c1 (hd { on := 1, ground := Ground.data } (by simp) rfl)).any
      have ow : IntKind.i64.wrap (-x) = -x := wrap_in (by omega) (by omega)
      refine wpOp_step rfl (fun K hK => ?_)
      go_simp
      refine hK _ _ ?_
      exact ⟨l0, l1, true, l3, l4, l5, l6, l7, l8, l9, l10, l11, l12, l13, l14, l15, l16, l17, l18, l19, l20, l21, _, _, _, _, _, _, _, _, _, _, _, _, _, _, _, _, _, _, _, _, _, _, _, _, _, _, _, _, _, _, _, _, M, c0, c1, fun _ => ⟨_, rfl, by omega, by omega⟩, c3, c4, c5, c6, c7, c8, c9, c10, c11, c12, c13, c14, c15, c16, c17, c18, c19, c20, c21, hM, G⟩
    · obtain ⟨x, rfl, h0, h1⟩ := (c2 (hd { on := 2, ground := Ground.data } (by simp) rfl)).any
      have ow : IntKind.i64.wrap (x * 2) = x * 2 := wrap_in (by omega) (by omega)
      refine wpOp_step rfl (fun K hK => ?_)
      go_simp
      refine hK _ _ ?_
      exact ⟨l0, l1, l2, true, l4, l5, l6, l7, l8, l9, l10, l11, l12, l13, l14, l15, l16, l17, l18, l19, l20, l21, _, _, _, _, _, _, _, _, _, _, _, _, _, _, _, _, _, _, _, _, _, _, _, _, _, _, _, _, _, _, _, _, M, c0, c1, c2, fun _ => ⟨_, rfl, by omega, by omega⟩, c4, c5, c6, c7, c8, c9, c10, c11, c12, c13, c14, c15, c16, c17, c18, c19, c20, c21, hM, G⟩
    · skip
      refine wpOp_step rfl (fun K hK => ?_)
      go_simp
      refine hK _ _ ?_
      exact ⟨l0, l1, l2, l3, true, l5, l6, l7, l8, l9, l10, l11, l12, l13, l14, l15, l16, l17, l18, l19, l20, l21, _, _, _, _, _, _, _, _, _, _, _, _, _, _, _, _, _, _, _, _, _, _, _, _, _, _, _, _, _, _, _, _, M, c0, c1, c2, c3, fun _ => rfl, c5, c6, c7, c8, c9, c10, c11, c12, c13, c14, c15, c16, c17, c18, c19, c20, c21, hM, G⟩
    · skip
      refine wpOp_step rfl (fun K hK => ?_)
      go_simp
      refine hK _ _ ?_
      exact ⟨l0, l1, l2, l3, l4, true, l6, l7, l8, l9, l10, l11, l12, l13, l14, l15, l16, l17, l18, l19, l20, l21, _, _, _, _, _, _, _, _, _, _, _, _, _, _, _, _, _, _, _, _, _, _, _, _, _, _, _, _, _, _, _, _, M, c0, c1, c2, c3, c4, fun _ => rfl, c6, c7, c8, c9, c10, c11, c12, c13, c14, c15, c16, c17, c18, c19, c20, c21, hM, G⟩
    · skip
      refine wpOp_step rfl (fun K hK => ?_)
      go_simp
      refine hK _ _ ?_
      exact ⟨l0, l1, l2, l3, l4, l5, true, l7, l8, l9, l10, l11, l12, l13, l14, l15, l16, l17, l18, l19, l20, l21, _, _, _, _, _, _, _, _, _, _, _, _, _, _, _, _, _, _, _, _, _, _, _, _, _, _, _, _, _, _, _, _, M, c0, c1, c2, c3, c4, c5, fun _ => rfl, c7, c8, c9, c10, c11, c12, c13, c14, c15, c16, c17, c18, c19, c20, c21, hM, G⟩
    · skip
      refine wpOp_step rfl (fun K hK => ?_)
      go_simp
      refine hK _ _ ?_
      exact ⟨l0, l1, l2, l3, l4, l5, l6, true, l8, l9, l10, l11, l12, l13, l14, l15, l16, l17, l18, l19, l20, l21, _, _, _, _, _, _, _, _, _, _, _, _, _, _, _, _, _, _, _, _, _, _, _, _, _, _, _, _, _, _, _, _, M, c0, c1, c2, c3, c4, c5, c6, fun _ => rfl, c8, c9, c10, c11, c12, c13, c14, c15, c16, c17, c18, c19, c20, c21, hM, G⟩
    · obtain rfl := c7 (hd { on := 7, ground := Ground.data } (by simp) rfl)
      have e8 : l8 = false := hl
      subst e8
      refine wpOp_step rfl (fun K hK => ?_)
      go_simp
      refine (gpick 60 (by omega) G (by omega)).mono ?_
      rintro e u' ⟨xk, h0, h1, rfl, G', KA, hg⟩
      refine hK _ _ ?_
      exact ⟨l0, l1, l2, l3, l4, l5, l6, l7, true, l9, l10, l11, l12, l13, l14, l15, l16, l17, l18, l19, l20, l21, _, _, _, _, _, _, _, _, _, _, _, _, _, _, _, _, _, _, _, _, _, _, _, _, _, _, _, _, _, _, _, _, (M + 1), c0, c1, c2, c3, c4, c5, c6, c7, fun _ => ⟨xk, rfl, h0, by omega⟩, fun h => (c9 h).keep KA, fun h => (c10 h).keep KA, c11, c12, fun h => (c13 h).keep KA, c14, fun h => (c15 h).keep KA, c16, c17, c18, c19, c20, c21, by simp only [Bool.false_eq_true, if_false, if_true] at hM ⊢; omega, G'⟩
    · have hlt := G.rd.lt
      obtain ⟨q0, rfl, q00, q01⟩ := (c8 (hd { on := 8, ground := Ground.data } (by simp) rfl)).any
      have HA := Lib.hid (GArr.new (r := w.heap.size) u [q0, (-1), 2000, 2001] [.int .i64 q0, .int .i64 (-1), .int .i64 2000, .int .i64 2001] rfl 3 hlt)
      refine wpOp_step rfl (fun K hK => ?_)
      go_simp
      refine hK _ _ ?_
      exact ⟨l0, l1, l2, l3, l4, l5, l6, l7, l8, true, l10, l11, l12, l13, l14, l15, l16, l17, l18, l19, l20, l21, _, _, _, _, _, _, _, _, _, _, _, _, _, _, _, _, _, _, _, _, _, _, _, _, _, _, _, _, _, _, _, _, M, c0, c1, c2, c3, c4, c5, c6, c7, c8, fun _ => ⟨_, [q0, (-1), 2000, 2001], rfl, rfl, by intro z hz; simp at hz; omega, HA.out⟩, fun h => (c10 h).keep (GKeeps.alloc w.heap.size u _), c11, c12, fun h => (c13 h).keep (GKeeps.alloc w.heap.size u _), c14, fun h => (c15 h).keep (GKeeps.alloc w.heap.size u _), c16, c17, c18, c19, c20, c21, hM, G.next (below_box u _)⟩
    · have hlt := G.rd.lt
      have HA := Lib.hid (GArr.new (r := w.heap.size) u [0, 0, 0, 0, 1, 2, 3] [.int .i64 0, .int .i64 0, .int .i64 0, .int .i64 0, .int .i64 1, .int .i64 2, .int .i64 3] rfl 3 hlt)
      refine wpOp_step rfl (fun K hK => ?_)
      go_simp
      refine hK _ _ ?_
      exact ⟨l0, l1, l2, l3, l4, l5, l6, l7, l8, l9, true, l11, l12, l13, l14, l15, l16, l17, l18, l19, l20, l21, _, _, _, _, _, _, _, _, _, _, _, _, _, _, _, _, _, _, _, _, _, _, _, _, _, _, _, _, _, _, _, _, M, c0, c1, c2, c3, c4, c5, c6, c7, c8, fun h => (c9 h).keep (GKeeps.alloc w.heap.size u _), fun _ => ⟨_, [0, 0, 0, 0, 1, 2, 3], rfl, rfl, by intro z hz; simp at hz; omega, HA.out⟩, c11, c12, fun h => (c13 h).keep (GKeeps.alloc w.heap.size u _), c14, fun h => (c15 h).keep (GKeeps.alloc w.heap.size u _), c16, c17, c18, c19, c20, c21, hM, G.next (below_box u _)⟩
    · skip
      refine wpOp_step rfl (fun K hK => ?_)
      go_simp
      refine hK _ _ ?_
      exact ⟨l0, l1, l2, l3, l4, l5, l6, l7, l8, l9, l10, true, l12, l13, l14, l15, l16, l17, l18, l19, l20, l21, _, _, _, _, _, _, _, _, _, _, _, _, _, _, _, _, _, _, _, _, _, _, _, _, _, _, _, _, _, _, _, _, M, c0, c1, c2, c3, c4, c5, c6, c7, c8, c9, c10, fun _ => rfl, c12, c13, c14, c15, c16, c17, c18, c19, c20, c21, hM, G⟩
    · obtain rfl := c11 (hd { on := 11, ground := Ground.data } (by simp) rfl)
      have e12 : l12 = false := hl
      subst e12
      refine wpOp_step rfl (fun K hK => ?_)
      go_simp
      refine (gpick 7 (by omega) G (by omega)).mono ?_
      rintro e u' ⟨xk, h0, h1, rfl, G', KA, hg⟩
      refine hK _ _ ?_
      exact ⟨l0, l1, l2, l3, l4, l5, l6, l7, l8, l9, l10, l11, true, l13, l14, l15, l16, l17, l18, l19, l20, l21, _, _, _, _, _, _, _, _, _, _, _, _, _, _, _, _, _, _, _, _, _, _, _, _, _, _, _, _, _, _, _, _, (M + 1), c0, c1, c2, c3, c4, c5, c6, c7, c8, fun h => (c9 h).keep KA, fun h => (c10 h).keep KA, c11, fun _ => ⟨xk, rfl, h0, by omega⟩, fun h => (c13 h).keep KA, c14, fun h => (c15 h).keep KA, c16, c17, c18, c19, c20, c21, by simp only [Bool.false_eq_true, if_false, if_true] at hM ⊢; omega, G'⟩
    · obtain ⟨b, rfl, hx⟩ := (c10 (hd { on := 10, ground := Ground.data } (by simp) rfl)).index
      obtain ⟨xk, rfl, x0, x1⟩ := (c12 (hd { on := 12, ground := Ground.data } (by simp) rfl)).any
      have x2 : xk < 7 := by omega
      have HX := Lib.hid (hx xk x0 (by omega))
      refine wpOp_step rfl (fun K hK => ?_)
      go_simp
      refine hK _ _ ?_
      exact ⟨l0, l1, l2, l3, l4, l5, l6, l7, l8, l9, l10, l11, l12, true, l14, l15, l16, l17, l18, l19, l20, l21, _, _, _, _, _, _, _, _, _, _, _, _, _, _, _, _, _, _, _, _, _, _, _, _, _, _, _, _, _, _, _, _, M, c0, c1, c2, c3, c4, c5, c6, c7, c8, c9, c10, c11, c12, fun _ => HX.out, c14, c15, c16, c17, c18, c19, c20, c21, hM, G⟩
    · obtain ⟨b, k, z, rfl, ck, k0, k1⟩ := (c13 (hd { on := 13, ground := Ground.data } (by simp) rfl)).load
      refine wpOp_step rfl (fun K hK => ?_)
      go_simp
      refine hK _ _ ?_
      exact ⟨l0, l1, l2, l3, l4, l5, l6, l7, l8, l9, l10, l11, l12, l13, true, l15, l16, l17, l18, l19, l20, l21, _, _, _, _, _, _, _, _, _, _, _, _, _, _, _, _, _, _, _, _, _, _, _, _, _, _, _, _, _, _, _, _, M, c0, c1, c2, c3, c4, c5, c6, c7, c8, c9, c10, c11, c12, c13, fun _ => ⟨z, rfl, k0, k1⟩, c15, c16, c17, c18, c19, c20, c21, hM, G⟩
    · obtain ⟨b, rfl, hx⟩ := (c9 (hd { on := 9, ground := Ground.data } (by simp) rfl)).index
      obtain ⟨xk, rfl, x0, x1⟩ := (c14 (hd { on := 14, ground := Ground.data } (by simp) rfl)).any
      have x2 : xk < 4 := by omega
      have HX := Lib.hid (hx xk x0 (by omega))
      refine wpOp_step rfl (fun K hK => ?_)
      go_simp
      refine hK _ _ ?_
      exact ⟨l0, l1, l2, l3, l4, l5, l6, l7, l8, l9, l10, l11, l12, l13, l14, true, l16, l17, l18, l19, l20, l21, _, _, _, _, _, _, _, _, _, _, _, _, _, _, _, _, _, _, _, _, _, _, _, _, _, _, _, _, _, _, _, _, M, c0, c1, c2, c3, c4, c5, c6, c7, c8, c9, c10, c11, c12, c13, c14, fun _ => HX.out, c16, c17, c18, c19, c20, c21, hM, G⟩
    · obtain ⟨b, k, z, rfl, ck, k0, k1⟩ := (c15 (hd { on := 15, ground := Ground.data } (by simp) rfl)).load
      refine wpOp_step rfl (fun K hK => ?_)
      go_simp
      refine hK _ _ ?_
      exact ⟨l0, l1, l2, l3, l4, l5, l6, l7, l8, l9, l10, l11, l12, l13, l14, l15, true, l17, l18, l19, l20, l21, _, _, _, _, _, _, _, _, _, _, _, _, _, _, _, _, _, _, _, _, _, _, _, _, _, _, _, _, _, _, _, _, M, c0, c1, c2, c3, c4, c5, c6, c7, c8, c9, c10, c11, c12, c13, c14, c15, fun _ => ⟨z, rfl, k0, k1⟩, c17, c18, c19, c20, c21, hM, G⟩
    · obtain ⟨x, rfl, h0, h1⟩ := (c3 (hd { on := 3, ground := Ground.data } (by simp) rfl)).any
      refine wpOp_step rfl (fun K hK => ?_)
      go_simp
      refine hK _ _ ?_
      exact ⟨l0, l1, l2, l3, l4, l5, l6, l7, l8, l9, l10, l11, l12, l13, l14, l15, l16, true, l18, l19, l20, l21, _, _, _, _, _, _, _, _, _, _, _, _, _, _, _, _, _, _, _, _, _, _, _, _, _, _, _, _, _, _, _, _, M, c0, c1, c2, c3, c4, c5, c6, c7, c8, c9, c10, c11, c12, c13, c14, c15, c16, fun _ => ⟨x, rfl, h0, h1⟩, c18, c19, c20, c21, hM, G⟩
    · obtain rfl := c4 (hd { on := 4, ground := Ground.data } (by simp) rfl)
      refine wpOp_step rfl (fun K hK => ?_)
      go_simp
      refine hK _ _ ?_
      exact ⟨l0, l1, l2, l3, l4, l5, l6, l7, l8, l9, l10, l11, l12, l13, l14, l15, l16, l17, true, l19, l20, l21, _, _, _, _, _, _, _, _, _, _, _, _, _, _, _, _, _, _, _, _, _, _, _, _, _, _, _, _, _, _, _, _, M, c0, c1, c2, c3, c4, c5, c6, c7, c8, c9, c10, c11, c12, c13, c14, c15, c16, c17, fun _ => rfl, c19, c20, c21, hM, G⟩
    · obtain rfl := c5 (hd { on := 5, ground := Ground.data } (by simp) rfl)
      refine wpOp_step rfl (fun K hK => ?_)
      go_simp
      refine hK _ _ ?_
      exact ⟨l0, l1, l2, l3, l4, l5, l6, l7, l8, l9, l10, l11, l12, l13, l14, l15, l16, l17, l18, true, l20, l21, _, _, _, _, _, _, _, _, _, _, _, _, _, _, _, _, _, _, _, _, _, _, _, _, _, _, _, _, _, _, _, _, M, c0, c1, c2, c3, c4, c5, c6, c7, c8, c9, c10, c11, c12, c13, c14, c15, c16, c17, c18, fun _ => rfl, c20, c21, hM, G⟩
    · obtain rfl := c6 (hd { on := 6, ground := Ground.data } (by simp) rfl)
      refine wpOp_step rfl (fun K hK => ?_)
      go_simp
      refine hK _ _ ?_
      exact ⟨l0, l1, l2, l3, l4, l5, l6, l7, l8, l9, l10, l11, l12, l13, l14, l15, l16, l17, l18, l19, true, l21, _, _, _, _, _, _, _, _, _, _, _, _, _, _, _, _, _, _, _, _, _, _, _, _, _, _, _, _, _, _, _, _, M, c0, c1, c2, c3, c4, c5, c6, c7, c8, c9, c10, c11, c12, c13, c14, c15, c16, c17, c18, c19, fun _ => rfl, c21, hM, G⟩
    · obtain ⟨x, rfl, h0, h1⟩ := (c16 (hd { on := 16, ground := Ground.data } (by simp) rfl)).any
      refine wpOp_step rfl (fun K hK => ?_)
      go_simp
      refine hK _ _ ?_
      exact ⟨l0, l1, l2, l3, l4, l5, l6, l7, l8, l9, l10, l11, l12, l13, l14, l15, l16, l17, l18, l19, l20, true, _, _, _, _, _, _, _, _, _, _, _, _, _, _, _, _, _, _, _, _, _, _, _, _, _, _, _, _, _, _, _, _, M, c0, c1, c2, c3, c4, c5, c6, c7, c8, c9, c10, c11, c12, c13, c14, c15, c16, c17, c18, c19, c20, fun _ => ⟨x, rfl, h0, h1⟩, hM, G⟩
  case hlt => exact backB_spec (by kernel_rfl)
  case hsz => exact fun listed a u h => h.size
  case hdone =>
    intro listed act u hR hall
    obtain ⟨l0, l1, l2, l3, l4, l5, l6, l7, l8, l9, l10, l11, l12, l13, l14, l15, l16, l17, l18, l19, l20, l21, v2, v3, v4, v5, v6, v19, v20, v21, v22, v23, v24, v25, v26, v27, v28, v29, v30, v31, v32, v33, v34, v35, p0, p1, p11, p12, p13, p14, p15, p16, p17, p18, M, c0, c1, c2, c3, c4, c5, c6, c7, c8, c9, c10, c11, c12, c13, c14, c15, c16, c17, c18, c19, c20, c21, hM, G⟩ := hR
    obtain ⟨p9, rfl, p90, p91⟩ := (c17 (hall 17 (by decide))).any
    obtain rfl := c18 (hall 18 (by decide))
    obtain rfl := c19 (hall 19 (by decide))
    obtain rfl := c20 (hall 20 (by decide))
    obtain ⟨t9, rfl, t0, t1⟩ := (c21 (hall 21 (by decide))).any
    have HO := Lib.hid G.old
    clear c0 c1 c2 c3 c4 c5 c6 c7 c8 c9 c10 c11 c12 c13 c14 c15 c16 c17 c18 c19 c20 c21 hall G
    go_wp2
    exact bodyPost_ret (v := .tuple #[.int .i64 p9, .int .i64 xs, .int .i64 lo, .int .i64 hi, .int .i64 t9]) (by simp [results, Try.results16, go_sem]) rfl ⟨p9, xs, lo, hi, t9, ⟨p90, p91⟩, HS.out, HLO.out, HHI.out, ⟨t0, t1⟩, rfl, HO.out⟩
end Go.Proofs.Ytddndafddleelaa
