/- What the laws on contact draw. -/
import Derived.Test.YtdjihdnnjkbjbaaZbInv
import Derived.Test.YtdjihdnnjkbjbaaZbRd
namespace Go.Proofs.Ytdjihdnnjkbjbaa
set_option maxRecDepth 100000
open Go.RowKit
attribute [local go_sem ↓] Go.wp_at_zero Go.wp_at_succ
/-- What holds when the operations of 'listed' have come up. -/
inductive RF15c (w w0 : World) (r  : Nat) (wv : Int) (u : World) : Array Bool → Act → Prop
  | mk (l0 l1 l2 l3 l4 l5 l6 l7 l8 l9 l10 l11 l12 l13 l14 l15 l16 l17 l18 l19 l20 l21 l22 l23 l24 : Bool) (v2 v3 v4 v12 v13 v14 v15 v16 v17 v18 v19 v20 v21 v22 v23 v24 v25 v26 v27 v28 v29 v30 v31 v32 v33 p0 p1 p7 p8 p9 p10 p11 : Value) (M : Nat)
    (c0 : l0 = true → v12 = .int .i64 wv) (c1 : l1 = true → v13 = .pointer (some ⟨r, 0, none⟩)) (c2 : l2 = true → CI 0 39 v14) (c3 : l3 = true → CI (-30) 68 v15) (c4 : l4 = true → CI (-50) (48) v16) (c5 : l5 = true → v17 = .pointer (some ⟨r, 0, none⟩)) (c6 : l6 = true → CI 0 13 v18) (c7 : l7 = true → CI (0) (1) v19) (c8 : l8 = true → CI (0) (10000) v20) (c9 : l9 = true → CI (-50) 10048 v21) (c10 : l10 = true → v22 = .int .i64 wv) (c11 : l11 = true → v23 = .pointer (some ⟨r, 0, none⟩)) (c12 : l12 = true → CI 0 39 v24) (c13 : l13 = true → CI (1) (40) v25) (c14 : l14 = true → CA r u 4 (0) (101) v26) (c15 : l15 = true → CA r u 7 (0) (3) v27) (c16 : l16 = true → v28 = .pointer (some ⟨r, 0, none⟩)) (c17 : l17 = true → CI 0 6 v29) (c18 : l18 = true → CP r u (0) (3) v30) (c19 : l19 = true → CI (0) (3) v31) (c20 : l20 = true → CP r u (0) (101) v32) (c21 : l21 = true → CI (0) (101) v33) (c22 : l22 = true → CI (-50) (10048) v2) (c23 : l23 = true → v3 = .int .i64 wv) (c24 : l24 = true → CI (0) (101) v4)
    (hM : M + ((if l2 then 0 else 1) + (if l6 then 0 else 1) + (if l12 then 0 else 1) + (if l17 then 0 else 1)) ≤ 900) (G : GSt w w0 r [] M u) : RF15c w w0 r   wv u #[l0, l1, l2, l3, l4, l5, l6, l7, l8, l9, l10, l11, l12, l13, l14, l15, l16, l17, l18, l19, l20, l21, l22, l23, l24] { tmps := #[p0, p1, v2, v3, v4, .pointer (some ⟨r, 0, none⟩), .int .i64 wv, p7, p8, p9, p10, p11, v12, v13, v14, v15, v16, v17, v18, v19, v20, v21, v22, v23, v24, v25, v26, v27, v28, v29, v30, v31, v32, v33], defers := [] }
theorem RF15c.size {w w0 : World} {r  : Nat} {wv : Int} {u : World} {listed : Array Bool} {a : Act} (h : RF15c w w0 r   wv u listed a) : listed.size = 25 := by cases h; rfl
/-- What holds when the operations of 'listed' have come up. -/
inductive RF15p (w w0 : World) (r  : Nat) (pv wv kv : Int) (u : World) : Array Bool → Act → Prop
  | mk (l0 l1 l2 l3 l4 l5 l6 l7 l8 l9 l10 l11 l12 l13 l14 l15 l16 l17 l18 l19 l20 l21 l22 l23 l24 l25 l26 l27 : Bool) (v2 v3 v4 v5 v6 v19 v20 v21 v22 v23 v24 v25 v26 v27 v28 v29 v30 v31 v32 v33 v34 v35 v36 v37 v38 v39 v40 v41 p0 p1 p11 p12 p13 p14 p15 p16 p17 p18 : Value) (M : Nat)
    (c0 : l0 = true → v19 = .int .i64 pv) (c1 : l1 = true → v20 = .int .i64 wv) (c2 : l2 = true → v21 = .int .i64 kv) (c3 : l3 = true → v22 = .pointer (some ⟨r, 0, none⟩)) (c4 : l4 = true → CI 0 255 v23) (c5 : l5 = true → CI (1) (256) v24) (c6 : l6 = true → CA r u 4 (0) (1001) v25) (c7 : l7 = true → CA r u 7 (0) (3) v26) (c8 : l8 = true → v27 = .pointer (some ⟨r, 0, none⟩)) (c9 : l9 = true → CI 0 6 v28) (c10 : l10 = true → CP r u (0) (3) v29) (c11 : l11 = true → CI (0) (3) v30) (c12 : l12 = true → CP r u (0) (1001) v31) (c13 : l13 = true → CI (0) (1001) v32) (c14 : l14 = true → v33 = .pointer (some ⟨r, 0, none⟩)) (c15 : l15 = true → CI 0 19 v34) (c16 : l16 = true → CI (1) (20) v35) (c17 : l17 = true → CA r u 2 (0) (20) v36) (c18 : l18 = true → v37 = .pointer (some ⟨r, 0, none⟩)) (c19 : l19 = true → CI 0 11 v38) (c20 : l20 = true → CI (0) (1) v39) (c21 : l21 = true → CP r u (0) (20) v40) (c22 : l22 = true → CI (0) (20) v41) (c23 : l23 = true → v2 = .int .i64 pv) (c24 : l24 = true → v3 = .int .i64 wv) (c25 : l25 = true → v4 = .int .i64 kv) (c26 : l26 = true → CI (0) (1001) v5) (c27 : l27 = true → CI (0) (20) v6)
    (hM : M + ((if l4 then 0 else 1) + (if l9 then 0 else 1) + (if l15 then 0 else 1) + (if l19 then 0 else 1)) ≤ 900) (G : GSt w w0 r [] M u) : RF15p w w0 r   pv wv kv u #[l0, l1, l2, l3, l4, l5, l6, l7, l8, l9, l10, l11, l12, l13, l14, l15, l16, l17, l18, l19, l20, l21, l22, l23, l24, l25, l26, l27] { tmps := #[p0, p1, v2, v3, v4, v5, v6, .pointer (some ⟨r, 0, none⟩), .int .i64 pv, .int .i64 wv, .int .i64 kv, p11, p12, p13, p14, p15, p16, p17, p18, v19, v20, v21, v22, v23, v24, v25, v26, v27, v28, v29, v30, v31, v32, v33, v34, v35, v36, v37, v38, v39, v40, v41], defers := [] }
theorem RF15p.size {w w0 : World} {r  : Nat} {pv wv kv : Int} {u : World} {listed : Array Bool} {a : Act} (h : RF15p w w0 r   pv wv kv u listed a) : listed.size = 28 := by cases h; rfl
/-- What holds when the operations of 'listed' have come up. -/
inductive RF15t (w w0 : World) (r  : Nat) (pv wv kv fv sv : Int) (u : World) : Array Bool → Act → Prop
  | mk (l0 l1 l2 l3 l4 l5 l6 l7 l8 l9 l10 l11 l12 l13 l14 l15 l16 l17 l18 l19 l20 : Bool) (v2 v3 v4 v5 v6 v7 v24 v25 v26 v27 v28 v29 v30 v31 v32 v33 v34 v35 v36 v37 v38 p0 p1 p14 p15 p16 p17 p18 p19 p20 p21 p22 p23 : Value) (M : Nat)
    (c0 : l0 = true → v24 = .int .i64 pv) (c1 : l1 = true → v25 = .int .i64 wv) (c2 : l2 = true → v26 = .int .i64 kv) (c3 : l3 = true → v27 = .int .i64 fv) (c4 : l4 = true → v28 = .int .i64 sv) (c5 : l5 = true → v29 = .pointer (some ⟨r, 0, none⟩)) (c6 : l6 = true → CI 0 39 v30) (c7 : l7 = true → CA r u 3 (-1) (401) v31) (c8 : l8 = true → CA r u 6 (0) (2) v32) (c9 : l9 = true → v33 = .pointer (some ⟨r, 0, none⟩)) (c10 : l10 = true → CI 0 5 v34) (c11 : l11 = true → CP r u (0) (2) v35) (c12 : l12 = true → CI (0) (2) v36) (c13 : l13 = true → CP r u (-1) (401) v37) (c14 : l14 = true → CI (-1) (401) v38) (c15 : l15 = true → v2 = .int .i64 pv) (c16 : l16 = true → v3 = .int .i64 wv) (c17 : l17 = true → v4 = .int .i64 kv) (c18 : l18 = true → v5 = .int .i64 fv) (c19 : l19 = true → v6 = .int .i64 sv) (c20 : l20 = true → CI (-1) (401) v7)
    (hM : M + ((if l6 then 0 else 1) + (if l10 then 0 else 1)) ≤ 900) (G : GSt w w0 r [] M u) : RF15t w w0 r   pv wv kv fv sv u #[l0, l1, l2, l3, l4, l5, l6, l7, l8, l9, l10, l11, l12, l13, l14, l15, l16, l17, l18, l19, l20] { tmps := #[p0, p1, v2, v3, v4, v5, v6, v7, .pointer (some ⟨r, 0, none⟩), .int .i64 pv, .int .i64 wv, .int .i64 kv, .int .i64 fv, .int .i64 sv, p14, p15, p16, p17, p18, p19, p20, p21, p22, p23, v24, v25, v26, v27, v28, v29, v30, v31, v32, v33, v34, v35, v36, v37, v38], defers := [] }
theorem RF15t.size {w w0 : World} {r  : Nat} {pv wv kv fv sv : Int} {u : World} {listed : Array Bool} {a : Act} (h : RF15t w w0 r   pv wv kv fv sv u listed a) : listed.size = 21 := by cases h; rfl
/-- A place, a wall and a stiffness are drawn. -/
def GotC15 (w : World) (e : Ending) (w' : World) : Prop := ∃ p q k : Int, (-50 ≤ p ∧ p ≤ 10048) ∧ (-30 ≤ q ∧ q ≤ 29) ∧ (0 ≤ k ∧ k ≤ 101) ∧ e = .returned (.tuple #[.int .i64 p, .int .i64 q, .int .i64 k]) ∧ Below w.heap.size w w'
/-- .. and a force and a speed. -/
def GotP15 (w : World) (e : Ending) (w' : World) : Prop := ∃ p q k f s : Int, (-50 ≤ p ∧ p ≤ 10048) ∧ (-30 ≤ q ∧ q ≤ 29) ∧ (0 ≤ k ∧ k ≤ 101) ∧ (0 ≤ f ∧ f ≤ 1001) ∧ (0 ≤ s ∧ s ≤ 20) ∧ e = .returned (.tuple #[.int .i64 p, .int .i64 q, .int .i64 k, .int .i64 f, .int .i64 s]) ∧ Below w.heap.size w w'
/-- .. and a number of steps. -/
def GotT15 (w : World) (e : Ending) (w' : World) : Prop := ∃ p q k f s n : Int, (-50 ≤ p ∧ p ≤ 10048) ∧ (-30 ≤ q ∧ q ≤ 29) ∧ (0 ≤ k ∧ k ≤ 101) ∧ (0 ≤ f ∧ f ≤ 1001) ∧ (0 ≤ s ∧ s ≤ 20) ∧ (-1 ≤ n ∧ n ≤ 401) ∧ e = .returned (.tuple #[.int .i64 p, .int .i64 q, .int .i64 k, .int .i64 f, .int .i64 s, .int .i64 n]) ∧ Below w.heap.size w w'
set_option maxHeartbeats 8000000 in
theorem drawContactForce (w : World) (a : Option Addr) (len cap : Nat) (zs : List Int) (h : Bytes w a len cap zs) :
    Calls Try.prog 9 #[.slice a len cap] w (GotC15 w) := by
  go_enter Try.func9, Try.ntmps9
  go_wp2_with fail
  refine (gopen w _ a len cap zs h (Below.refl _ _) w.heap.size rfl).mono ?_
  rintro e w1 ⟨rfl, hr1, hb1⟩
  have G1 := Lib.hid (GSt.start (rs := []) hr1 hb1)
  clear hb1 h hr1
  go_wp2_with fail
  refine (gpick 60 (by omega) G1.out (by omega)).mono ?_
  rintro e w2 ⟨x2, a2, b2, rfl, G2', _, _⟩
  obtain ⟨wv, hwv⟩ : ∃ wv, x2 - 30 = wv := ⟨_, rfl⟩
  have w0 : -30 ≤ wv := by omega
  have w1 : wv ≤ 29 := by omega
  have o1 : IntKind.i64.wrap (x2 - 30) = wv := hwv ▸ IntWalk.i64_in _ (by omega)
  have G0 := Lib.hid (GSt.start (rs := []) G2'.rd G2'.old).drew
  have HM0 := Lib.hid (show 0 + 1 + ((if false then 0 else 1) + (if false then 0 else 1) + (if false then 0 else 1) + (if false then 0 else 1)) ≤ 900 by decide)
  clear G2' G1 a2 b2 hwv
  go_upto_region 3 with fail
  refine wp_region_inv (fun listed act u => RF15c w w2 w.heap.size   wv u listed act) (by kernel_rfl) ?hlt ?hsz ?h0 ?hstep ?hdone
  case h0 =>
    exact ⟨false, false, false, false, false, false, false, false, false, false, false, false, false, false, false, false, false, false, false, false, false, false, false, false, false, _, _, _, _, _, _, _, _, _, _, _, _, _, _, _, _, _, _, _, _, _, _, _, _, _, _, _, _, _, _, _, _, _, (by intro h; cases h), (by intro h; cases h), (by intro h; cases h), (by intro h; cases h), (by intro h; cases h), (by intro h; cases h), (by intro h; cases h), (by intro h; cases h), (by intro h; cases h), (by intro h; cases h), (by intro h; cases h), (by intro h; cases h), (by intro h; cases h), (by intro h; cases h), (by intro h; cases h), (by intro h; cases h), (by intro h; cases h), (by intro h; cases h), (by intro h; cases h), (by intro h; cases h), (by intro h; cases h), (by intro h; cases h), (by intro h; cases h), (by intro h; cases h), (by intro h; cases h), HM0.out, G0.out⟩
  case hstep =>
    intro listed act u i o hR ho hl hd
    obtain ⟨l0, l1, l2, l3, l4, l5, l6, l7, l8, l9, l10, l11, l12, l13, l14, l15, l16, l17, l18, l19, l20, l21, l22, l23, l24, v2, v3, v4, v12, v13, v14, v15, v16, v17, v18, v19, v20, v21, v22, v23, v24, v25, v26, v27, v28, v29, v30, v31, v32, v33, p0, p1, p7, p8, p9, p10, p11, M, c0, c1, c2, c3, c4, c5, c6, c7, c8, c9, c10, c11, c12, c13, c14, c15, c16, c17, c18, c19, c20, c21, c22, c23, c24, hM, G⟩ := hR
    have hi : i < 25 := by rcases Nat.lt_or_ge i 25 with h | h; exact h; rw [Array.getElem?_eq_none (by simpa using h)] at ho; cases ho
    have hi2 : i = 0 ∨ i = 1 ∨ i = 2 ∨ i = 3 ∨ i = 4 ∨ i = 5 ∨ i = 6 ∨ i = 7 ∨ i = 8 ∨ i = 9 ∨ i = 10 ∨ i = 11 ∨ i = 12 ∨ i = 13 ∨ i = 14 ∨ i = 15 ∨ i = 16 ∨ i = 17 ∨ i = 18 ∨ i = 19 ∨ i = 20 ∨ i = 21 ∨ i = 22 ∨ i = 23 ∨ i = 24 := by omega
    rcases hi2 with rfl | rfl | rfl | rfl | rfl | rfl | rfl | rfl | rfl | rfl | rfl | rfl | rfl | rfl | rfl | rfl | rfl | rfl | rfl | rfl | rfl | rfl | rfl | rfl | rfl
    all_goals (cases ho)
    · skip
      refine wpOp_step rfl (fun K hK => ?_)
      go_simp
      refine hK _ _ ?_
      exact ⟨true, l1, l2, l3, l4, l5, l6, l7, l8, l9, l10, l11, l12, l13, l14, l15, l16, l17, l18, l19, l20, l21, l22, l23, l24, _, _, _, _, _, _, _, _, _, _, _, _, _, _, _, _, _, _, _, _, _, _, _, _, _, _, _, _, _, _, _, _, M, fun _ => rfl, c1, c2, c3, c4, c5, c6, c7, c8, c9, c10, c11, c12, c13, c14, c15, c16, c17, c18, c19, c20, c21, c22, c23, c24, hM, G⟩
    · skip
      refine wpOp_step rfl (fun K hK => ?_)
      go_simp
      refine hK _ _ ?_
      exact ⟨l0, true, l2, l3, l4, l5, l6, l7, l8, l9, l10, l11, l12, l13, l14, l15, l16, l17, l18, l19, l20, l21, l22, l23, l24, _, _, _, _, _, _, _, _, _, _, _, _, _, _, _, _, _, _, _, _, _, _, _, _, _, _, _, _, _, _, _, _, M, c0, fun _ => rfl, c2, c3, c4, c5, c6, c7, c8, c9, c10, c11, c12, c13, c14, c15, c16, c17, c18, c19, c20, c21, c22, c23, c24, hM, G⟩
    · obtain rfl := c1 (hd { on := 1, ground := Ground.data } (by simp) rfl)
      have e2 : l2 = false := hl
      subst e2
      refine wpOp_step rfl (fun K hK => ?_)
      go_simp
      refine (gpick 40 (by omega) G (by omega)).mono ?_
      rintro e u' ⟨xk, h0, h1, rfl, G', KA, hg⟩
      refine hK _ _ ?_
      exact ⟨l0, l1, true, l3, l4, l5, l6, l7, l8, l9, l10, l11, l12, l13, l14, l15, l16, l17, l18, l19, l20, l21, l22, l23, l24, _, _, _, _, _, _, _, _, _, _, _, _, _, _, _, _, _, _, _, _, _, _, _, _, _, _, _, _, _, _, _, _, (M + 1), c0, c1, fun _ => ⟨xk, rfl, h0, by omega⟩, c3, c4, c5, c6, c7, c8, c9, c10, c11, c12, c13, fun h => (c14 h).keep KA, fun h => (c15 h).keep KA, c16, c17, fun h => (c18 h).keep KA, c19, fun h => (c20 h).keep KA, c21, c22, c23, c24, by simp only [Bool.false_eq_true, if_false, if_true] at hM ⊢; omega, G'⟩
    · obtain rfl := c0 (hd { on := 0, ground := Ground.data } (by simp) rfl)
      obtain ⟨x, rfl, h0, h1⟩ := (c2 (hd { on := 2, ground := Ground.data } (by simp) rfl)).any
      have ow : IntKind.i64.wrap (wv + x) = wv + x := wrap_in (by omega) (by omega)
      all_goals
        refine wpOp_step rfl (fun K hK => ?_)
        go_simp
        refine hK _ _ ?_
        exact ⟨l0, l1, l2, true, l4, l5, l6, l7, l8, l9, l10, l11, l12, l13, l14, l15, l16, l17, l18, l19, l20, l21, l22, l23, l24, _, _, _, _, _, _, _, _, _, _, _, _, _, _, _, _, _, _, _, _, _, _, _, _, _, _, _, _, _, _, _, _, M, c0, c1, c2, fun _ => ⟨wv + x, rfl, by omega, by omega⟩, c4, c5, c6, c7, c8, c9, c10, c11, c12, c13, c14, c15, c16, c17, c18, c19, c20, c21, c22, c23, c24, hM, G⟩
    · obtain ⟨x, rfl, h0, h1⟩ := (c3 (hd { on := 3, ground := Ground.data } (by simp) rfl)).any
      have ow : IntKind.i64.wrap (x - 20) = x - 20 := wrap_in (by omega) (by omega)
      refine wpOp_step rfl (fun K hK => ?_)
      go_simp
      refine hK _ _ ?_
      exact ⟨l0, l1, l2, l3, true, l5, l6, l7, l8, l9, l10, l11, l12, l13, l14, l15, l16, l17, l18, l19, l20, l21, l22, l23, l24, _, _, _, _, _, _, _, _, _, _, _, _, _, _, _, _, _, _, _, _, _, _, _, _, _, _, _, _, _, _, _, _, M, c0, c1, c2, c3, fun _ => ⟨_, rfl, by omega, by omega⟩, c5, c6, c7, c8, c9, c10, c11, c12, c13, c14, c15, c16, c17, c18, c19, c20, c21, c22, c23, c24, hM, G⟩
    · skip
      refine wpOp_step rfl (fun K hK => ?_)
      go_simp
      refine hK _ _ ?_
      exact ⟨l0, l1, l2, l3, l4, true, l6, l7, l8, l9, l10, l11, l12, l13, l14, l15, l16, l17, l18, l19, l20, l21, l22, l23, l24, _, _, _, _, _, _, _, _, _, _, _, _, _, _, _, _, _, _, _, _, _, _, _, _, _, _, _, _, _, _, _, _, M, c0, c1, c2, c3, c4, fun _ => rfl, c6, c7, c8, c9, c10, c11, c12, c13, c14, c15, c16, c17, c18, c19, c20, c21, c22, c23, c24, hM, G⟩
    · obtain rfl := c5 (hd { on := 5, ground := Ground.data } (by simp) rfl)
      have e6 : l6 = false := hl
      subst e6
      refine wpOp_step rfl (fun K hK => ?_)
      go_simp
      refine (gpick 14 (by omega) G (by omega)).mono ?_
      rintro e u' ⟨xk, h0, h1, rfl, G', KA, hg⟩
      refine hK _ _ ?_
      exact ⟨l0, l1, l2, l3, l4, l5, true, l7, l8, l9, l10, l11, l12, l13, l14, l15, l16, l17, l18, l19, l20, l21, l22, l23, l24, _, _, _, _, _, _, _, _, _, _, _, _, _, _, _, _, _, _, _, _, _, _, _, _, _, _, _, _, _, _, _, _, (M + 1), c0, c1, c2, c3, c4, c5, fun _ => ⟨xk, rfl, h0, by omega⟩, c7, c8, c9, c10, c11, c12, c13, fun h => (c14 h).keep KA, fun h => (c15 h).keep KA, c16, c17, fun h => (c18 h).keep KA, c19, fun h => (c20 h).keep KA, c21, c22, c23, c24, by simp only [Bool.false_eq_true, if_false, if_true] at hM ⊢; omega, G'⟩
    · obtain ⟨x, rfl, h0, h1⟩ := (c6 (hd { on := 6, ground := Ground.data } (by simp) rfl)).any
      obtain ⟨q, hq⟩ : ∃ q, x.tdiv 13 = q := ⟨_, rfl⟩
      have q0 : 0 ≤ q := by rw [← hq, Int.tdiv_eq_ediv_of_nonneg (by omega)]; omega
      have q1 : q ≤ 1 := by rw [← hq, Int.tdiv_eq_ediv_of_nonneg (by omega)]; omega
      have ow : IntKind.i64.wrap q = q := wrap_in (by omega) (by omega)
      refine wpOp_step rfl (fun K hK => ?_)
      go_simp
      refine hK _ _ ?_
      exact ⟨l0, l1, l2, l3, l4, l5, l6, true, l8, l9, l10, l11, l12, l13, l14, l15, l16, l17, l18, l19, l20, l21, l22, l23, l24, _, _, _, _, _, _, _, _, _, _, _, _, _, _, _, _, _, _, _, _, _, _, _, _, _, _, _, _, _, _, _, _, M, c0, c1, c2, c3, c4, c5, c6, fun _ => ⟨_, rfl, by omega, by omega⟩, c8, c9, c10, c11, c12, c13, c14, c15, c16, c17, c18, c19, c20, c21, c22, c23, c24, hM, G⟩
    · obtain ⟨x, rfl, h0, h1⟩ := (c7 (hd { on := 7, ground := Ground.data } (by simp) rfl)).any
      have ow : IntKind.i64.wrap (x * 10000) = x * 10000 := wrap_in (by omega) (by omega)
      refine wpOp_step rfl (fun K hK => ?_)
      go_simp
      refine hK _ _ ?_
      exact ⟨l0, l1, l2, l3, l4, l5, l6, l7, true, l9, l10, l11, l12, l13, l14, l15, l16, l17, l18, l19, l20, l21, l22, l23, l24, _, _, _, _, _, _, _, _, _, _, _, _, _, _, _, _, _, _, _, _, _, _, _, _, _, _, _, _, _, _, _, _, M, c0, c1, c2, c3, c4, c5, c6, c7, fun _ => ⟨_, rfl, by omega, by omega⟩, c9, c10, c11, c12, c13, c14, c15, c16, c17, c18, c19, c20, c21, c22, c23, c24, hM, G⟩
    · obtain ⟨x, rfl, h0, h1⟩ := (c4 (hd { on := 4, ground := Ground.data } (by simp) rfl)).any
      obtain ⟨y, rfl, g0, g1⟩ := (c8 (hd { on := 8, ground := Ground.data } (by simp) rfl)).any
      have ow : IntKind.i64.wrap (x + y) = x + y := wrap_in (by omega) (by omega)
      all_goals
        refine wpOp_step rfl (fun K hK => ?_)
        go_simp
        refine hK _ _ ?_
        exact ⟨l0, l1, l2, l3, l4, l5, l6, l7, l8, true, l10, l11, l12, l13, l14, l15, l16, l17, l18, l19, l20, l21, l22, l23, l24, _, _, _, _, _, _, _, _, _, _, _, _, _, _, _, _, _, _, _, _, _, _, _, _, _, _, _, _, _, _, _, _, M, c0, c1, c2, c3, c4, c5, c6, c7, c8, fun _ => ⟨x + y, rfl, by omega, by omega⟩, c10, c11, c12, c13, c14, c15, c16, c17, c18, c19, c20, c21, c22, c23, c24, hM, G⟩
    · skip
      refine wpOp_step rfl (fun K hK => ?_)
      go_simp
      refine hK _ _ ?_
      exact ⟨l0, l1, l2, l3, l4, l5, l6, l7, l8, l9, true, l11, l12, l13, l14, l15, l16, l17, l18, l19, l20, l21, l22, l23, l24, _, _, _, _, _, _, _, _, _, _, _, _, _, _, _, _, _, _, _, _, _, _, _, _, _, _, _, _, _, _, _, _, M, c0, c1, c2, c3, c4, c5, c6, c7, c8, c9, fun _ => rfl, c11, c12, c13, c14, c15, c16, c17, c18, c19, c20, c21, c22, c23, c24, hM, G⟩
    · skip
      refine wpOp_step rfl (fun K hK => ?_)
      go_simp
      refine hK _ _ ?_
      exact ⟨l0, l1, l2, l3, l4, l5, l6, l7, l8, l9, l10, true, l12, l13, l14, l15, l16, l17, l18, l19, l20, l21, l22, l23, l24, _, _, _, _, _, _, _, _, _, _, _, _, _, _, _, _, _, _, _, _, _, _, _, _, _, _, _, _, _, _, _, _, M, c0, c1, c2, c3, c4, c5, c6, c7, c8, c9, c10, fun _ => rfl, c12, c13, c14, c15, c16, c17, c18, c19, c20, c21, c22, c23, c24, hM, G⟩
    · obtain rfl := c11 (hd { on := 11, ground := Ground.data } (by simp) rfl)
      have e12 : l12 = false := hl
      subst e12
      refine wpOp_step rfl (fun K hK => ?_)
      go_simp
      refine (gpick 40 (by omega) G (by omega)).mono ?_
      rintro e u' ⟨xk, h0, h1, rfl, G', KA, hg⟩
      refine hK _ _ ?_
      exact ⟨l0, l1, l2, l3, l4, l5, l6, l7, l8, l9, l10, l11, true, l13, l14, l15, l16, l17, l18, l19, l20, l21, l22, l23, l24, _, _, _, _, _, _, _, _, _, _, _, _, _, _, _, _, _, _, _, _, _, _, _, _, _, _, _, _, _, _, _, _, (M + 1), c0, c1, c2, c3, c4, c5, c6, c7, c8, c9, c10, c11, fun _ => ⟨xk, rfl, h0, by omega⟩, c13, fun h => (c14 h).keep KA, fun h => (c15 h).keep KA, c16, c17, fun h => (c18 h).keep KA, c19, fun h => (c20 h).keep KA, c21, c22, c23, c24, by simp only [Bool.false_eq_true, if_false, if_true] at hM ⊢; omega, G'⟩
    · obtain ⟨x, rfl, h0, h1⟩ := (c12 (hd { on := 12, ground := Ground.data } (by simp) rfl)).any
      have ow : IntKind.i64.wrap (1 + x) = 1 + x := wrap_in (by omega) (by omega)
      refine wpOp_step rfl (fun K hK => ?_)
      go_simp
      refine hK _ _ ?_
      exact ⟨l0, l1, l2, l3, l4, l5, l6, l7, l8, l9, l10, l11, l12, true, l14, l15, l16, l17, l18, l19, l20, l21, l22, l23, l24, _, _, _, _, _, _, _, _, _, _, _, _, _, _, _, _, _, _, _, _, _, _, _, _, _, _, _, _, _, _, _, _, M, c0, c1, c2, c3, c4, c5, c6, c7, c8, c9, c10, c11, c12, fun _ => ⟨_, rfl, by omega, by omega⟩, c14, c15, c16, c17, c18, c19, c20, c21, c22, c23, c24, hM, G⟩
    · have hlt := G.rd.lt
      obtain ⟨q0, rfl, q00, q01⟩ := (c13 (hd { on := 13, ground := Ground.data } (by simp) rfl)).any
      have HA := Lib.hid (GArr.new (r := w.heap.size) u [q0, 0, 101, 100] [.int .i64 q0, .int .i64 0, .int .i64 101, .int .i64 100] rfl 3 hlt)
      refine wpOp_step rfl (fun K hK => ?_)
      go_simp
      refine hK _ _ ?_
      exact ⟨l0, l1, l2, l3, l4, l5, l6, l7, l8, l9, l10, l11, l12, l13, true, l15, l16, l17, l18, l19, l20, l21, l22, l23, l24, _, _, _, _, _, _, _, _, _, _, _, _, _, _, _, _, _, _, _, _, _, _, _, _, _, _, _, _, _, _, _, _, M, c0, c1, c2, c3, c4, c5, c6, c7, c8, c9, c10, c11, c12, c13, fun _ => ⟨_, [q0, 0, 101, 100], rfl, rfl, by intro z hz; simp at hz; omega, HA.out⟩, fun h => (c15 h).keep (GKeeps.alloc w.heap.size u _), c16, c17, fun h => (c18 h).keep (GKeeps.alloc w.heap.size u _), c19, fun h => (c20 h).keep (GKeeps.alloc w.heap.size u _), c21, c22, c23, c24, hM, G.next (below_box u _)⟩
    · have hlt := G.rd.lt
      have HA := Lib.hid (GArr.new (r := w.heap.size) u [0, 0, 0, 0, 1, 2, 3] [.int .i64 0, .int .i64 0, .int .i64 0, .int .i64 0, .int .i64 1, .int .i64 2, .int .i64 3] rfl 3 hlt)
      refine wpOp_step rfl (fun K hK => ?_)
      go_simp
      refine hK _ _ ?_
      exact ⟨l0, l1, l2, l3, l4, l5, l6, l7, l8, l9, l10, l11, l12, l13, l14, true, l16, l17, l18, l19, l20, l21, l22, l23, l24, _, _, _, _, _, _, _, _, _, _, _, _, _, _, _, _, _, _, _, _, _, _, _, _, _, _, _, _, _, _, _, _, M, c0, c1, c2, c3, c4, c5, c6, c7, c8, c9, c10, c11, c12, c13, fun h => (c14 h).keep (GKeeps.alloc w.heap.size u _), fun _ => ⟨_, [0, 0, 0, 0, 1, 2, 3], rfl, rfl, by intro z hz; simp at hz; omega, HA.out⟩, c16, c17, fun h => (c18 h).keep (GKeeps.alloc w.heap.size u _), c19, fun h => (c20 h).keep (GKeeps.alloc w.heap.size u _), c21, c22, c23, c24, hM, G.next (below_box u _)⟩
    · skip
      refine wpOp_step rfl (fun K hK => ?_)
      go_simp
      refine hK _ _ ?_
      exact ⟨l0, l1, l2, l3, l4, l5, l6, l7, l8, l9, l10, l11, l12, l13, l14, l15, true, l17, l18, l19, l20, l21, l22, l23, l24, _, _, _, _, _, _, _, _, _, _, _, _, _, _, _, _, _, _, _, _, _, _, _, _, _, _, _, _, _, _, _, _, M, c0, c1, c2, c3, c4, c5, c6, c7, c8, c9, c10, c11, c12, c13, c14, c15, fun _ => rfl, c17, c18, c19, c20, c21, c22, c23, c24, hM, G⟩
    · obtain rfl := c16 (hd { on := 16, ground := Ground.data } (by simp) rfl)
      have e17 : l17 = false := hl
      subst e17
      refine wpOp_step rfl (fun K hK => ?_)
      go_simp
      refine (gpick 7 (by omega) G (by omega)).mono ?_
      rintro e u' ⟨xk, h0, h1, rfl, G', KA, hg⟩
      refine hK _ _ ?_
      exact ⟨l0, l1, l2, l3, l4, l5, l6, l7, l8, l9, l10, l11, l12, l13, l14, l15, l16, true, l18, l19, l20, l21, l22, l23, l24, _, _, _, _, _, _, _, _, _, _, _, _, _, _, _, _, _, _, _, _, _, _, _, _, _, _, _, _, _, _, _, _, (M + 1), c0, c1, c2, c3, c4, c5, c6, c7, c8, c9, c10, c11, c12, c13, fun h => (c14 h).keep KA, fun h => (c15 h).keep KA, c16, fun _ => ⟨xk, rfl, h0, by omega⟩, fun h => (c18 h).keep KA, c19, fun h => (c20 h).keep KA, c21, c22, c23, c24, by simp only [Bool.false_eq_true, if_false, if_true] at hM ⊢; omega, G'⟩
    · obtain ⟨b, rfl, hx⟩ := (c15 (hd { on := 15, ground := Ground.data } (by simp) rfl)).index
      obtain ⟨xk, rfl, x0, x1⟩ := (c17 (hd { on := 17, ground := Ground.data } (by simp) rfl)).any
      have x2 : xk < 7 := by omega
      have HX := Lib.hid (hx xk x0 (by omega))
      refine wpOp_step rfl (fun K hK => ?_)
      go_simp
      refine hK _ _ ?_
      exact ⟨l0, l1, l2, l3, l4, l5, l6, l7, l8, l9, l10, l11, l12, l13, l14, l15, l16, l17, true, l19, l20, l21, l22, l23, l24, _, _, _, _, _, _, _, _, _, _, _, _, _, _, _, _, _, _, _, _, _, _, _, _, _, _, _, _, _, _, _, _, M, c0, c1, c2, c3, c4, c5, c6, c7, c8, c9, c10, c11, c12, c13, c14, c15, c16, c17, fun _ => HX.out, c19, c20, c21, c22, c23, c24, hM, G⟩
    · obtain ⟨b, k, z, rfl, ck, k0, k1⟩ := (c18 (hd { on := 18, ground := Ground.data } (by simp) rfl)).load
      refine wpOp_step rfl (fun K hK => ?_)
      go_simp
      refine hK _ _ ?_
      exact ⟨l0, l1, l2, l3, l4, l5, l6, l7, l8, l9, l10, l11, l12, l13, l14, l15, l16, l17, l18, true, l20, l21, l22, l23, l24, _, _, _, _, _, _, _, _, _, _, _, _, _, _, _, _, _, _, _, _, _, _, _, _, _, _, _, _, _, _, _, _, M, c0, c1, c2, c3, c4, c5, c6, c7, c8, c9, c10, c11, c12, c13, c14, c15, c16, c17, c18, fun _ => ⟨z, rfl, k0, k1⟩, c20, c21, c22, c23, c24, hM, G⟩
    · obtain ⟨b, rfl, hx⟩ := (c14 (hd { on := 14, ground := Ground.data } (by simp) rfl)).index
      obtain ⟨xk, rfl, x0, x1⟩ := (c19 (hd { on := 19, ground := Ground.data } (by simp) rfl)).any
      have x2 : xk < 4 := by omega
      have HX := Lib.hid (hx xk x0 (by omega))
      refine wpOp_step rfl (fun K hK => ?_)
      go_simp
      refine hK _ _ ?_
      exact ⟨l0, l1, l2, l3, l4, l5, l6, l7, l8, l9, l10, l11, l12, l13, l14, l15, l16, l17, l18, l19, true, l21, l22, l23, l24, _, _, _, _, _, _, _, _, _, _, _, _, _, _, _, _, _, _, _, _, _, _, _, _, _, _, _, _, _, _, _, _, M, c0, c1, c2, c3, c4, c5, c6, c7, c8, c9, c10, c11, c12, c13, c14, c15, c16, c17, c18, c19, fun _ => HX.out, c21, c22, c23, c24, hM, G⟩
    · obtain ⟨b, k, z, rfl, ck, k0, k1⟩ := (c20 (hd { on := 20, ground := Ground.data } (by simp) rfl)).load
      refine wpOp_step rfl (fun K hK => ?_)
      go_simp
      refine hK _ _ ?_
      exact ⟨l0, l1, l2, l3, l4, l5, l6, l7, l8, l9, l10, l11, l12, l13, l14, l15, l16, l17, l18, l19, l20, true, l22, l23, l24, _, _, _, _, _, _, _, _, _, _, _, _, _, _, _, _, _, _, _, _, _, _, _, _, _, _, _, _, _, _, _, _, M, c0, c1, c2, c3, c4, c5, c6, c7, c8, c9, c10, c11, c12, c13, c14, c15, c16, c17, c18, c19, c20, fun _ => ⟨z, rfl, k0, k1⟩, c22, c23, c24, hM, G⟩
    · obtain ⟨x, rfl, h0, h1⟩ := (c9 (hd { on := 9, ground := Ground.data } (by simp) rfl)).any
      refine wpOp_step rfl (fun K hK => ?_)
      go_simp
      refine hK _ _ ?_
      exact ⟨l0, l1, l2, l3, l4, l5, l6, l7, l8, l9, l10, l11, l12, l13, l14, l15, l16, l17, l18, l19, l20, l21, true, l23, l24, _, _, _, _, _, _, _, _, _, _, _, _, _, _, _, _, _, _, _, _, _, _, _, _, _, _, _, _, _, _, _, _, M, c0, c1, c2, c3, c4, c5, c6, c7, c8, c9, c10, c11, c12, c13, c14, c15, c16, c17, c18, c19, c20, c21, fun _ => ⟨x, rfl, h0, h1⟩, c23, c24, hM, G⟩
    · obtain rfl := c10 (hd { on := 10, ground := Ground.data } (by simp) rfl)
      refine wpOp_step rfl (fun K hK => ?_)
      go_simp
      refine hK _ _ ?_
      exact ⟨l0, l1, l2, l3, l4, l5, l6, l7, l8, l9, l10, l11, l12, l13, l14, l15, l16, l17, l18, l19, l20, l21, l22, true, l24, _, _, _, _, _, _, _, _, _, _, _, _, _, _, _, _, _, _, _, _, _, _, _, _, _, _, _, _, _, _, _, _, M, c0, c1, c2, c3, c4, c5, c6, c7, c8, c9, c10, c11, c12, c13, c14, c15, c16, c17, c18, c19, c20, c21, c22, fun _ => rfl, c24, hM, G⟩
    · obtain ⟨x, rfl, h0, h1⟩ := (c21 (hd { on := 21, ground := Ground.data } (by simp) rfl)).any
      refine wpOp_step rfl (fun K hK => ?_)
      go_simp
      refine hK _ _ ?_
      exact ⟨l0, l1, l2, l3, l4, l5, l6, l7, l8, l9, l10, l11, l12, l13, l14, l15, l16, l17, l18, l19, l20, l21, l22, l23, true, _, _, _, _, _, _, _, _, _, _, _, _, _, _, _, _, _, _, _, _, _, _, _, _, _, _, _, _, _, _, _, _, M, c0, c1, c2, c3, c4, c5, c6, c7, c8, c9, c10, c11, c12, c13, c14, c15, c16, c17, c18, c19, c20, c21, c22, c23, fun _ => ⟨x, rfl, h0, h1⟩, hM, G⟩
  case hlt => exact backB_spec (by kernel_rfl)
  case hsz => exact fun listed a u h => h.size
  case hdone =>
    intro listed act u hR hall
    obtain ⟨l0, l1, l2, l3, l4, l5, l6, l7, l8, l9, l10, l11, l12, l13, l14, l15, l16, l17, l18, l19, l20, l21, l22, l23, l24, v2, v3, v4, v12, v13, v14, v15, v16, v17, v18, v19, v20, v21, v22, v23, v24, v25, v26, v27, v28, v29, v30, v31, v32, v33, p0, p1, p7, p8, p9, p10, p11, M1, c0, c1, c2, c3, c4, c5, c6, c7, c8, c9, c10, c11, c12, c13, c14, c15, c16, c17, c18, c19, c20, c21, c22, c23, c24, hM, G⟩ := hR
    obtain ⟨p9, rfl, p90, p91⟩ := (c22 (hall 22 (by decide))).any
    obtain rfl := c23 (hall 23 (by decide))
    obtain ⟨k9, rfl, k90, k91⟩ := (c24 (hall 24 (by decide))).any
    have HO := Lib.hid G.old
    clear c0 c1 c2 c3 c4 c5 c6 c7 c8 c9 c10 c11 c12 c13 c14 c15 c16 c17 c18 c19 c20 c21 c22 c23 c24 hall G
    go_wp2
    exact bodyPost_ret (v := .tuple #[.int .i64 p9, .int .i64 wv, .int .i64 k9]) (by simp [results, Try.results9, go_sem]) rfl ⟨p9, wv, k9, ⟨p90, p91⟩, ⟨w0, w1⟩, ⟨k90, k91⟩, rfl, HO.out⟩
set_option maxHeartbeats 8000000 in
theorem drawPressStep (w : World) (a : Option Addr) (len cap : Nat) (zs : List Int) (h : Bytes w a len cap zs) :
    Calls Try.prog 13 #[.slice a len cap] w (GotP15 w) := by
  go_enter Try.func13, Try.ntmps13
  go_wp2_with fail
  refine (gopen w _ a len cap zs h (Below.refl _ _) w.heap.size rfl).mono ?_
  rintro e w1 ⟨rfl, hr1, hb1⟩
  have HR1 := Lib.hid hr1
  have HB1 := Lib.hid hb1
  go_wp2_with fail
  refine (drawContactForce w1 a len cap zs (h.below hb1)).mono ?_
  rintro e w2 ⟨pv, wv, kv, hp, hq, hk, rfl, B2⟩
  clear h hb1 hr1
  have G2 := (GSt.start (rs := []) HR1.out HB1.out).next B2
  have HHP := Lib.hid hp
  have HHQ := Lib.hid hq
  have HHK := Lib.hid hk
  have G0 := Lib.hid (GSt.start (rs := []) G2.rd G2.old).drew
  have HM0 := Lib.hid (show 0 + ((if false then 0 else 1) + (if false then 0 else 1) + (if false then 0 else 1) + (if false then 0 else 1)) ≤ 900 by decide)
  clear G2 B2 HR1 HB1 hp hq hk
  go_upto_region 3 with fail
  refine wp_region_inv (fun listed act u => RF15p w w2 w.heap.size   pv wv kv u listed act) (by kernel_rfl) ?hlt ?hsz ?h0 ?hstep ?hdone
  case h0 =>
    exact ⟨false, false, false, false, false, false, false, false, false, false, false, false, false, false, false, false, false, false, false, false, false, false, false, false, false, false, false, false, _, _, _, _, _, _, _, _, _, _, _, _, _, _, _, _, _, _, _, _, _, _, _, _, _, _, _, _, _, _, _, _, _, _, _, _, _, _, _, (by intro h; cases h), (by intro h; cases h), (by intro h; cases h), (by intro h; cases h), (by intro h; cases h), (by intro h; cases h), (by intro h; cases h), (by intro h; cases h), (by intro h; cases h), (by intro h; cases h), (by intro h; cases h), (by intro h; cases h), (by intro h; cases h), (by intro h; cases h), (by intro h; cases h), (by intro h; cases h), (by intro h; cases h), (by intro h; cases h), (by intro h; cases h), (by intro h; cases h), (by intro h; cases h), (by intro h; cases h), (by intro h; cases h), (by intro h; cases h), (by intro h; cases h), (by intro h; cases h), (by intro h; cases h), (by intro h; cases h), HM0.out, G0.out⟩
  case hstep =>
    intro listed act u i o hR ho hl hd
    obtain ⟨l0, l1, l2, l3, l4, l5, l6, l7, l8, l9, l10, l11, l12, l13, l14, l15, l16, l17, l18, l19, l20, l21, l22, l23, l24, l25, l26, l27, v2, v3, v4, v5, v6, v19, v20, v21, v22, v23, v24, v25, v26, v27, v28, v29, v30, v31, v32, v33, v34, v35, v36, v37, v38, v39, v40, v41, p0, p1, p11, p12, p13, p14, p15, p16, p17, p18, M, c0, c1, c2, c3, c4, c5, c6, c7, c8, c9, c10, c11, c12, c13, c14, c15, c16, c17, c18, c19, c20, c21, c22, c23, c24, c25, c26, c27, hM, G⟩ := hR
    have hi : i < 28 := by rcases Nat.lt_or_ge i 28 with h | h; exact h; rw [Array.getElem?_eq_none (by simpa using h)] at ho; cases ho
    have hi2 : i = 0 ∨ i = 1 ∨ i = 2 ∨ i = 3 ∨ i = 4 ∨ i = 5 ∨ i = 6 ∨ i = 7 ∨ i = 8 ∨ i = 9 ∨ i = 10 ∨ i = 11 ∨ i = 12 ∨ i = 13 ∨ i = 14 ∨ i = 15 ∨ i = 16 ∨ i = 17 ∨ i = 18 ∨ i = 19 ∨ i = 20 ∨ i = 21 ∨ i = 22 ∨ i = 23 ∨ i = 24 ∨ i = 25 ∨ i = 26 ∨ i = 27 := by omega
    rcases hi2 with rfl | rfl | rfl | rfl | rfl | rfl | rfl | rfl | rfl | rfl | rfl | rfl | rfl | rfl | rfl | rfl | rfl | rfl | rfl | rfl | rfl | rfl | rfl | rfl | rfl | rfl | rfl | rfl
    all_goals (cases ho)
    · skip
      refine wpOp_step rfl (fun K hK => ?_)
      go_simp
      refine hK _ _ ?_
      exact ⟨true, l1, l2, l3, l4, l5, l6, l7, l8, l9, l10, l11, l12, l13, l14, l15, l16, l17, l18, l19, l20, l21, l22, l23, l24, l25, l26, l27, _, _, _, _, _, _, _, _, _, _, _, _, _, _, _, _, _, _, _, _, _, _, _, _, _, _, _, _, _, _, _, _, _, _, _, _, _, _, M, fun _ => rfl, c1, c2, c3, c4, c5, c6, c7, c8, c9, c10, c11, c12, c13, c14, c15, c16, c17, c18, c19, c20, c21, c22, c23, c24, c25, c26, c27, hM, G⟩
    · skip
      refine wpOp_step rfl (fun K hK => ?_)
      go_simp
      refine hK _ _ ?_
      exact ⟨l0, true, l2, l3, l4, l5, l6, l7, l8, l9, l10, l11, l12, l13, l14, l15, l16, l17, l18, l19, l20, l21, l22, l23, l24, l25, l26, l27, _, _, _, _, _, _, _, _, _, _, _, _, _, _, _, _, _, _, _, _, _, _, _, _, _, _, _, _, _, _, _, _, _, _, _, _, _, _, M, c0, fun _ => rfl, c2, c3, c4, c5, c6, c7, c8, c9, c10, c11, c12, c13, c14, c15, c16, c17, c18, c19, c20, c21, c22, c23, c24, c25, c26, c27, hM, G⟩
    · skip
      refine wpOp_step rfl (fun K hK => ?_)
      go_simp
      refine hK _ _ ?_
      exact ⟨l0, l1, true, l3, l4, l5, l6, l7, l8, l9, l10, l11, l12, l13, l14, l15, l16, l17, l18, l19, l20, l21, l22, l23, l24, l25, l26, l27, _, _, _, _, _, _, _, _, _, _, _, _, _, _, _, _, _, _, _, _, _, _, _, _, _, _, _, _, _, _, _, _, _, _, _, _, _, _, M, c0, c1, fun _ => rfl, c3, c4, c5, c6, c7, c8, c9, c10, c11, c12, c13, c14, c15, c16, c17, c18, c19, c20, c21, c22, c23, c24, c25, c26, c27, hM, G⟩
    · skip
      refine wpOp_step rfl (fun K hK => ?_)
      go_simp
      refine hK _ _ ?_
      exact ⟨l0, l1, l2, true, l4, l5, l6, l7, l8, l9, l10, l11, l12, l13, l14, l15, l16, l17, l18, l19, l20, l21, l22, l23, l24, l25, l26, l27, _, _, _, _, _, _, _, _, _, _, _, _, _, _, _, _, _, _, _, _, _, _, _, _, _, _, _, _, _, _, _, _, _, _, _, _, _, _, M, c0, c1, c2, fun _ => rfl, c4, c5, c6, c7, c8, c9, c10, c11, c12, c13, c14, c15, c16, c17, c18, c19, c20, c21, c22, c23, c24, c25, c26, c27, hM, G⟩
    · obtain rfl := c3 (hd { on := 3, ground := Ground.data } (by simp) rfl)
      have e4 : l4 = false := hl
      subst e4
      refine wpOp_step rfl (fun K hK => ?_)
      go_simp
      refine (gpick 256 (by omega) G (by omega)).mono ?_
      rintro e u' ⟨xk, h0, h1, rfl, G', KA, hg⟩
      refine hK _ _ ?_
      exact ⟨l0, l1, l2, l3, true, l5, l6, l7, l8, l9, l10, l11, l12, l13, l14, l15, l16, l17, l18, l19, l20, l21, l22, l23, l24, l25, l26, l27, _, _, _, _, _, _, _, _, _, _, _, _, _, _, _, _, _, _, _, _, _, _, _, _, _, _, _, _, _, _, _, _, _, _, _, _, _, _, (M + 1), c0, c1, c2, c3, fun _ => ⟨xk, rfl, h0, by omega⟩, c5, fun h => (c6 h).keep KA, fun h => (c7 h).keep KA, c8, c9, fun h => (c10 h).keep KA, c11, fun h => (c12 h).keep KA, c13, c14, c15, c16, fun h => (c17 h).keep KA, c18, c19, c20, fun h => (c21 h).keep KA, c22, c23, c24, c25, c26, c27, by simp only [Bool.false_eq_true, if_false, if_true] at hM ⊢; omega, G'⟩
    · obtain ⟨x, rfl, h0, h1⟩ := (c4 (hd { on := 4, ground := Ground.data } (by simp) rfl)).any
      have ow : IntKind.i64.wrap (1 + x) = 1 + x := wrap_in (by omega) (by omega)
      refine wpOp_step rfl (fun K hK => ?_)
      go_simp
      refine hK _ _ ?_
      exact ⟨l0, l1, l2, l3, l4, true, l6, l7, l8, l9, l10, l11, l12, l13, l14, l15, l16, l17, l18, l19, l20, l21, l22, l23, l24, l25, l26, l27, _, _, _, _, _, _, _, _, _, _, _, _, _, _, _, _, _, _, _, _, _, _, _, _, _, _, _, _, _, _, _, _, _, _, _, _, _, _, M, c0, c1, c2, c3, c4, fun _ => ⟨_, rfl, by omega, by omega⟩, c6, c7, c8, c9, c10, c11, c12, c13, c14, c15, c16, c17, c18, c19, c20, c21, c22, c23, c24, c25, c26, c27, hM, G⟩
    · have hlt := G.rd.lt
      obtain ⟨q0, rfl, q00, q01⟩ := (c5 (hd { on := 5, ground := Ground.data } (by simp) rfl)).any
      have HA := Lib.hid (GArr.new (r := w.heap.size) u [q0, 0, 1001, 1000] [.int .i64 q0, .int .i64 0, .int .i64 1001, .int .i64 1000] rfl 3 hlt)
      refine wpOp_step rfl (fun K hK => ?_)
      go_simp
      refine hK _ _ ?_
      exact ⟨l0, l1, l2, l3, l4, l5, true, l7, l8, l9, l10, l11, l12, l13, l14, l15, l16, l17, l18, l19, l20, l21, l22, l23, l24, l25, l26, l27, _, _, _, _, _, _, _, _, _, _, _, _, _, _, _, _, _, _, _, _, _, _, _, _, _, _, _, _, _, _, _, _, _, _, _, _, _, _, M, c0, c1, c2, c3, c4, c5, fun _ => ⟨_, [q0, 0, 1001, 1000], rfl, rfl, by intro z hz; simp at hz; omega, HA.out⟩, fun h => (c7 h).keep (GKeeps.alloc w.heap.size u _), c8, c9, fun h => (c10 h).keep (GKeeps.alloc w.heap.size u _), c11, fun h => (c12 h).keep (GKeeps.alloc w.heap.size u _), c13, c14, c15, c16, fun h => (c17 h).keep (GKeeps.alloc w.heap.size u _), c18, c19, c20, fun h => (c21 h).keep (GKeeps.alloc w.heap.size u _), c22, c23, c24, c25, c26, c27, hM, G.next (below_box u _)⟩
    · have hlt := G.rd.lt
      have HA := Lib.hid (GArr.new (r := w.heap.size) u [0, 0, 0, 0, 1, 2, 3] [.int .i64 0, .int .i64 0, .int .i64 0, .int .i64 0, .int .i64 1, .int .i64 2, .int .i64 3] rfl 3 hlt)
      refine wpOp_step rfl (fun K hK => ?_)
      go_simp
      refine hK _ _ ?_
      exact ⟨l0, l1, l2, l3, l4, l5, l6, true, l8, l9, l10, l11, l12, l13, l14, l15, l16, l17, l18, l19, l20, l21, l22, l23, l24, l25, l26, l27, _, _, _, _, _, _, _, _, _, _, _, _, _, _, _, _, _, _, _, _, _, _, _, _, _, _, _, _, _, _, _, _, _, _, _, _, _, _, M, c0, c1, c2, c3, c4, c5, fun h => (c6 h).keep (GKeeps.alloc w.heap.size u _), fun _ => ⟨_, [0, 0, 0, 0, 1, 2, 3], rfl, rfl, by intro z hz; simp at hz; omega, HA.out⟩, c8, c9, fun h => (c10 h).keep (GKeeps.alloc w.heap.size u _), c11, fun h => (c12 h).keep (GKeeps.alloc w.heap.size u _), c13, c14, c15, c16, fun h => (c17 h).keep (GKeeps.alloc w.heap.size u _), c18, c19, c20, fun h => (c21 h).keep (GKeeps.alloc w.heap.size u _), c22, c23, c24, c25, c26, c27, hM, G.next (below_box u _)⟩
    · skip
      refine wpOp_step rfl (fun K hK => ?_)
      go_simp
      refine hK _ _ ?_
      exact ⟨l0, l1, l2, l3, l4, l5, l6, l7, true, l9, l10, l11, l12, l13, l14, l15, l16, l17, l18, l19, l20, l21, l22, l23, l24, l25, l26, l27, _, _, _, _, _, _, _, _, _, _, _, _, _, _, _, _, _, _, _, _, _, _, _, _, _, _, _, _, _, _, _, _, _, _, _, _, _, _, M, c0, c1, c2, c3, c4, c5, c6, c7, fun _ => rfl, c9, c10, c11, c12, c13, c14, c15, c16, c17, c18, c19, c20, c21, c22, c23, c24, c25, c26, c27, hM, G⟩
    · obtain rfl := c8 (hd { on := 8, ground := Ground.data } (by simp) rfl)
      have e9 : l9 = false := hl
      subst e9
      refine wpOp_step rfl (fun K hK => ?_)
      go_simp
      refine (gpick 7 (by omega) G (by omega)).mono ?_
      rintro e u' ⟨xk, h0, h1, rfl, G', KA, hg⟩
      refine hK _ _ ?_
      exact ⟨l0, l1, l2, l3, l4, l5, l6, l7, l8, true, l10, l11, l12, l13, l14, l15, l16, l17, l18, l19, l20, l21, l22, l23, l24, l25, l26, l27, _, _, _, _, _, _, _, _, _, _, _, _, _, _, _, _, _, _, _, _, _, _, _, _, _, _, _, _, _, _, _, _, _, _, _, _, _, _, (M + 1), c0, c1, c2, c3, c4, c5, fun h => (c6 h).keep KA, fun h => (c7 h).keep KA, c8, fun _ => ⟨xk, rfl, h0, by omega⟩, fun h => (c10 h).keep KA, c11, fun h => (c12 h).keep KA, c13, c14, c15, c16, fun h => (c17 h).keep KA, c18, c19, c20, fun h => (c21 h).keep KA, c22, c23, c24, c25, c26, c27, by simp only [Bool.false_eq_true, if_false, if_true] at hM ⊢; omega, G'⟩
    · obtain ⟨b, rfl, hx⟩ := (c7 (hd { on := 7, ground := Ground.data } (by simp) rfl)).index
      obtain ⟨xk, rfl, x0, x1⟩ := (c9 (hd { on := 9, ground := Ground.data } (by simp) rfl)).any
      have x2 : xk < 7 := by omega
      have HX := Lib.hid (hx xk x0 (by omega))
      refine wpOp_step rfl (fun K hK => ?_)
      go_simp
      refine hK _ _ ?_
      exact ⟨l0, l1, l2, l3, l4, l5, l6, l7, l8, l9, true, l11, l12, l13, l14, l15, l16, l17, l18, l19, l20, l21, l22, l23, l24, l25, l26, l27, _, _, _, _, _, _, _, _, _, _, _, _, _, _, _, _, _, _, _, _, _, _, _, _, _, _, _, _, _, _, _, _, _, _, _, _, _, _, M, c0, c1, c2, c3, c4, c5, c6, c7, c8, c9, fun _ => HX.out, c11, c12, c13, c14, c15, c16, c17, c18, c19, c20, c21, c22, c23, c24, c25, c26, c27, hM, G⟩
    · obtain ⟨b, k, z, rfl, ck, k0, k1⟩ := (c10 (hd { on := 10, ground := Ground.data } (by simp) rfl)).load
      refine wpOp_step rfl (fun K hK => ?_)
      go_simp
      refine hK _ _ ?_
      exact ⟨l0, l1, l2, l3, l4, l5, l6, l7, l8, l9, l10, true, l12, l13, l14, l15, l16, l17, l18, l19, l20, l21, l22, l23, l24, l25, l26, l27, _, _, _, _, _, _, _, _, _, _, _, _, _, _, _, _, _, _, _, _, _, _, _, _, _, _, _, _, _, _, _, _, _, _, _, _, _, _, M, c0, c1, c2, c3, c4, c5, c6, c7, c8, c9, c10, fun _ => ⟨z, rfl, k0, k1⟩, c12, c13, c14, c15, c16, c17, c18, c19, c20, c21, c22, c23, c24, c25, c26, c27, hM, G⟩
    · obtain ⟨b, rfl, hx⟩ := (c6 (hd { on := 6, ground := Ground.data } (by simp) rfl)).index
      obtain ⟨xk, rfl, x0, x1⟩ := (c11 (hd { on := 11, ground := Ground.data } (by simp) rfl)).any
      have x2 : xk < 4 := by omega
      have HX := Lib.hid (hx xk x0 (by omega))
      refine wpOp_step rfl (fun K hK => ?_)
      go_simp
      refine hK _ _ ?_
      exact ⟨l0, l1, l2, l3, l4, l5, l6, l7, l8, l9, l10, l11, true, l13, l14, l15, l16, l17, l18, l19, l20, l21, l22, l23, l24, l25, l26, l27, _, _, _, _, _, _, _, _, _, _, _, _, _, _, _, _, _, _, _, _, _, _, _, _, _, _, _, _, _, _, _, _, _, _, _, _, _, _, M, c0, c1, c2, c3, c4, c5, c6, c7, c8, c9, c10, c11, fun _ => HX.out, c13, c14, c15, c16, c17, c18, c19, c20, c21, c22, c23, c24, c25, c26, c27, hM, G⟩
    · obtain ⟨b, k, z, rfl, ck, k0, k1⟩ := (c12 (hd { on := 12, ground := Ground.data } (by simp) rfl)).load
      refine wpOp_step rfl (fun K hK => ?_)
      go_simp
      refine hK _ _ ?_
      exact ⟨l0, l1, l2, l3, l4, l5, l6, l7, l8, l9, l10, l11, l12, true, l14, l15, l16, l17, l18, l19, l20, l21, l22, l23, l24, l25, l26, l27, _, _, _, _, _, _, _, _, _, _, _, _, _, _, _, _, _, _, _, _, _, _, _, _, _, _, _, _, _, _, _, _, _, _, _, _, _, _, M, c0, c1, c2, c3, c4, c5, c6, c7, c8, c9, c10, c11, c12, fun _ => ⟨z, rfl, k0, k1⟩, c14, c15, c16, c17, c18, c19, c20, c21, c22, c23, c24, c25, c26, c27, hM, G⟩
    · skip
      refine wpOp_step rfl (fun K hK => ?_)
      go_simp
      refine hK _ _ ?_
      exact ⟨l0, l1, l2, l3, l4, l5, l6, l7, l8, l9, l10, l11, l12, l13, true, l15, l16, l17, l18, l19, l20, l21, l22, l23, l24, l25, l26, l27, _, _, _, _, _, _, _, _, _, _, _, _, _, _, _, _, _, _, _, _, _, _, _, _, _, _, _, _, _, _, _, _, _, _, _, _, _, _, M, c0, c1, c2, c3, c4, c5, c6, c7, c8, c9, c10, c11, c12, c13, fun _ => rfl, c15, c16, c17, c18, c19, c20, c21, c22, c23, c24, c25, c26, c27, hM, G⟩
    · obtain rfl := c14 (hd { on := 14, ground := Ground.data } (by simp) rfl)
      have e15 : l15 = false := hl
      subst e15
      refine wpOp_step rfl (fun K hK => ?_)
      go_simp
      refine (gpick 20 (by omega) G (by omega)).mono ?_
      rintro e u' ⟨xk, h0, h1, rfl, G', KA, hg⟩
      refine hK _ _ ?_
      exact ⟨l0, l1, l2, l3, l4, l5, l6, l7, l8, l9, l10, l11, l12, l13, l14, true, l16, l17, l18, l19, l20, l21, l22, l23, l24, l25, l26, l27, _, _, _, _, _, _, _, _, _, _, _, _, _, _, _, _, _, _, _, _, _, _, _, _, _, _, _, _, _, _, _, _, _, _, _, _, _, _, (M + 1), c0, c1, c2, c3, c4, c5, fun h => (c6 h).keep KA, fun h => (c7 h).keep KA, c8, c9, fun h => (c10 h).keep KA, c11, fun h => (c12 h).keep KA, c13, c14, fun _ => ⟨xk, rfl, h0, by omega⟩, c16, fun h => (c17 h).keep KA, c18, c19, c20, fun h => (c21 h).keep KA, c22, c23, c24, c25, c26, c27, by simp only [Bool.false_eq_true, if_false, if_true] at hM ⊢; omega, G'⟩
    · obtain ⟨x, rfl, h0, h1⟩ := (c15 (hd { on := 15, ground := Ground.data } (by simp) rfl)).any
      have ow : IntKind.i64.wrap (1 + x) = 1 + x := wrap_in (by omega) (by omega)
      refine wpOp_step rfl (fun K hK => ?_)
      go_simp
      refine hK _ _ ?_
      exact ⟨l0, l1, l2, l3, l4, l5, l6, l7, l8, l9, l10, l11, l12, l13, l14, l15, true, l17, l18, l19, l20, l21, l22, l23, l24, l25, l26, l27, _, _, _, _, _, _, _, _, _, _, _, _, _, _, _, _, _, _, _, _, _, _, _, _, _, _, _, _, _, _, _, _, _, _, _, _, _, _, M, c0, c1, c2, c3, c4, c5, c6, c7, c8, c9, c10, c11, c12, c13, c14, c15, fun _ => ⟨_, rfl, by omega, by omega⟩, c17, c18, c19, c20, c21, c22, c23, c24, c25, c26, c27, hM, G⟩
    · have hlt := G.rd.lt
      obtain ⟨q0, rfl, q00, q01⟩ := (c16 (hd { on := 16, ground := Ground.data } (by simp) rfl)).any
      have HA := Lib.hid (GArr.new (r := w.heap.size) u [q0, 0] [.int .i64 q0, .int .i64 0] rfl 3 hlt)
      refine wpOp_step rfl (fun K hK => ?_)
      go_simp
      refine hK _ _ ?_
      exact ⟨l0, l1, l2, l3, l4, l5, l6, l7, l8, l9, l10, l11, l12, l13, l14, l15, l16, true, l18, l19, l20, l21, l22, l23, l24, l25, l26, l27, _, _, _, _, _, _, _, _, _, _, _, _, _, _, _, _, _, _, _, _, _, _, _, _, _, _, _, _, _, _, _, _, _, _, _, _, _, _, M, c0, c1, c2, c3, c4, c5, fun h => (c6 h).keep (GKeeps.alloc w.heap.size u _), fun h => (c7 h).keep (GKeeps.alloc w.heap.size u _), c8, c9, fun h => (c10 h).keep (GKeeps.alloc w.heap.size u _), c11, fun h => (c12 h).keep (GKeeps.alloc w.heap.size u _), c13, c14, c15, c16, fun _ => ⟨_, [q0, 0], rfl, rfl, by intro z hz; simp at hz; omega, HA.out⟩, c18, c19, c20, fun h => (c21 h).keep (GKeeps.alloc w.heap.size u _), c22, c23, c24, c25, c26, c27, hM, G.next (below_box u _)⟩
    · skip
      refine wpOp_step rfl (fun K hK => ?_)
      go_simp
      refine hK _ _ ?_
      exact ⟨l0, l1, l2, l3, l4, l5, l6, l7, l8, l9, l10, l11, l12, l13, l14, l15, l16, l17, true, l19, l20, l21, l22, l23, l24, l25, l26, l27, _, _, _, _, _, _, _, _, _, _, _, _, _, _, _, _, _, _, _, _, _, _, _, _, _, _, _, _, _, _, _, _, _, _, _, _, _, _, M, c0, c1, c2, c3, c4, c5, c6, c7, c8, c9, c10, c11, c12, c13, c14, c15, c16, c17, fun _ => rfl, c19, c20, c21, c22, c23, c24, c25, c26, c27, hM, G⟩
    · obtain rfl := c18 (hd { on := 18, ground := Ground.data } (by simp) rfl)
      have e19 : l19 = false := hl
      subst e19
      refine wpOp_step rfl (fun K hK => ?_)
      go_simp
      refine (gpick 12 (by omega) G (by omega)).mono ?_
      rintro e u' ⟨xk, h0, h1, rfl, G', KA, hg⟩
      refine hK _ _ ?_
      exact ⟨l0, l1, l2, l3, l4, l5, l6, l7, l8, l9, l10, l11, l12, l13, l14, l15, l16, l17, l18, true, l20, l21, l22, l23, l24, l25, l26, l27, _, _, _, _, _, _, _, _, _, _, _, _, _, _, _, _, _, _, _, _, _, _, _, _, _, _, _, _, _, _, _, _, _, _, _, _, _, _, (M + 1), c0, c1, c2, c3, c4, c5, fun h => (c6 h).keep KA, fun h => (c7 h).keep KA, c8, c9, fun h => (c10 h).keep KA, c11, fun h => (c12 h).keep KA, c13, c14, c15, c16, fun h => (c17 h).keep KA, c18, fun _ => ⟨xk, rfl, h0, by omega⟩, c20, fun h => (c21 h).keep KA, c22, c23, c24, c25, c26, c27, by simp only [Bool.false_eq_true, if_false, if_true] at hM ⊢; omega, G'⟩
    · obtain ⟨x, rfl, h0, h1⟩ := (c19 (hd { on := 19, ground := Ground.data } (by simp) rfl)).any
      obtain ⟨q, hq⟩ : ∃ q, x.tdiv 11 = q := ⟨_, rfl⟩
      have q0 : 0 ≤ q := by rw [← hq, Int.tdiv_eq_ediv_of_nonneg (by omega)]; omega
      have q1 : q ≤ 1 := by rw [← hq, Int.tdiv_eq_ediv_of_nonneg (by omega)]; omega
      have ow : IntKind.i64.wrap q = q := wrap_in (by omega) (by omega)
      refine wpOp_step rfl (fun K hK => ?_)
      go_simp
      refine hK _ _ ?_
      exact ⟨l0, l1, l2, l3, l4, l5, l6, l7, l8, l9, l10, l11, l12, l13, l14, l15, l16, l17, l18, l19, true, l21, l22, l23, l24, l25, l26, l27, _, _, _, _, _, _, _, _, _, _, _, _, _, _, _, _, _, _, _, _, _, _, _, _, _, _, _, _, _, _, _, _, _, _, _, _, _, _, M, c0, c1, c2, c3, c4, c5, c6, c7, c8, c9, c10, c11, c12, c13, c14, c15, c16, c17, c18, c19, fun _ => ⟨_, rfl, by omega, by omega⟩, c21, c22, c23, c24, c25, c26, c27, hM, G⟩
    · obtain ⟨b, rfl, hx⟩ := (c17 (hd { on := 17, ground := Ground.data } (by simp) rfl)).index
      obtain ⟨xk, rfl, x0, x1⟩ := (c20 (hd { on := 20, ground := Ground.data } (by simp) rfl)).any
      have x2 : xk < 2 := by omega
      have HX := Lib.hid (hx xk x0 (by omega))
      refine wpOp_step rfl (fun K hK => ?_)
      go_simp
      refine hK _ _ ?_
      exact ⟨l0, l1, l2, l3, l4, l5, l6, l7, l8, l9, l10, l11, l12, l13, l14, l15, l16, l17, l18, l19, l20, true, l22, l23, l24, l25, l26, l27, _, _, _, _, _, _, _, _, _, _, _, _, _, _, _, _, _, _, _, _, _, _, _, _, _, _, _, _, _, _, _, _, _, _, _, _, _, _, M, c0, c1, c2, c3, c4, c5, c6, c7, c8, c9, c10, c11, c12, c13, c14, c15, c16, c17, c18, c19, c20, fun _ => HX.out, c22, c23, c24, c25, c26, c27, hM, G⟩
    · obtain ⟨b, k, z, rfl, ck, k0, k1⟩ := (c21 (hd { on := 21, ground := Ground.data } (by simp) rfl)).load
      refine wpOp_step rfl (fun K hK => ?_)
      go_simp
      refine hK _ _ ?_
      exact ⟨l0, l1, l2, l3, l4, l5, l6, l7, l8, l9, l10, l11, l12, l13, l14, l15, l16, l17, l18, l19, l20, l21, true, l23, l24, l25, l26, l27, _, _, _, _, _, _, _, _, _, _, _, _, _, _, _, _, _, _, _, _, _, _, _, _, _, _, _, _, _, _, _, _, _, _, _, _, _, _, M, c0, c1, c2, c3, c4, c5, c6, c7, c8, c9, c10, c11, c12, c13, c14, c15, c16, c17, c18, c19, c20, c21, fun _ => ⟨z, rfl, k0, k1⟩, c23, c24, c25, c26, c27, hM, G⟩
    · obtain rfl := c0 (hd { on := 0, ground := Ground.data } (by simp) rfl)
      refine wpOp_step rfl (fun K hK => ?_)
      go_simp
      refine hK _ _ ?_
      exact ⟨l0, l1, l2, l3, l4, l5, l6, l7, l8, l9, l10, l11, l12, l13, l14, l15, l16, l17, l18, l19, l20, l21, l22, true, l24, l25, l26, l27, _, _, _, _, _, _, _, _, _, _, _, _, _, _, _, _, _, _, _, _, _, _, _, _, _, _, _, _, _, _, _, _, _, _, _, _, _, _, M, c0, c1, c2, c3, c4, c5, c6, c7, c8, c9, c10, c11, c12, c13, c14, c15, c16, c17, c18, c19, c20, c21, c22, fun _ => rfl, c24, c25, c26, c27, hM, G⟩
    · obtain rfl := c1 (hd { on := 1, ground := Ground.data } (by simp) rfl)
      refine wpOp_step rfl (fun K hK => ?_)
      go_simp
      refine hK _ _ ?_
      exact ⟨l0, l1, l2, l3, l4, l5, l6, l7, l8, l9, l10, l11, l12, l13, l14, l15, l16, l17, l18, l19, l20, l21, l22, l23, true, l25, l26, l27, _, _, _, _, _, _, _, _, _, _, _, _, _, _, _, _, _, _, _, _, _, _, _, _, _, _, _, _, _, _, _, _, _, _, _, _, _, _, M, c0, c1, c2, c3, c4, c5, c6, c7, c8, c9, c10, c11, c12, c13, c14, c15, c16, c17, c18, c19, c20, c21, c22, c23, fun _ => rfl, c25, c26, c27, hM, G⟩
    · obtain rfl := c2 (hd { on := 2, ground := Ground.data } (by simp) rfl)
      refine wpOp_step rfl (fun K hK => ?_)
      go_simp
      refine hK _ _ ?_
      exact ⟨l0, l1, l2, l3, l4, l5, l6, l7, l8, l9, l10, l11, l12, l13, l14, l15, l16, l17, l18, l19, l20, l21, l22, l23, l24, true, l26, l27, _, _, _, _, _, _, _, _, _, _, _, _, _, _, _, _, _, _, _, _, _, _, _, _, _, _, _, _, _, _, _, _, _, _, _, _, _, _, M, c0, c1, c2, c3, c4, c5, c6, c7, c8, c9, c10, c11, c12, c13, c14, c15, c16, c17, c18, c19, c20, c21, c22, c23, c24, fun _ => rfl, c26, c27, hM, G⟩
    · obtain ⟨x, rfl, h0, h1⟩ := (c13 (hd { on := 13, ground := Ground.data } (by simp) rfl)).any
      refine wpOp_step rfl (fun K hK => ?_)
      go_simp
      refine hK _ _ ?_
      exact ⟨l0, l1, l2, l3, l4, l5, l6, l7, l8, l9, l10, l11, l12, l13, l14, l15, l16, l17, l18, l19, l20, l21, l22, l23, l24, l25, true, l27, _, _, _, _, _, _, _, _, _, _, _, _, _, _, _, _, _, _, _, _, _, _, _, _, _, _, _, _, _, _, _, _, _, _, _, _, _, _, M, c0, c1, c2, c3, c4, c5, c6, c7, c8, c9, c10, c11, c12, c13, c14, c15, c16, c17, c18, c19, c20, c21, c22, c23, c24, c25, fun _ => ⟨x, rfl, h0, h1⟩, c27, hM, G⟩
    · obtain ⟨x, rfl, h0, h1⟩ := (c22 (hd { on := 22, ground := Ground.data } (by simp) rfl)).any
      refine wpOp_step rfl (fun K hK => ?_)
      go_simp
      refine hK _ _ ?_
      exact ⟨l0, l1, l2, l3, l4, l5, l6, l7, l8, l9, l10, l11, l12, l13, l14, l15, l16, l17, l18, l19, l20, l21, l22, l23, l24, l25, l26, true, _, _, _, _, _, _, _, _, _, _, _, _, _, _, _, _, _, _, _, _, _, _, _, _, _, _, _, _, _, _, _, _, _, _, _, _, _, _, M, c0, c1, c2, c3, c4, c5, c6, c7, c8, c9, c10, c11, c12, c13, c14, c15, c16, c17, c18, c19, c20, c21, c22, c23, c24, c25, c26, fun _ => ⟨x, rfl, h0, h1⟩, hM, G⟩
  case hlt => exact backB_spec (by kernel_rfl)
  case hsz => exact fun listed a u h => h.size
  case hdone =>
    intro listed act u hR hall
    obtain ⟨l0, l1, l2, l3, l4, l5, l6, l7, l8, l9, l10, l11, l12, l13, l14, l15, l16, l17, l18, l19, l20, l21, l22, l23, l24, l25, l26, l27, v2, v3, v4, v5, v6, v19, v20, v21, v22, v23, v24, v25, v26, v27, v28, v29, v30, v31, v32, v33, v34, v35, v36, v37, v38, v39, v40, v41, p0, p1, p11, p12, p13, p14, p15, p16, p17, p18, M1, c0, c1, c2, c3, c4, c5, c6, c7, c8, c9, c10, c11, c12, c13, c14, c15, c16, c17, c18, c19, c20, c21, c22, c23, c24, c25, c26, c27, hM, G⟩ := hR
    obtain rfl := c23 (hall 23 (by decide))
    obtain rfl := c24 (hall 24 (by decide))
    obtain rfl := c25 (hall 25 (by decide))
    obtain ⟨f9, rfl, f90, f91⟩ := (c26 (hall 26 (by decide))).any
    obtain ⟨s9, rfl, s90, s91⟩ := (c27 (hall 27 (by decide))).any
    have HO := Lib.hid G.old
    clear c0 c1 c2 c3 c4 c5 c6 c7 c8 c9 c10 c11 c12 c13 c14 c15 c16 c17 c18 c19 c20 c21 c22 c23 c24 c25 c26 c27 hall G
    go_wp2
    exact bodyPost_ret (v := .tuple #[.int .i64 pv, .int .i64 wv, .int .i64 kv, .int .i64 f9, .int .i64 s9]) (by simp [results, Try.results13, go_sem]) rfl ⟨pv, wv, kv, f9, s9, HHP.out, HHQ.out, HHK.out, ⟨f90, f91⟩, ⟨s90, s91⟩, rfl, HO.out⟩
set_option maxHeartbeats 8000000 in
theorem drawPressTrace (w : World) (a : Option Addr) (len cap : Nat) (zs : List Int) (h : Bytes w a len cap zs) :
    Calls Try.prog 16 #[.slice a len cap] w (GotT15 w) := by
  go_enter Try.func16, Try.ntmps16
  go_wp2_with fail
  refine (gopen w _ a len cap zs h (Below.refl _ _) w.heap.size rfl).mono ?_
  rintro e w1 ⟨rfl, hr1, hb1⟩
  have HR1 := Lib.hid hr1
  have HB1 := Lib.hid hb1
  go_wp2_with fail
  refine (drawPressStep w1 a len cap zs (h.below hb1)).mono ?_
  rintro e w2 ⟨pv, wv, kv, fv, sv, hp, hq, hk, hf, hs, rfl, B2⟩
  clear h hb1 hr1
  have G2 := (GSt.start (rs := []) HR1.out HB1.out).next B2
  have HHP := Lib.hid hp
  have HHQ := Lib.hid hq
  have HHK := Lib.hid hk
  have HHF := Lib.hid hf
  have HHS := Lib.hid hs
  have G0 := Lib.hid (GSt.start (rs := []) G2.rd G2.old).drew
  have HM0 := Lib.hid (show 0 + ((if false then 0 else 1) + (if false then 0 else 1)) ≤ 900 by decide)
  clear G2 B2 HR1 HB1 hp hq hk hf hs
  go_upto_region 3 with fail
  refine wp_region_inv (fun listed act u => RF15t w w2 w.heap.size   pv wv kv fv sv u listed act) (by kernel_rfl) ?hlt ?hsz ?h0 ?hstep ?hdone
  case h0 =>
    exact ⟨false, false, false, false, false, false, false, false, false, false, false, false, false, false, false, false, false, false, false, false, false, _, _, _, _, _, _, _, _, _, _, _, _, _, _, _, _, _, _, _, _, _, _, _, _, _, _, _, _, _, _, _, _, _, _, (by intro h; cases h), (by intro h; cases h), (by intro h; cases h), (by intro h; cases h), (by intro h; cases h), (by intro h; cases h), (by intro h; cases h), (by intro h; cases h), (by intro h; cases h), (by intro h; cases h), (by intro h; cases h), (by intro h; cases h), (by intro h; cases h), (by intro h; cases h), (by intro h; cases h), (by intro h; cases h), (by intro h; cases h), (by intro h; cases h), (by intro h; cases h), (by intro h; cases h), (by intro h; cases h), HM0.out, G0.out⟩
  case hstep =>
    intro listed act u i o hR ho hl hd
    obtain ⟨l0, l1, l2, l3, l4, l5, l6, l7, l8, l9, l10, l11, l12, l13, l14, l15, l16, l17, l18, l19, l20, v2, v3, v4, v5, v6, v7, v24, v25, v26, v27, v28, v29, v30, v31, v32, v33, v34, v35, v36, v37, v38, p0, p1, p14, p15, p16, p17, p18, p19, p20, p21, p22, p23, M, c0, c1, c2, c3, c4, c5, c6, c7, c8, c9, c10, c11, c12, c13, c14, c15, c16, c17, c18, c19, c20, hM, G⟩ := hR
    have hi : i < 21 := by rcases Nat.lt_or_ge i 21 with h | h; exact h; rw [Array.getElem?_eq_none (by simpa using h)] at ho; cases ho
    have hi2 : i = 0 ∨ i = 1 ∨ i = 2 ∨ i = 3 ∨ i = 4 ∨ i = 5 ∨ i = 6 ∨ i = 7 ∨ i = 8 ∨ i = 9 ∨ i = 10 ∨ i = 11 ∨ i = 12 ∨ i = 13 ∨ i = 14 ∨ i = 15 ∨ i = 16 ∨ i = 17 ∨ i = 18 ∨ i = 19 ∨ i = 20 := by omega
    rcases hi2 with rfl | rfl | rfl | rfl | rfl | rfl | rfl | rfl | rfl | rfl | rfl | rfl | rfl | rfl | rfl | rfl | rfl | rfl | rfl | rfl | rfl
    all_goals (cases ho)
    · skip
      refine wpOp_step rfl (fun K hK => ?_)
      go_simp
      refine hK _ _ ?_
      exact ⟨true, l1, l2, l3, l4, l5, l6, l7, l8, l9, l10, l11, l12, l13, l14, l15, l16, l17, l18, l19, l20, _, _, _, _, _, _, _, _, _, _, _, _, _, _, _, _, _, _, _, _, _, _, _, _, _, _, _, _, _, _, _, _, _, M, fun _ => rfl, c1, c2, c3, c4, c5, c6, c7, c8, c9, c10, c11, c12, c13, c14, c15, c16, c17, c18, c19, c20, hM, G⟩
    · skip
      refine wpOp_step rfl (fun K hK => ?_)
      go_simp
      refine hK _ _ ?_
      exact ⟨l0, true, l2, l3, l4, l5, l6, l7, l8, l9, l10, l11, l12, l13, l14, l15, l16, l17, l18, l19, l20, _, _, _, _, _, _, _, _, _, _, _, _, _, _, _, _, _, _, _, _, _, _, _, _, _, _, _, _, _, _, _, _, _, M, c0, fun _ => rfl, c2, c3, c4, c5, c6, c7, c8, c9, c10, c11, c12, c13, c14, c15, c16, c17, c18, c19, c20, hM, G⟩
    · skip
      refine wpOp_step rfl (fun K hK => ?_)
      go_simp
      refine hK _ _ ?_
      exact ⟨l0, l1, true, l3, l4, l5, l6, l7, l8, l9, l10, l11, l12, l13, l14, l15, l16, l17, l18, l19, l20, _, _, _, _, _, _, _, _, _, _, _, _, _, _, _, _, _, _, _, _, _, _, _, _, _, _, _, _, _, _, _, _, _, M, c0, c1, fun _ => rfl, c3, c4, c5, c6, c7, c8, c9, c10, c11, c12, c13, c14, c15, c16, c17, c18, c19, c20, hM, G⟩
    · skip
      refine wpOp_step rfl (fun K hK => ?_)
      go_simp
      refine hK _ _ ?_
      exact ⟨l0, l1, l2, true, l4, l5, l6, l7, l8, l9, l10, l11, l12, l13, l14, l15, l16, l17, l18, l19, l20, _, _, _, _, _, _, _, _, _, _, _, _, _, _, _, _, _, _, _, _, _, _, _, _, _, _, _, _, _, _, _, _, _, M, c0, c1, c2, fun _ => rfl, c4, c5, c6, c7, c8, c9, c10, c11, c12, c13, c14, c15, c16, c17, c18, c19, c20, hM, G⟩
    · skip
      refine wpOp_step rfl (fun K hK => ?_)
      go_simp
      refine hK _ _ ?_
      exact ⟨l0, l1, l2, l3, true, l5, l6, l7, l8, l9, l10, l11, l12, l13, l14, l15, l16, l17, l18, l19, l20, _, _, _, _, _, _, _, _, _, _, _, _, _, _, _, _, _, _, _, _, _, _, _, _, _, _, _, _, _, _, _, _, _, M, c0, c1, c2, c3, fun _ => rfl, c5, c6, c7, c8, c9, c10, c11, c12, c13, c14, c15, c16, c17, c18, c19, c20, hM, G⟩
    · skip
      refine wpOp_step rfl (fun K hK => ?_)
      go_simp
      refine hK _ _ ?_
      exact ⟨l0, l1, l2, l3, l4, true, l6, l7, l8, l9, l10, l11, l12, l13, l14, l15, l16, l17, l18, l19, l20, _, _, _, _, _, _, _, _, _, _, _, _, _, _, _, _, _, _, _, _, _, _, _, _, _, _, _, _, _, _, _, _, _, M, c0, c1, c2, c3, c4, fun _ => rfl, c6, c7, c8, c9, c10, c11, c12, c13, c14, c15, c16, c17, c18, c19, c20, hM, G⟩
    · obtain rfl := c5 (hd { on := 5, ground := Ground.data } (by simp) rfl)
      have e6 : l6 = false := hl
      subst e6
      refine wpOp_step rfl (fun K hK => ?_)
      go_simp
      refine (gpick 40 (by omega) G (by omega)).mono ?_
      rintro e u' ⟨xk, h0, h1, rfl, G', KA, hg⟩
      refine hK _ _ ?_
      exact ⟨l0, l1, l2, l3, l4, l5, true, l7, l8, l9, l10, l11, l12, l13, l14, l15, l16, l17, l18, l19, l20, _, _, _, _, _, _, _, _, _, _, _, _, _, _, _, _, _, _, _, _, _, _, _, _, _, _, _, _, _, _, _, _, _, (M + 1), c0, c1, c2, c3, c4, c5, fun _ => ⟨xk, rfl, h0, by omega⟩, fun h => (c7 h).keep KA, fun h => (c8 h).keep KA, c9, c10, fun h => (c11 h).keep KA, c12, fun h => (c13 h).keep KA, c14, c15, c16, c17, c18, c19, c20, by simp only [Bool.false_eq_true, if_false, if_true] at hM ⊢; omega, G'⟩
    · have hlt := G.rd.lt
      obtain ⟨q0, rfl, q00, q01⟩ := (c6 (hd { on := 6, ground := Ground.data } (by simp) rfl)).any
      have HA := Lib.hid (GArr.new (r := w.heap.size) u [q0, 401, (-1)] [.int .i64 q0, .int .i64 401, .int .i64 (-1)] rfl 3 hlt)
      refine wpOp_step rfl (fun K hK => ?_)
      go_simp
      refine hK _ _ ?_
      exact ⟨l0, l1, l2, l3, l4, l5, l6, true, l8, l9, l10, l11, l12, l13, l14, l15, l16, l17, l18, l19, l20, _, _, _, _, _, _, _, _, _, _, _, _, _, _, _, _, _, _, _, _, _, _, _, _, _, _, _, _, _, _, _, _, _, M, c0, c1, c2, c3, c4, c5, c6, fun _ => ⟨_, [q0, 401, (-1)], rfl, rfl, by intro z hz; simp at hz; omega, HA.out⟩, fun h => (c8 h).keep (GKeeps.alloc w.heap.size u _), c9, c10, fun h => (c11 h).keep (GKeeps.alloc w.heap.size u _), c12, fun h => (c13 h).keep (GKeeps.alloc w.heap.size u _), c14, c15, c16, c17, c18, c19, c20, hM, G.next (below_box u _)⟩
    · have hlt := G.rd.lt
      have HA := Lib.hid (GArr.new (r := w.heap.size) u [0, 0, 0, 0, 1, 2] [.int .i64 0, .int .i64 0, .int .i64 0, .int .i64 0, .int .i64 1, .int .i64 2] rfl 3 hlt)
      refine wpOp_step rfl (fun K hK => ?_)
      go_simp
      refine hK _ _ ?_
      exact ⟨l0, l1, l2, l3, l4, l5, l6, l7, true, l9, l10, l11, l12, l13, l14, l15, l16, l17, l18, l19, l20, _, _, _, _, _, _, _, _, _, _, _, _, _, _, _, _, _, _, _, _, _, _, _, _, _, _, _, _, _, _, _, _, _, M, c0, c1, c2, c3, c4, c5, c6, fun h => (c7 h).keep (GKeeps.alloc w.heap.size u _), fun _ => ⟨_, [0, 0, 0, 0, 1, 2], rfl, rfl, by intro z hz; simp at hz; omega, HA.out⟩, c9, c10, fun h => (c11 h).keep (GKeeps.alloc w.heap.size u _), c12, fun h => (c13 h).keep (GKeeps.alloc w.heap.size u _), c14, c15, c16, c17, c18, c19, c20, hM, G.next (below_box u _)⟩
    · skip
      refine wpOp_step rfl (fun K hK => ?_)
      go_simp
      refine hK _ _ ?_
      exact ⟨l0, l1, l2, l3, l4, l5, l6, l7, l8, true, l10, l11, l12, l13, l14, l15, l16, l17, l18, l19, l20, _, _, _, _, _, _, _, _, _, _, _, _, _, _, _, _, _, _, _, _, _, _, _, _, _, _, _, _, _, _, _, _, _, M, c0, c1, c2, c3, c4, c5, c6, c7, c8, fun _ => rfl, c10, c11, c12, c13, c14, c15, c16, c17, c18, c19, c20, hM, G⟩
    · obtain rfl := c9 (hd { on := 9, ground := Ground.data } (by simp) rfl)
      have e10 : l10 = false := hl
      subst e10
      refine wpOp_step rfl (fun K hK => ?_)
      go_simp
      refine (gpick 6 (by omega) G (by omega)).mono ?_
      rintro e u' ⟨xk, h0, h1, rfl, G', KA, hg⟩
      refine hK _ _ ?_
      exact ⟨l0, l1, l2, l3, l4, l5, l6, l7, l8, l9, true, l11, l12, l13, l14, l15, l16, l17, l18, l19, l20, _, _, _, _, _, _, _, _, _, _, _, _, _, _, _, _, _, _, _, _, _, _, _, _, _, _, _, _, _, _, _, _, _, (M + 1), c0, c1, c2, c3, c4, c5, c6, fun h => (c7 h).keep KA, fun h => (c8 h).keep KA, c9, fun _ => ⟨xk, rfl, h0, by omega⟩, fun h => (c11 h).keep KA, c12, fun h => (c13 h).keep KA, c14, c15, c16, c17, c18, c19, c20, by simp only [Bool.false_eq_true, if_false, if_true] at hM ⊢; omega, G'⟩
    · obtain ⟨b, rfl, hx⟩ := (c8 (hd { on := 8, ground := Ground.data } (by simp) rfl)).index
      obtain ⟨xk, rfl, x0, x1⟩ := (c10 (hd { on := 10, ground := Ground.data } (by simp) rfl)).any
      have x2 : xk < 6 := by omega
      have HX := Lib.hid (hx xk x0 (by omega))
      refine wpOp_step rfl (fun K hK => ?_)
      go_simp
      refine hK _ _ ?_
      exact ⟨l0, l1, l2, l3, l4, l5, l6, l7, l8, l9, l10, true, l12, l13, l14, l15, l16, l17, l18, l19, l20, _, _, _, _, _, _, _, _, _, _, _, _, _, _, _, _, _, _, _, _, _, _, _, _, _, _, _, _, _, _, _, _, _, M, c0, c1, c2, c3, c4, c5, c6, c7, c8, c9, c10, fun _ => HX.out, c12, c13, c14, c15, c16, c17, c18, c19, c20, hM, G⟩
    · obtain ⟨b, k, z, rfl, ck, k0, k1⟩ := (c11 (hd { on := 11, ground := Ground.data } (by simp) rfl)).load
      refine wpOp_step rfl (fun K hK => ?_)
      go_simp
      refine hK _ _ ?_
      exact ⟨l0, l1, l2, l3, l4, l5, l6, l7, l8, l9, l10, l11, true, l13, l14, l15, l16, l17, l18, l19, l20, _, _, _, _, _, _, _, _, _, _, _, _, _, _, _, _, _, _, _, _, _, _, _, _, _, _, _, _, _, _, _, _, _, M, c0, c1, c2, c3, c4, c5, c6, c7, c8, c9, c10, c11, fun _ => ⟨z, rfl, k0, k1⟩, c13, c14, c15, c16, c17, c18, c19, c20, hM, G⟩
    · obtain ⟨b, rfl, hx⟩ := (c7 (hd { on := 7, ground := Ground.data } (by simp) rfl)).index
      obtain ⟨xk, rfl, x0, x1⟩ := (c12 (hd { on := 12, ground := Ground.data } (by simp) rfl)).any
      have x2 : xk < 3 := by omega
      have HX := Lib.hid (hx xk x0 (by omega))
      refine wpOp_step rfl (fun K hK => ?_)
      go_simp
      refine hK _ _ ?_
      exact ⟨l0, l1, l2, l3, l4, l5, l6, l7, l8, l9, l10, l11, l12, true, l14, l15, l16, l17, l18, l19, l20, _, _, _, _, _, _, _, _, _, _, _, _, _, _, _, _, _, _, _, _, _, _, _, _, _, _, _, _, _, _, _, _, _, M, c0, c1, c2, c3, c4, c5, c6, c7, c8, c9, c10, c11, c12, fun _ => HX.out, c14, c15, c16, c17, c18, c19, c20, hM, G⟩
    · obtain ⟨b, k, z, rfl, ck, k0, k1⟩ := (c13 (hd { on := 13, ground := Ground.data } (by simp) rfl)).load
      refine wpOp_step rfl (fun K hK => ?_)
      go_simp
      refine hK _ _ ?_
      exact ⟨l0, l1, l2, l3, l4, l5, l6, l7, l8, l9, l10, l11, l12, l13, true, l15, l16, l17, l18, l19, l20, _, _, _, _, _, _, _, _, _, _, _, _, _, _, _, _, _, _, _, _, _, _, _, _, _, _, _, _, _, _, _, _, _, M, c0, c1, c2, c3, c4, c5, c6, c7, c8, c9, c10, c11, c12, c13, fun _ => ⟨z, rfl, k0, k1⟩, c15, c16, c17, c18, c19, c20, hM, G⟩
    · obtain rfl := c0 (hd { on := 0, ground := Ground.data } (by simp) rfl)
      refine wpOp_step rfl (fun K hK => ?_)
      go_simp
      refine hK _ _ ?_
      exact ⟨l0, l1, l2, l3, l4, l5, l6, l7, l8, l9, l10, l11, l12, l13, l14, true, l16, l17, l18, l19, l20, _, _, _, _, _, _, _, _, _, _, _, _, _, _, _, _, _, _, _, _, _, _, _, _, _, _, _, _, _, _, _, _, _, M, c0, c1, c2, c3, c4, c5, c6, c7, c8, c9, c10, c11, c12, c13, c14, fun _ => rfl, c16, c17, c18, c19, c20, hM, G⟩
    · obtain rfl := c1 (hd { on := 1, ground := Ground.data } (by simp) rfl)
      refine wpOp_step rfl (fun K hK => ?_)
      go_simp
      refine hK _ _ ?_
      exact ⟨l0, l1, l2, l3, l4, l5, l6, l7, l8, l9, l10, l11, l12, l13, l14, l15, true, l17, l18, l19, l20, _, _, _, _, _, _, _, _, _, _, _, _, _, _, _, _, _, _, _, _, _, _, _, _, _, _, _, _, _, _, _, _, _, M, c0, c1, c2, c3, c4, c5, c6, c7, c8, c9, c10, c11, c12, c13, c14, c15, fun _ => rfl, c17, c18, c19, c20, hM, G⟩
    · obtain rfl := c2 (hd { on := 2, ground := Ground.data } (by simp) rfl)
      refine wpOp_step rfl (fun K hK => ?_)
      go_simp
      refine hK _ _ ?_
      exact ⟨l0, l1, l2, l3, l4, l5, l6, l7, l8, l9, l10, l11, l12, l13, l14, l15, l16, true, l18, l19, l20, _, _, _, _, _, _, _, _, _, _, _, _, _, _, _, _, _, _, _, _, _, _, _, _, _, _, _, _, _, _, _, _, _, M, c0, c1, c2, c3, c4, c5, c6, c7, c8, c9, c10, c11, c12, c13, c14, c15, c16, fun _ => rfl, c18, c19, c20, hM, G⟩
    · obtain rfl := c3 (hd { on := 3, ground := Ground.data } (by simp) rfl)
      refine wpOp_step rfl (fun K hK => ?_)
      go_simp
      refine hK _ _ ?_
      exact ⟨l0, l1, l2, l3, l4, l5, l6, l7, l8, l9, l10, l11, l12, l13, l14, l15, l16, l17, true, l19, l20, _, _, _, _, _, _, _, _, _, _, _, _, _, _, _, _, _, _, _, _, _, _, _, _, _, _, _, _, _, _, _, _, _, M, c0, c1, c2, c3, c4, c5, c6, c7, c8, c9, c10, c11, c12, c13, c14, c15, c16, c17, fun _ => rfl, c19, c20, hM, G⟩
    · obtain rfl := c4 (hd { on := 4, ground := Ground.data } (by simp) rfl)
      refine wpOp_step rfl (fun K hK => ?_)
      go_simp
      refine hK _ _ ?_
      exact ⟨l0, l1, l2, l3, l4, l5, l6, l7, l8, l9, l10, l11, l12, l13, l14, l15, l16, l17, l18, true, l20, _, _, _, _, _, _, _, _, _, _, _, _, _, _, _, _, _, _, _, _, _, _, _, _, _, _, _, _, _, _, _, _, _, M, c0, c1, c2, c3, c4, c5, c6, c7, c8, c9, c10, c11, c12, c13, c14, c15, c16, c17, c18, fun _ => rfl, c20, hM, G⟩
    · obtain ⟨x, rfl, h0, h1⟩ := (c14 (hd { on := 14, ground := Ground.data } (by simp) rfl)).any
      refine wpOp_step rfl (fun K hK => ?_)
      go_simp
      refine hK _ _ ?_
      exact ⟨l0, l1, l2, l3, l4, l5, l6, l7, l8, l9, l10, l11, l12, l13, l14, l15, l16, l17, l18, l19, true, _, _, _, _, _, _, _, _, _, _, _, _, _, _, _, _, _, _, _, _, _, _, _, _, _, _, _, _, _, _, _, _, _, M, c0, c1, c2, c3, c4, c5, c6, c7, c8, c9, c10, c11, c12, c13, c14, c15, c16, c17, c18, c19, fun _ => ⟨x, rfl, h0, h1⟩, hM, G⟩
  case hlt => exact backB_spec (by kernel_rfl)
  case hsz => exact fun listed a u h => h.size
  case hdone =>
    intro listed act u hR hall
    obtain ⟨l0, l1, l2, l3, l4, l5, l6, l7, l8, l9, l10, l11, l12, l13, l14, l15, l16, l17, l18, l19, l20, v2, v3, v4, v5, v6, v7, v24, v25, v26, v27, v28, v29, v30, v31, v32, v33, v34, v35, v36, v37, v38, p0, p1, p14, p15, p16, p17, p18, p19, p20, p21, p22, p23, M1, c0, c1, c2, c3, c4, c5, c6, c7, c8, c9, c10, c11, c12, c13, c14, c15, c16, c17, c18, c19, c20, hM, G⟩ := hR
    obtain rfl := c15 (hall 15 (by decide))
    obtain rfl := c16 (hall 16 (by decide))
    obtain rfl := c17 (hall 17 (by decide))
    obtain rfl := c18 (hall 18 (by decide))
    obtain rfl := c19 (hall 19 (by decide))
    obtain ⟨n9, rfl, n90, n91⟩ := (c20 (hall 20 (by decide))).any
    have HO := Lib.hid G.old
    clear c0 c1 c2 c3 c4 c5 c6 c7 c8 c9 c10 c11 c12 c13 c14 c15 c16 c17 c18 c19 c20 hall G
    go_wp2
    exact bodyPost_ret (v := .tuple #[.int .i64 pv, .int .i64 wv, .int .i64 kv, .int .i64 fv, .int .i64 sv, .int .i64 n9]) (by simp [results, Try.results16, go_sem]) rfl ⟨pv, wv, kv, fv, sv, n9, HHP.out, HHQ.out, HHK.out, HHF.out, HHS.out, ⟨n90, n91⟩, rfl, HO.out⟩
end Go.Proofs.Ytdjihdnnjkbjbaa
