/- The draw of a cell of a table. -/
import Derived.Test.YtkogoflcacameaaTb11
namespace Go.Proofs.Ytkogoflcacameaa
set_option maxRecDepth 100000
open Go.RowKit
attribute [local go_sem ↓] Go.wp_at_zero Go.wp_at_succ
/-- What holds when the operations of 'listed' have come up. -/
inductive RFCell (w w0 : World) (r R1 : Nat) (b : Nat) (za : Option Addr) (sl sc zl zc M0 : Nat) (u : World) : Array Bool → Act → Prop
  | mk (l0 l1 l2 l3 l4 l5 l6 l7 l8 l9 l10 l11 l12 l13 l14 l15 l16 l17 l18 l19 : Bool) (v5 v6 v7 v8 v9 v10 v11 v12 v13 v14 v15 v16 v17 v18 v19 v20 v21 v22 v23 p2 p3 : Value) (M : Nat) (xR1 yR1 : Int)
    (c0 : l0 = true → v5 = .pointer (some ⟨r, 0, none⟩)) (c1 : l1 = true → v6 = .slice (some ⟨b, 0, none⟩) sl sc) (c2 : l2 = true → v7 = .int .i64 (sl : Int)) (c3 : l3 = true → v8 = .pointer (some ⟨r, 0, none⟩)) (c4 : l4 = true → CI 0 15 v9) (c5 : l5 = true → CI (0) (1) v10) (c6 : l6 = true → CI 1 7 v11) (c7 : l7 = true → CI 0 6 v12) (c8 : l8 = true → v13 = .pointer (some ⟨r, 0, none⟩)) (c9 : l9 = true → CI 0 15 v14) (c10 : l10 = true → CI (0) (1) v15) (c11 : l11 = true → CI (-1) 6 v16) (c12 : l12 = true → v17 = .pointer (some ⟨r, 0, none⟩)) (c13 : l13 = true → v18 = .slice (some ⟨b, 0, none⟩) sl sc) (c14 : l14 = true → v19 = .pointer (some ⟨b, 0, none⟩)) (c15 : l15 = true → v20 = .slice za zl zc) (c16 : l16 = true → v21 = .int .i64 (zl : Int)) (c17 : l17 = true → CI 0 6 v22) (c18 : l18 = true → ∃ qx qy : Int, v23 = pt qx qy ∧ (-1 ≤ qx ∧ qx ≤ 6 ∧ 0 ≤ qy ∧ qy ≤ 6)) (c19 : l19 = true → -1 ≤ xR1 ∧ xR1 ≤ 6 ∧ 0 ≤ yR1 ∧ yR1 ≤ 6)
    (hM : M + ((if l4 then 0 else 1) + (if l7 then 0 else 1) + (if l9 then 0 else 1) + (if l17 then 0 else 1)) ≤ M0 + 4) (G : GSt w w0 r [R1] M u) (oR1 : OwnP u R1 xR1 yR1) : RFCell w w0 r R1  b za sl sc zl zc M0 u #[l0, l1, l2, l3, l4, l5, l6, l7, l8, l9, l10, l11, l12, l13, l14, l15, l16, l17, l18, l19] { tmps := #[.pointer (some ⟨r, 0, none⟩), .slice (some ⟨b, 0, none⟩) sl sc, p2, p3, .pointer (some ⟨R1, 0, none⟩), v5, v6, v7, v8, v9, v10, v11, v12, v13, v14, v15, v16, v17, v18, v19, v20, v21, v22, v23], defers := [] }
theorem RFCell.size {w w0 : World} {r R1 : Nat} {b : Nat} {za : Option Addr} {sl sc zl zc M0 : Nat} {u : World} {listed : Array Bool} {a : Act} (h : RFCell w w0 r R1  b za sl sc zl zc M0 u listed a) : listed.size = 20 := by cases h; rfl
/-- What the draw of a cell says. -/
def GotC (B M r : Nat) (w : World) (e : Ending) (w' : World) : Prop :=
  ∃ c : C2, (-1 ≤ c.1 ∧ c.1 ≤ 6 ∧ 0 ≤ c.2 ∧ c.2 ≤ 6) ∧ e = .returned (pt c.1 c.2) ∧ Rd B M w' r ∧ w.grownBy w' (some r)
/-- From the draw's state to what has grown. -/
theorem GSt.grownR {W w u : World} {r M : Nat} {o : Obj} (h : GSt W (w.alloc o) r [w.heap.size] M u) (hW : Below W.heap.size W w) : w.grownBy u (some r) :=
  ⟨h.old.os.trans hW.os.symm, h.old.tape.trans hW.tape.symm, h.old.output.trans hW.output.symm, Nat.le_trans (by simp) h.size, fun i hi hne =>
    (h.keep i (by simp; omega) (by simpa using hne) (by simp; omega)).trans ((below_box w o).block i hi)⟩
set_option maxHeartbeats 8000000 in
theorem drawCell (W w : World) (M r base : Nat) (s : Sl) (T : List (List Bool)) (hr : Rd W.heap.size M w r) (hW : Below W.heap.size W w) (hM : M ≤ 900000) (hF : TabF w base s T) (hb : r < base) (h1 : 1 ≤ T.length ∧ T.length ≤ 6) (h2 : 1 ≤ (T.getD 0 []).length ∧ (T.getD 0 []).length ≤ 7) :
    Calls Try.prog 42 #[.pointer (some ⟨r, 0, none⟩), .slice s.a s.len s.cap] w (GotC W.heap.size (M + 4) r w) := by
  obtain ⟨hlen, b, ss, ha, hB, hlt, hc, hrow⟩ := hF
  obtain ⟨sa, sl, sc⟩ := s
  simp only at hlen ha
  subst ha
  obtain ⟨⟨za, zl, zc⟩, hz⟩ : ∃ z, ss.getD 0 dS = z := ⟨_, rfl⟩
  have c0 := hc 0 (by omega)
  have hzl := (hrow 0 (by omega)).1
  rw [hz] at c0 hzl
  simp only at hzl
  have HC := Lib.hid (fun (K : Nat) (u : World) (G : GSt W (w.alloc (.cells #[.int .i64 0, .int .i64 0] 33)) r [w.heap.size] K u) => show u.cell? ⟨b, 0, none⟩ = some (.slice za zl zc) from
    (World.cell?_of_block (a := ⟨b, 0, none⟩) ((G.keep b (by simp; omega) (by omega) (by simp; omega)).trans ((below_box w _).block b hlt))).trans c0)
  have hsl : 1 ≤ sl ∧ sl ≤ 6 := by omega
  have hzl2 : 1 ≤ zl ∧ zl ≤ 7 := by omega
  have hs0 : 0 < sl := hsl.1
  have hrw := hr.lt
  have gR1 : W.heap.size ≤ w.heap.size := hW.size
  have G0 := Lib.hid ((GSt.start (rs := [w.heap.size]) (hr.alloc (.cells #[.int .i64 0, .int .i64 0] 33)) (below_call hW (below_box w (.cells #[.int .i64 0, .int .i64 0] 33)))).drew)
  have oR10 := Lib.hid ((OwnP.box w 0 0 33).next (below_drew' _))
  have HM0 := Lib.hid (show M + ((if false then 0 else 1) + (if false then 0 else 1) + (if false then 0 else 1) + (if false then 0 else 1)) ≤ M + 4 by simp)
  clear hc hrow hz hlen c0 hzl hr h1 h2
  go_enter Try.func42, Try.ntmps42
  go_upto_region 1 with fail
  generalize hw0 : w.alloc (.cells #[.int .i64 0, .int .i64 0] 33) = w0 at *
  replace hw0 := Lib.hid hw0
  refine wp_region_inv (fun listed act u => RFCell W w0 r w.heap.size  b za sl sc zl zc M u listed act) (by kernel_rfl) ?hlt ?hsz ?h0 ?hstep ?hdone
  case h0 =>
    exact ⟨false, false, false, false, false, false, false, false, false, false, false, false, false, false, false, false, false, false, false, false, _, _, _, _, _, _, _, _, _, _, _, _, _, _, _, _, _, _, _, _, _, _, _, _, (by intro h; cases h), (by intro h; cases h), (by intro h; cases h), (by intro h; cases h), (by intro h; cases h), (by intro h; cases h), (by intro h; cases h), (by intro h; cases h), (by intro h; cases h), (by intro h; cases h), (by intro h; cases h), (by intro h; cases h), (by intro h; cases h), (by intro h; cases h), (by intro h; cases h), (by intro h; cases h), (by intro h; cases h), (by intro h; cases h), (by intro h; cases h), (by intro h; cases h), HM0.out, G0.out, oR10.out⟩
  case hstep =>
    intro listed act u i o hR ho hl hd
    obtain ⟨l0, l1, l2, l3, l4, l5, l6, l7, l8, l9, l10, l11, l12, l13, l14, l15, l16, l17, l18, l19, v5, v6, v7, v8, v9, v10, v11, v12, v13, v14, v15, v16, v17, v18, v19, v20, v21, v22, v23, p2, p3, M, xR1, yR1, c0, c1, c2, c3, c4, c5, c6, c7, c8, c9, c10, c11, c12, c13, c14, c15, c16, c17, c18, c19, hM, G, oR1⟩ := hR
    have hi : i < 20 := by rcases Nat.lt_or_ge i 20 with h | h; exact h; rw [Array.getElem?_eq_none (by simpa using h)] at ho; cases ho
    have hi2 : i = 0 ∨ i = 1 ∨ i = 2 ∨ i = 3 ∨ i = 4 ∨ i = 5 ∨ i = 6 ∨ i = 7 ∨ i = 8 ∨ i = 9 ∨ i = 10 ∨ i = 11 ∨ i = 12 ∨ i = 13 ∨ i = 14 ∨ i = 15 ∨ i = 16 ∨ i = 17 ∨ i = 18 ∨ i = 19 := by omega
    rcases hi2 with rfl | rfl | rfl | rfl | rfl | rfl | rfl | rfl | rfl | rfl | rfl | rfl | rfl | rfl | rfl | rfl | rfl | rfl | rfl | rfl
    all_goals (cases ho)
    · skip
      refine wpOp_step rfl (fun K hK => ?_)
      go_simp
      refine hK _ _ ?_
      exact ⟨true, l1, l2, l3, l4, l5, l6, l7, l8, l9, l10, l11, l12, l13, l14, l15, l16, l17, l18, l19, _, _, _, _, _, _, _, _, _, _, _, _, _, _, _, _, _, _, _, _, _, M, xR1, yR1, fun _ => rfl, c1, c2, c3, c4, c5, c6, c7, c8, c9, c10, c11, c12, c13, c14, c15, c16, c17, c18, c19, hM, G, oR1⟩
    · skip
      refine wpOp_step rfl (fun K hK => ?_)
      go_simp
      refine hK _ _ ?_
      exact ⟨l0, true, l2, l3, l4, l5, l6, l7, l8, l9, l10, l11, l12, l13, l14, l15, l16, l17, l18, l19, _, _, _, _, _, _, _, _, _, _, _, _, _, _, _, _, _, _, _, _, _, M, xR1, yR1, c0, fun _ => rfl, c2, c3, c4, c5, c6, c7, c8, c9, c10, c11, c12, c13, c14, c15, c16, c17, c18, c19, hM, G, oR1⟩
    · obtain rfl := c1 (hd { on := 1, ground := Ground.data } (by simp) rfl)
      all_goals
        refine wpOp_step rfl (fun K hK => ?_)
        go_simp
        refine hK _ _ ?_
        exact ⟨l0, l1, true, l3, l4, l5, l6, l7, l8, l9, l10, l11, l12, l13, l14, l15, l16, l17, l18, l19, _, _, _, _, _, _, _, _, _, _, _, _, _, _, _, _, _, _, _, _, _, M, xR1, yR1, c0, c1, fun _ => rfl, c3, c4, c5, c6, c7, c8, c9, c10, c11, c12, c13, c14, c15, c16, c17, c18, c19, hM, G, oR1⟩
    · skip
      refine wpOp_step rfl (fun K hK => ?_)
      go_simp
      refine hK _ _ ?_
      exact ⟨l0, l1, l2, true, l4, l5, l6, l7, l8, l9, l10, l11, l12, l13, l14, l15, l16, l17, l18, l19, _, _, _, _, _, _, _, _, _, _, _, _, _, _, _, _, _, _, _, _, _, M, xR1, yR1, c0, c1, c2, fun _ => rfl, c4, c5, c6, c7, c8, c9, c10, c11, c12, c13, c14, c15, c16, c17, c18, c19, hM, G, oR1⟩
    · obtain rfl := c3 (hd { on := 3, ground := Ground.data } (by simp) rfl)
      have e4 : l4 = false := hl
      subst e4
      refine wpOp_step rfl (fun K hK => ?_)
      go_simp
      refine (gpick 16 (by omega) G (by omega)).mono ?_
      rintro e u' ⟨xk, h0, h1, rfl, G', KA, hg⟩
      refine hK _ _ ?_
      exact ⟨l0, l1, l2, l3, true, l5, l6, l7, l8, l9, l10, l11, l12, l13, l14, l15, l16, l17, l18, l19, _, _, _, _, _, _, _, _, _, _, _, _, _, _, _, _, _, _, _, _, _, (M + 1), xR1, yR1, c0, c1, c2, c3, fun _ => ⟨xk, rfl, h0, by omega⟩, c5, c6, c7, c8, c9, c10, c11, c12, c13, c14, c15, c16, c17, c18, c19, by simp only [Bool.false_eq_true, if_false, if_true] at hM ⊢; omega, G', oR1.grown hg (by omega)⟩
    · obtain ⟨x, rfl, h0, h1⟩ := (c4 (hd { on := 4, ground := Ground.data } (by simp) rfl)).any
      obtain ⟨q, hq⟩ : ∃ q, x.tdiv 15 = q := ⟨_, rfl⟩
      have q0 : 0 ≤ q := by rw [← hq, Int.tdiv_eq_ediv_of_nonneg (by omega)]; omega
      have q1 : q ≤ 1 := by rw [← hq, Int.tdiv_eq_ediv_of_nonneg (by omega)]; omega
      have ow : IntKind.i64.wrap q = q := wrap_in (by omega) (by omega)
      refine wpOp_step rfl (fun K hK => ?_)
      go_simp
      refine hK _ _ ?_
      exact ⟨l0, l1, l2, l3, l4, true, l6, l7, l8, l9, l10, l11, l12, l13, l14, l15, l16, l17, l18, l19, _, _, _, _, _, _, _, _, _, _, _, _, _, _, _, _, _, _, _, _, _, M, xR1, yR1, c0, c1, c2, c3, c4, fun _ => ⟨_, rfl, by omega, by omega⟩, c6, c7, c8, c9, c10, c11, c12, c13, c14, c15, c16, c17, c18, c19, hM, G, oR1⟩
    · obtain rfl := c2 (hd { on := 2, ground := Ground.data } (by simp) rfl)
      obtain ⟨x, rfl, h0, h1⟩ := (c5 (hd { on := 5, ground := Ground.data } (by simp) rfl)).any
      have ow : IntKind.i64.wrap ((sl : Int) + x) = (sl : Int) + x := wrap_in (by omega) (by omega)
      all_goals
        refine wpOp_step rfl (fun K hK => ?_)
        go_simp
        refine hK _ _ ?_
        exact ⟨l0, l1, l2, l3, l4, l5, true, l7, l8, l9, l10, l11, l12, l13, l14, l15, l16, l17, l18, l19, _, _, _, _, _, _, _, _, _, _, _, _, _, _, _, _, _, _, _, _, _, M, xR1, yR1, c0, c1, c2, c3, c4, c5, fun _ => ⟨_, rfl, by omega, by omega⟩, c7, c8, c9, c10, c11, c12, c13, c14, c15, c16, c17, c18, c19, hM, G, oR1⟩
    · obtain rfl := c0 (hd { on := 0, ground := Ground.data } (by simp) rfl)
      have e7 : l7 = false := hl
      subst e7
      obtain ⟨nn, rfl, n0, n1⟩ := (c6 (hd { on := 6, ground := Ground.data } (by simp) rfl)).any
      refine wpOp_step rfl (fun K hK => ?_)
      go_simp
      refine (gpick nn (by omega) G (by omega)).mono ?_
      rintro e u' ⟨xk, h0, h1, rfl, G', KA, hg⟩
      refine hK _ _ ?_
      exact ⟨l0, l1, l2, l3, l4, l5, l6, true, l8, l9, l10, l11, l12, l13, l14, l15, l16, l17, l18, l19, _, _, _, _, _, _, _, _, _, _, _, _, _, _, _, _, _, _, _, _, _, (M + 1), xR1, yR1, c0, c1, c2, c3, c4, c5, c6, fun _ => ⟨xk, rfl, h0, by omega⟩, c8, c9, c10, c11, c12, c13, c14, c15, c16, c17, c18, c19, by simp only [Bool.false_eq_true, if_false, if_true] at hM ⊢; omega, G', oR1.grown hg (by omega)⟩
    · skip
      refine wpOp_step rfl (fun K hK => ?_)
      go_simp
      refine hK _ _ ?_
      exact ⟨l0, l1, l2, l3, l4, l5, l6, l7, true, l9, l10, l11, l12, l13, l14, l15, l16, l17, l18, l19, _, _, _, _, _, _, _, _, _, _, _, _, _, _, _, _, _, _, _, _, _, M, xR1, yR1, c0, c1, c2, c3, c4, c5, c6, c7, fun _ => rfl, c9, c10, c11, c12, c13, c14, c15, c16, c17, c18, c19, hM, G, oR1⟩
    · obtain rfl := c8 (hd { on := 8, ground := Ground.data } (by simp) rfl)
      have e9 : l9 = false := hl
      subst e9
      refine wpOp_step rfl (fun K hK => ?_)
      go_simp
      refine (gpick 16 (by omega) G (by omega)).mono ?_
      rintro e u' ⟨xk, h0, h1, rfl, G', KA, hg⟩
      refine hK _ _ ?_
      exact ⟨l0, l1, l2, l3, l4, l5, l6, l7, l8, true, l10, l11, l12, l13, l14, l15, l16, l17, l18, l19, _, _, _, _, _, _, _, _, _, _, _, _, _, _, _, _, _, _, _, _, _, (M + 1), xR1, yR1, c0, c1, c2, c3, c4, c5, c6, c7, c8, fun _ => ⟨xk, rfl, h0, by omega⟩, c10, c11, c12, c13, c14, c15, c16, c17, c18, c19, by simp only [Bool.false_eq_true, if_false, if_true] at hM ⊢; omega, G', oR1.grown hg (by omega)⟩
    · obtain ⟨x, rfl, h0, h1⟩ := (c9 (hd { on := 9, ground := Ground.data } (by simp) rfl)).any
      obtain ⟨q, hq⟩ : ∃ q, x.tdiv 15 = q := ⟨_, rfl⟩
      have q0 : 0 ≤ q := by rw [← hq, Int.tdiv_eq_ediv_of_nonneg (by omega)]; omega
      have q1 : q ≤ 1 := by rw [← hq, Int.tdiv_eq_ediv_of_nonneg (by omega)]; omega
      have ow : IntKind.i64.wrap q = q := wrap_in (by omega) (by omega)
      refine wpOp_step rfl (fun K hK => ?_)
      go_simp
      refine hK _ _ ?_
      exact ⟨l0, l1, l2, l3, l4, l5, l6, l7, l8, l9, true, l11, l12, l13, l14, l15, l16, l17, l18, l19, _, _, _, _, _, _, _, _, _, _, _, _, _, _, _, _, _, _, _, _, _, M, xR1, yR1, c0, c1, c2, c3, c4, c5, c6, c7, c8, c9, fun _ => ⟨_, rfl, by omega, by omega⟩, c11, c12, c13, c14, c15, c16, c17, c18, c19, hM, G, oR1⟩
    · obtain ⟨x, rfl, h0, h1⟩ := (c7 (hd { on := 7, ground := Ground.data } (by simp) rfl)).any
      obtain ⟨y, rfl, k0, k1⟩ := (c10 (hd { on := 10, ground := Ground.data } (by simp) rfl)).any
      have ow : IntKind.i64.wrap (x - y) = x - y := wrap_in (by omega) (by omega)
      all_goals
        refine wpOp_step rfl (fun K hK => ?_)
        go_simp
        refine hK _ _ ?_
        exact ⟨l0, l1, l2, l3, l4, l5, l6, l7, l8, l9, l10, true, l12, l13, l14, l15, l16, l17, l18, l19, _, _, _, _, _, _, _, _, _, _, _, _, _, _, _, _, _, _, _, _, _, M, xR1, yR1, c0, c1, c2, c3, c4, c5, c6, c7, c8, c9, c10, fun _ => ⟨_, rfl, by omega, by omega⟩, c12, c13, c14, c15, c16, c17, c18, c19, hM, G, oR1⟩
    · skip
      refine wpOp_step rfl (fun K hK => ?_)
      go_simp
      refine hK _ _ ?_
      exact ⟨l0, l1, l2, l3, l4, l5, l6, l7, l8, l9, l10, l11, true, l13, l14, l15, l16, l17, l18, l19, _, _, _, _, _, _, _, _, _, _, _, _, _, _, _, _, _, _, _, _, _, M, xR1, yR1, c0, c1, c2, c3, c4, c5, c6, c7, c8, c9, c10, c11, fun _ => rfl, c13, c14, c15, c16, c17, c18, c19, hM, G, oR1⟩
    · skip
      refine wpOp_step rfl (fun K hK => ?_)
      go_simp
      refine hK _ _ ?_
      exact ⟨l0, l1, l2, l3, l4, l5, l6, l7, l8, l9, l10, l11, l12, true, l14, l15, l16, l17, l18, l19, _, _, _, _, _, _, _, _, _, _, _, _, _, _, _, _, _, _, _, _, _, M, xR1, yR1, c0, c1, c2, c3, c4, c5, c6, c7, c8, c9, c10, c11, c12, fun _ => rfl, c14, c15, c16, c17, c18, c19, hM, G, oR1⟩
    · obtain rfl := c13 (hd { on := 13, ground := Ground.data } (by simp) rfl)
      all_goals
        refine wpOp_step rfl (fun K hK => ?_)
        go_simp
        refine hK _ _ ?_
        exact ⟨l0, l1, l2, l3, l4, l5, l6, l7, l8, l9, l10, l11, l12, l13, true, l15, l16, l17, l18, l19, _, _, _, _, _, _, _, _, _, _, _, _, _, _, _, _, _, _, _, _, _, M, xR1, yR1, c0, c1, c2, c3, c4, c5, c6, c7, c8, c9, c10, c11, c12, c13, fun _ => rfl, c15, c16, c17, c18, c19, hM, G, oR1⟩
    · obtain rfl := c14 (hd { on := 14, ground := Ground.data } (by simp) rfl)
      have k0 := HC.out _ _ G
      all_goals
        refine wpOp_step rfl (fun K hK => ?_)
        go_simp
        refine hK _ _ ?_
        exact ⟨l0, l1, l2, l3, l4, l5, l6, l7, l8, l9, l10, l11, l12, l13, l14, true, l16, l17, l18, l19, _, _, _, _, _, _, _, _, _, _, _, _, _, _, _, _, _, _, _, _, _, M, xR1, yR1, c0, c1, c2, c3, c4, c5, c6, c7, c8, c9, c10, c11, c12, c13, c14, fun _ => rfl, c16, c17, c18, c19, hM, G, oR1⟩
    · obtain rfl := c15 (hd { on := 15, ground := Ground.data } (by simp) rfl)
      all_goals
        refine wpOp_step rfl (fun K hK => ?_)
        go_simp
        refine hK _ _ ?_
        exact ⟨l0, l1, l2, l3, l4, l5, l6, l7, l8, l9, l10, l11, l12, l13, l14, l15, true, l17, l18, l19, _, _, _, _, _, _, _, _, _, _, _, _, _, _, _, _, _, _, _, _, _, M, xR1, yR1, c0, c1, c2, c3, c4, c5, c6, c7, c8, c9, c10, c11, c12, c13, c14, c15, fun _ => rfl, c17, c18, c19, hM, G, oR1⟩
    · obtain rfl := c12 (hd { on := 12, ground := Ground.data } (by simp) rfl)
      have e17 : l17 = false := hl
      subst e17
      obtain rfl := c16 (hd { on := 16, ground := Ground.data } (by simp) rfl)
      refine wpOp_step rfl (fun K hK => ?_)
      go_simp
      refine (gpick (zl : Int) (by omega) G (by omega)).mono ?_
      rintro e u' ⟨xk, h0, h1, rfl, G', KA, hg⟩
      refine hK _ _ ?_
      exact ⟨l0, l1, l2, l3, l4, l5, l6, l7, l8, l9, l10, l11, l12, l13, l14, l15, l16, true, l18, l19, _, _, _, _, _, _, _, _, _, _, _, _, _, _, _, _, _, _, _, _, _, (M + 1), xR1, yR1, c0, c1, c2, c3, c4, c5, c6, c7, c8, c9, c10, c11, c12, c13, c14, c15, c16, fun _ => ⟨xk, rfl, h0, by omega⟩, c18, c19, by simp only [Bool.false_eq_true, if_false, if_true] at hM ⊢; omega, G', oR1.grown hg (by omega)⟩
    · obtain ⟨x, rfl, h0, h1⟩ := (c11 (hd { on := 11, ground := Ground.data } (by simp) rfl)).any
      obtain ⟨y, rfl, k0, k1⟩ := (c17 (hd { on := 17, ground := Ground.data } (by simp) rfl)).any
      all_goals
        refine wpOp_step rfl (fun K hK => ?_)
        go_simp
        refine hK _ _ ?_
        exact ⟨l0, l1, l2, l3, l4, l5, l6, l7, l8, l9, l10, l11, l12, l13, l14, l15, l16, l17, true, l19, _, _, _, _, _, _, _, _, _, _, _, _, _, _, _, _, _, _, _, _, _, M, xR1, yR1, c0, c1, c2, c3, c4, c5, c6, c7, c8, c9, c10, c11, c12, c13, c14, c15, c16, c17, fun _ => ⟨_, _, rfl, by omega⟩, c19, hM, G, oR1⟩
    · obtain ⟨qx, qy, rfl, hq⟩ := c18 (hd { on := 18, ground := Ground.data } (by simp) rfl)
      obtain ⟨⟨_, q0, q1⟩, y0, y1⟩ := id oR1
      have HG := Lib.hid (G.set2 (k := w.heap.size) (by simp) gR1 (by omega) (.int .i64 qx) (.int .i64 qy))
      refine wpOp_step rfl (fun K hK => ?_)
      go_simp
      refine hK _ _ ?_
      exact ⟨l0, l1, l2, l3, l4, l5, l6, l7, l8, l9, l10, l11, l12, l13, l14, l15, l16, l17, l18, true, _, _, _, _, _, _, _, _, _, _, _, _, _, _, _, _, _, _, _, _, _, M, qx, qy, c0, c1, c2, c3, c4, c5, c6, c7, c8, c9, c10, c11, c12, c13, c14, c15, c16, c17, c18, fun _ => hq, hM, HG.out, (oR1.put0 qx).put1 qy⟩
  case hlt => exact backB_spec (by kernel_rfl)
  case hsz => exact fun listed a u h => h.size
  case hdone =>
    intro listed act u hR hall
    obtain ⟨l0, l1, l2, l3, l4, l5, l6, l7, l8, l9, l10, l11, l12, l13, l14, l15, l16, l17, l18, l19, v5, v6, v7, v8, v9, v10, v11, v12, v13, v14, v15, v16, v17, v18, v19, v20, v21, v22, v23, p2, p3, M', xR1, yR1, c0, c1, c2, c3, c4, c5, c6, c7, c8, c9, c10, c11, c12, c13, c14, c15, c16, c17, c18, c19, hM, G, oR1⟩ := hR
    have hq := c19 (hall 19 (by decide))
    have HR := Lib.hid (G.rd.mono (show M' ≤ M + 4 by omega))
    have HG : Hid (w.grownBy u (some r)) := Lib.hid (by
      have G2 := G
      rw [← hw0.out] at G2
      exact G2.grownR hW)
    obtain ⟨⟨_, x0, x1⟩, _, _⟩ := id oR1
    clear c0 c1 c2 c3 c4 c5 c6 c7 c8 c9 c10 c11 c12 c13 c14 c15 c16 c17 c18 c19 hall G oR1
    go_wp2
    exact bodyPost_ret (v := pt xR1 yR1) (by simp [results, Try.results42, go_sem, x0, x1]) rfl ⟨(xR1, yR1), hq, rfl, HR.out, HG.out⟩
end Go.Proofs.Ytkogoflcacameaa
