/- What DrawLinePoints draws: two points and a number. -/
import Derived.Test.YtcoaahfnbgkofaaGst
import Derived.Test.YtcoaahfnbgkofaaDraw2b
import Derived.Test.YtcoaahfnbgkofaaRow6
namespace Go.Proofs.Ytcoaahfnbgkofaa
set_option maxRecDepth 100000
open Go.RowKit
attribute [local go_sem ↓] Go.wp_at_zero Go.wp_at_succ
/-- What holds when the operations of 'listed' have come up. -/
def RFLine (w w0 : World) (r R1 R2 V1 V2 : Nat) (ax ay bx b_y : Int) (listed : Array Bool) (a : Act) (u : World) : Prop :=
  ∃ (l0 l1 l2 l3 l4 l5 l6 l7 l8 l9 l10 l11 l12 l13 l14 l15 : Bool) (v4 v14 v15 v16 v17 v18 v19 v20 v21 v22 v23 v24 v25 v26 p0 p1 p8 p9 p10 p11 p12 p13 : Value) (M : Nat) (xR1 yR1 xR2 yR2 : Int), listed = #[l0, l1, l2, l3, l4, l5, l6, l7, l8, l9, l10, l11, l12, l13, l14, l15] ∧ a = { tmps := #[p0, p1, .pointer (some ⟨R1, 0, none⟩), .pointer (some ⟨R2, 0, none⟩), v4, .pointer (some ⟨r, 0, none⟩), .pointer (some ⟨V1, 0, none⟩), .pointer (some ⟨V2, 0, none⟩), p8, p9, p10, p11, p12, p13, v14, v15, v16, v17, v18, v19, v20, v21, v22, v23, v24, v25, v26], defers := [] } ∧
    (l0 = true → v14 = pt ax ay) ∧ (l1 = true → v15 = pt bx b_y) ∧ (l2 = true → v16 = .pointer (some ⟨r, 0, none⟩)) ∧ (l3 = true → CI 0 19 v17) ∧ (l4 = true → CI (1) (20) v18) ∧ (l5 = true → CA r u 4 (0) (401) v19) ∧ (l6 = true → CA r u 7 (0) (3) v20) ∧ (l7 = true → v21 = .pointer (some ⟨r, 0, none⟩)) ∧ (l8 = true → CI 0 6 v22) ∧ (l9 = true → CP r u (0) (3) v23) ∧ (l10 = true → CI (0) (3) v24) ∧ (l11 = true → CP r u (0) (401) v25) ∧ (l12 = true → CI (0) (401) v26) ∧ (l13 = true → xR1 = ax ∧ yR1 = ay) ∧ (l14 = true → xR2 = bx ∧ yR2 = b_y) ∧ (l15 = true → CI (0) (401) v4) ∧
    M + ((if l3 then 0 else 1) + (if l8 then 0 else 1)) ≤ 16 ∧ GSt w w0 r [R1, R2] M u ∧ OwnP u R1 xR1 yR1 ∧ OwnP u R2 xR2 yR2
/-- What the draw says. -/
def GotLine (w : World) (e : Ending) (w' : World) : Prop := ∃ ax ay bx b_y n : Int, e = .returned (.tuple #[pt ax ay, pt bx b_y, .int .i64 n]) ∧ 0 ≤ n ∧ n ≤ 401 ∧ Below w.heap.size w w'
set_option maxHeartbeats 16000000 in
theorem drawLinePoints (w : World) (a : Option Addr) (len cap : Nat) (zs : List Int) (h : Bytes w a len cap zs) :
    Calls Try.prog 20 #[.slice a len cap] w (GotLine w) := by
  have O0 := own2 w 38
  have H0 := Lib.hid (below_box2 w (.cells #[.int .i64 0, .int .i64 0] 38) (.cells #[.int .i64 0, .int .i64 0] 38))
  go_enter Try.func20, Try.ntmps20
  go_wp2_with fail
  refine (gopen w _ a len cap zs h H0.out (w.heap.size + 1 + 1) (by simp)).mono ?_
  rintro e w1 ⟨rfl, hr1, hb1⟩
  have O1 := Lib.hid (And.intro (O0.1.next hb1) (O0.2.next hb1))
  have H1 := Lib.hid (below_call H0.out hb1)
  clear O0 H0 hb1 h
  go_wp2_with fail
  refine (l20Point _ _ _ 12 _ hr1 (by omega) (by omega) (by omega)).mono ?_
  rintro e w2 ⟨ax, ay, p1, p2, p3, p4, rfl, hr2, hg2⟩
  have O2 := Lib.hid (And.intro (O1.out.1.grown hg2 (by omega)) (O1.out.2.grown hg2 (by omega)))
  have H2 := Lib.hid (H1.out.grown hg2 H1.out.size (fun q hq => by injection hq with hq; omega))
  have hlt2 := hr2.lt
  have P2 := AtP.box w2 ax ay 38
  have hr2b := hr2.alloc (.cells #[.int .i64 ax, .int .i64 ay] 38)
  replace O2 := Lib.hid (And.intro (O2.out.1.alloc (.cells #[.int .i64 ax, .int .i64 ay] 38)) (O2.out.2.alloc (.cells #[.int .i64 ax, .int .i64 ay] 38)))
  replace H2 := Lib.hid (below_call H2.out (below_box w2 (.cells #[.int .i64 ax, .int .i64 ay] 38)))
  obtain ⟨V1, hV1⟩ : ∃ V1, w2.heap.size = V1 := ⟨_, rfl⟩
  rw [hV1] at P2 hlt2
  clear hr1 hr2 hg2 O1 H1
  go_upto_region 3 with fail
  clear hV1
  generalize w2.alloc (.cells #[.int .i64 ax, .int .i64 ay] 38) = w2b at *
  go_wp2_with fail
  refine (l20Point _ _ _ 12 _ hr2b (by omega) (by omega) (by omega)).mono ?_
  rintro e w3 ⟨bx, b_y, p5, p6, p7, p8, rfl, hr3, hg3⟩
  have O3 := Lib.hid (And.intro (O2.out.1.grown hg3 (by omega)) (O2.out.2.grown hg3 (by omega)))
  have H3 := Lib.hid (H2.out.grown hg3 H2.out.size (fun q hq => by injection hq with hq; omega))
  have P3 : AtP w3 V1 ax ay := P2.row6 hg3 (by simp; omega)
  have hlt3 := hr3.lt
  have P4 := AtP.box w3 bx b_y 38
  have hl12 := P3.lt
  have hr3b := hr3.alloc (.cells #[.int .i64 bx, .int .i64 b_y] 38)
  replace P3 := P3.alloc (.cells #[.int .i64 bx, .int .i64 b_y] 38)
  replace O3 := Lib.hid (And.intro (O3.out.1.alloc (.cells #[.int .i64 bx, .int .i64 b_y] 38)) (O3.out.2.alloc (.cells #[.int .i64 bx, .int .i64 b_y] 38)))
  replace H3 := Lib.hid (below_call H3.out (below_box w3 (.cells #[.int .i64 bx, .int .i64 b_y] 38)))
  obtain ⟨V2, hV2⟩ : ∃ V2, w3.heap.size = V2 := ⟨_, rfl⟩
  rw [hV2] at P4 hlt3 hl12
  clear hr2b hr3 hg3 O2 H2 P2
  go_upto_region 4 with fail
  clear hV2
  generalize w3.alloc (.cells #[.int .i64 bx, .int .i64 b_y] 38) = w0 at *
  have hPV1 := P3
  have hPV2 := P4
  have nV1r : V1 ≠ w.heap.size + 1 + 1 := by omega
  have nV2r : V2 ≠ w.heap.size + 1 + 1 := by omega
  have nV1s : V1 ∉ [w.heap.size, w.heap.size + 1] := by simp; omega
  have nV2s : V2 ∉ [w.heap.size, w.heap.size + 1] := by simp; omega
  have gR1 : w.heap.size ≤ w.heap.size := Nat.le_refl _
  have gR2 : w.heap.size ≤ w.heap.size + 1 := by omega
  have lR1 : w.heap.size < w.heap.size + 1 + 1 := by omega
  have lR2 : w.heap.size + 1 < w.heap.size + 1 + 1 := by omega
  have nR1R2 : w.heap.size ≠ w.heap.size + 1 := by omega
  have nR2R1 : w.heap.size + 1 ≠ w.heap.size := by omega
  have G0 := Lib.hid ((GSt.start (rs := [w.heap.size, w.heap.size + 1]) hr3b H3.out).drew)
  have oR10 := Lib.hid (O3.out.1.next (below_drew' _))
  have oR20 := Lib.hid (O3.out.2.next (below_drew' _))
  have HM0 := Lib.hid (show 0 + 7 + 7 + ((if false then 0 else 1) + (if false then 0 else 1)) ≤ 16 by decide)
  clear O3 H3 hr3b P3 P4
  refine wp_region_inv (RFLine w w0 (w.heap.size + 1 + 1) w.heap.size (w.heap.size + 1) V1 V2 ax ay bx b_y) (by kernel_rfl) ?hlt ?hsz ?h0 ?hstep ?hdone
  case h0 =>
    exact ⟨false, false, false, false, false, false, false, false, false, false, false, false, false, false, false, false, _, _, _, _, _, _, _, _, _, _, _, _, _, _, _, _, _, _, _, _, _, _, _, _, _, _, _, rfl, rfl, (by intro h; cases h), (by intro h; cases h), (by intro h; cases h), (by intro h; cases h), (by intro h; cases h), (by intro h; cases h), (by intro h; cases h), (by intro h; cases h), (by intro h; cases h), (by intro h; cases h), (by intro h; cases h), (by intro h; cases h), (by intro h; cases h), (by intro h; cases h), (by intro h; cases h), (by intro h; cases h), HM0.out, G0.out, oR10.out, oR20.out⟩
  case hstep =>
    intro listed act u i o hR ho hl hd
    obtain ⟨l0, l1, l2, l3, l4, l5, l6, l7, l8, l9, l10, l11, l12, l13, l14, l15, v4, v14, v15, v16, v17, v18, v19, v20, v21, v22, v23, v24, v25, v26, p0, p1, p8, p9, p10, p11, p12, p13, M, xR1, yR1, xR2, yR2, rfl, rfl, c0, c1, c2, c3, c4, c5, c6, c7, c8, c9, c10, c11, c12, c13, c14, c15, hM, G, oR1, oR2⟩ := hR
    have hi : i < 16 := by rcases Nat.lt_or_ge i 16 with h | h; exact h; rw [Array.getElem?_eq_none (by simpa using h)] at ho; cases ho
    have hi2 : i = 0 ∨ i = 1 ∨ i = 2 ∨ i = 3 ∨ i = 4 ∨ i = 5 ∨ i = 6 ∨ i = 7 ∨ i = 8 ∨ i = 9 ∨ i = 10 ∨ i = 11 ∨ i = 12 ∨ i = 13 ∨ i = 14 ∨ i = 15 := by omega
    rcases hi2 with rfl | rfl | rfl | rfl | rfl | rfl | rfl | rfl | rfl | rfl | rfl | rfl | rfl | rfl | rfl | rfl
    all_goals (cases ho)
    · obtain ⟨_, k0, k1⟩ := G.atp hPV1 nV1r nV1s
      refine wpOp_step rfl (fun K hK => ?_)
      go_simp
      refine hK _ _ ?_
      exact ⟨true, l1, l2, l3, l4, l5, l6, l7, l8, l9, l10, l11, l12, l13, l14, l15, _, _, _, _, _, _, _, _, _, _, _, _, _, _, _, _, _, _, _, _, _, _, M, xR1, yR1, xR2, yR2, rfl, rfl, fun _ => rfl, c1, c2, c3, c4, c5, c6, c7, c8, c9, c10, c11, c12, c13, c14, c15, hM, G, oR1, oR2⟩
    · obtain ⟨_, k0, k1⟩ := G.atp hPV2 nV2r nV2s
      refine wpOp_step rfl (fun K hK => ?_)
      go_simp
      refine hK _ _ ?_
      exact ⟨l0, true, l2, l3, l4, l5, l6, l7, l8, l9, l10, l11, l12, l13, l14, l15, _, _, _, _, _, _, _, _, _, _, _, _, _, _, _, _, _, _, _, _, _, _, M, xR1, yR1, xR2, yR2, rfl, rfl, c0, fun _ => rfl, c2, c3, c4, c5, c6, c7, c8, c9, c10, c11, c12, c13, c14, c15, hM, G, oR1, oR2⟩
    · skip
      refine wpOp_step rfl (fun K hK => ?_)
      go_simp
      refine hK _ _ ?_
      exact ⟨l0, l1, true, l3, l4, l5, l6, l7, l8, l9, l10, l11, l12, l13, l14, l15, _, _, _, _, _, _, _, _, _, _, _, _, _, _, _, _, _, _, _, _, _, _, M, xR1, yR1, xR2, yR2, rfl, rfl, c0, c1, fun _ => rfl, c3, c4, c5, c6, c7, c8, c9, c10, c11, c12, c13, c14, c15, hM, G, oR1, oR2⟩
    · obtain rfl := c2 (hd { on := 2, ground := Ground.data } (by simp) rfl)
      have e3 : l3 = false := hl
      subst e3
      refine wpOp_step rfl (fun K hK => ?_)
      go_simp
      refine (gpick 20 (by omega) G (by omega)).mono ?_
      rintro e u' ⟨xk, h0, h1, rfl, G', KA, hg⟩
      refine hK _ _ ?_
      exact ⟨l0, l1, l2, true, l4, l5, l6, l7, l8, l9, l10, l11, l12, l13, l14, l15, _, _, _, _, _, _, _, _, _, _, _, _, _, _, _, _, _, _, _, _, _, _, (M + 1), xR1, yR1, xR2, yR2, rfl, rfl, c0, c1, c2, fun _ => ⟨xk, rfl, h0, by omega⟩, c4, fun h => (c5 h).keep KA, fun h => (c6 h).keep KA, c7, c8, fun h => (c9 h).keep KA, c10, fun h => (c11 h).keep KA, c12, c13, c14, c15, by simp only [Bool.false_eq_true, if_false, if_true] at hM ⊢; omega, G', oR1.grown hg (by omega), oR2.grown hg (by omega)⟩
    · obtain ⟨x, rfl, h0, h1⟩ := (c3 (hd { on := 3, ground := Ground.data } (by simp) rfl)).any
      have ow : IntKind.i64.wrap (1 + x) = 1 + x := wrap_in (by omega) (by omega)
      refine wpOp_step rfl (fun K hK => ?_)
      go_simp
      refine hK _ _ ?_
      exact ⟨l0, l1, l2, l3, true, l5, l6, l7, l8, l9, l10, l11, l12, l13, l14, l15, _, _, _, _, _, _, _, _, _, _, _, _, _, _, _, _, _, _, _, _, _, _, M, xR1, yR1, xR2, yR2, rfl, rfl, c0, c1, c2, c3, fun _ => ⟨_, rfl, by omega, by omega⟩, c5, c6, c7, c8, c9, c10, c11, c12, c13, c14, c15, hM, G, oR1, oR2⟩
    · have hlt := G.rd.lt
      obtain ⟨q0, rfl, q00, q01⟩ := (c4 (hd { on := 4, ground := Ground.data } (by simp) rfl)).any
      have HA := Lib.hid (GArr.new (r := (w.heap.size + 1 + 1)) u [q0, 0, 401, 1] [.int .i64 q0, .int .i64 0, .int .i64 401, .int .i64 1] rfl 3 hlt)
      refine wpOp_step rfl (fun K hK => ?_)
      go_simp
      refine hK _ _ ?_
      exact ⟨l0, l1, l2, l3, l4, true, l6, l7, l8, l9, l10, l11, l12, l13, l14, l15, _, _, _, _, _, _, _, _, _, _, _, _, _, _, _, _, _, _, _, _, _, _, M, xR1, yR1, xR2, yR2, rfl, rfl, c0, c1, c2, c3, c4, fun _ => ⟨_, [q0, 0, 401, 1], rfl, rfl, by intro z hz; simp at hz; omega, HA.out⟩, fun h => (c6 h).keep (GKeeps.alloc (w.heap.size + 1 + 1) u _), c7, c8, fun h => (c9 h).keep (GKeeps.alloc (w.heap.size + 1 + 1) u _), c10, fun h => (c11 h).keep (GKeeps.alloc (w.heap.size + 1 + 1) u _), c12, c13, c14, c15, hM, G.next (below_box u _), oR1.alloc _, oR2.alloc _⟩
    · have hlt := G.rd.lt
      have HA := Lib.hid (GArr.new (r := (w.heap.size + 1 + 1)) u [0, 0, 0, 0, 1, 2, 3] [.int .i64 0, .int .i64 0, .int .i64 0, .int .i64 0, .int .i64 1, .int .i64 2, .int .i64 3] rfl 3 hlt)
      refine wpOp_step rfl (fun K hK => ?_)
      go_simp
      refine hK _ _ ?_
      exact ⟨l0, l1, l2, l3, l4, l5, true, l7, l8, l9, l10, l11, l12, l13, l14, l15, _, _, _, _, _, _, _, _, _, _, _, _, _, _, _, _, _, _, _, _, _, _, M, xR1, yR1, xR2, yR2, rfl, rfl, c0, c1, c2, c3, c4, fun h => (c5 h).keep (GKeeps.alloc (w.heap.size + 1 + 1) u _), fun _ => ⟨_, [0, 0, 0, 0, 1, 2, 3], rfl, rfl, by intro z hz; simp at hz; omega, HA.out⟩, c7, c8, fun h => (c9 h).keep (GKeeps.alloc (w.heap.size + 1 + 1) u _), c10, fun h => (c11 h).keep (GKeeps.alloc (w.heap.size + 1 + 1) u _), c12, c13, c14, c15, hM, G.next (below_box u _), oR1.alloc _, oR2.alloc _⟩
    · skip
      refine wpOp_step rfl (fun K hK => ?_)
      go_simp
      refine hK _ _ ?_
      exact ⟨l0, l1, l2, l3, l4, l5, l6, true, l8, l9, l10, l11, l12, l13, l14, l15, _, _, _, _, _, _, _, _, _, _, _, _, _, _, _, _, _, _, _, _, _, _, M, xR1, yR1, xR2, yR2, rfl, rfl, c0, c1, c2, c3, c4, c5, c6, fun _ => rfl, c8, c9, c10, c11, c12, c13, c14, c15, hM, G, oR1, oR2⟩
    · obtain rfl := c7 (hd { on := 7, ground := Ground.data } (by simp) rfl)
      have e8 : l8 = false := hl
      subst e8
      refine wpOp_step rfl (fun K hK => ?_)
      go_simp
      refine (gpick 7 (by omega) G (by omega)).mono ?_
      rintro e u' ⟨xk, h0, h1, rfl, G', KA, hg⟩
      refine hK _ _ ?_
      exact ⟨l0, l1, l2, l3, l4, l5, l6, l7, true, l9, l10, l11, l12, l13, l14, l15, _, _, _, _, _, _, _, _, _, _, _, _, _, _, _, _, _, _, _, _, _, _, (M + 1), xR1, yR1, xR2, yR2, rfl, rfl, c0, c1, c2, c3, c4, fun h => (c5 h).keep KA, fun h => (c6 h).keep KA, c7, fun _ => ⟨xk, rfl, h0, by omega⟩, fun h => (c9 h).keep KA, c10, fun h => (c11 h).keep KA, c12, c13, c14, c15, by simp only [Bool.false_eq_true, if_false, if_true] at hM ⊢; omega, G', oR1.grown hg (by omega), oR2.grown hg (by omega)⟩
    · obtain ⟨b, rfl, hx⟩ := (c6 (hd { on := 6, ground := Ground.data } (by simp) rfl)).index
      obtain ⟨xk, rfl, x0, x1⟩ := (c8 (hd { on := 8, ground := Ground.data } (by simp) rfl)).any
      have x2 : xk < 7 := by omega
      have HX := Lib.hid (hx xk x0 (by omega))
      refine wpOp_step rfl (fun K hK => ?_)
      go_simp
      refine hK _ _ ?_
      exact ⟨l0, l1, l2, l3, l4, l5, l6, l7, l8, true, l10, l11, l12, l13, l14, l15, _, _, _, _, _, _, _, _, _, _, _, _, _, _, _, _, _, _, _, _, _, _, M, xR1, yR1, xR2, yR2, rfl, rfl, c0, c1, c2, c3, c4, c5, c6, c7, c8, fun _ => HX.out, c10, c11, c12, c13, c14, c15, hM, G, oR1, oR2⟩
    · obtain ⟨b, k, z, rfl, ck, k0, k1⟩ := (c9 (hd { on := 9, ground := Ground.data } (by simp) rfl)).load
      refine wpOp_step rfl (fun K hK => ?_)
      go_simp
      refine hK _ _ ?_
      exact ⟨l0, l1, l2, l3, l4, l5, l6, l7, l8, l9, true, l11, l12, l13, l14, l15, _, _, _, _, _, _, _, _, _, _, _, _, _, _, _, _, _, _, _, _, _, _, M, xR1, yR1, xR2, yR2, rfl, rfl, c0, c1, c2, c3, c4, c5, c6, c7, c8, c9, fun _ => ⟨z, rfl, k0, k1⟩, c11, c12, c13, c14, c15, hM, G, oR1, oR2⟩
    · obtain ⟨b, rfl, hx⟩ := (c5 (hd { on := 5, ground := Ground.data } (by simp) rfl)).index
      obtain ⟨xk, rfl, x0, x1⟩ := (c10 (hd { on := 10, ground := Ground.data } (by simp) rfl)).any
      have x2 : xk < 4 := by omega
      have HX := Lib.hid (hx xk x0 (by omega))
      refine wpOp_step rfl (fun K hK => ?_)
      go_simp
      refine hK _ _ ?_
      exact ⟨l0, l1, l2, l3, l4, l5, l6, l7, l8, l9, l10, true, l12, l13, l14, l15, _, _, _, _, _, _, _, _, _, _, _, _, _, _, _, _, _, _, _, _, _, _, M, xR1, yR1, xR2, yR2, rfl, rfl, c0, c1, c2, c3, c4, c5, c6, c7, c8, c9, c10, fun _ => HX.out, c12, c13, c14, c15, hM, G, oR1, oR2⟩
    · obtain ⟨b, k, z, rfl, ck, k0, k1⟩ := (c11 (hd { on := 11, ground := Ground.data } (by simp) rfl)).load
      refine wpOp_step rfl (fun K hK => ?_)
      go_simp
      refine hK _ _ ?_
      exact ⟨l0, l1, l2, l3, l4, l5, l6, l7, l8, l9, l10, l11, true, l13, l14, l15, _, _, _, _, _, _, _, _, _, _, _, _, _, _, _, _, _, _, _, _, _, _, M, xR1, yR1, xR2, yR2, rfl, rfl, c0, c1, c2, c3, c4, c5, c6, c7, c8, c9, c10, c11, fun _ => ⟨z, rfl, k0, k1⟩, c13, c14, c15, hM, G, oR1, oR2⟩
    · obtain rfl := c0 (hd { on := 0, ground := Ground.data } (by simp) rfl)
      obtain ⟨⟨_, q0, q1⟩, y0, y1⟩ := id oR1
      have HG := Lib.hid (G.set2 (k := w.heap.size) (by simp) gR1 (by omega) (.int .i64 ax) (.int .i64 ay))
      have HK := Lib.hid (GKeeps.set2 (r := (w.heap.size + 1 + 1)) (c := w.heap.size) u (.int .i64 ax) (.int .i64 ay) lR1)
      refine wpOp_step rfl (fun K hK => ?_)
      go_simp
      refine hK _ _ ?_
      exact ⟨l0, l1, l2, l3, l4, l5, l6, l7, l8, l9, l10, l11, l12, true, l14, l15, _, _, _, _, _, _, _, _, _, _, _, _, _, _, _, _, _, _, _, _, _, _, M, ax, ay, xR2, yR2, rfl, rfl, c0, c1, c2, c3, c4, fun h => (c5 h).keep HK.out, fun h => (c6 h).keep HK.out, c7, c8, fun h => (c9 h).keep HK.out, c10, fun h => (c11 h).keep HK.out, c12, fun _ => ⟨rfl, rfl⟩, c14, c15, hM, HG.out, (oR1.put0 ax).put1 ay, (oR2.far nR1R2 _).far nR1R2 _⟩
    · obtain rfl := c1 (hd { on := 1, ground := Ground.data } (by simp) rfl)
      obtain ⟨⟨_, q0, q1⟩, y0, y1⟩ := id oR2
      have HG := Lib.hid (G.set2 (k := (w.heap.size + 1)) (by simp) gR2 (by omega) (.int .i64 bx) (.int .i64 b_y))
      have HK := Lib.hid (GKeeps.set2 (r := (w.heap.size + 1 + 1)) (c := (w.heap.size + 1)) u (.int .i64 bx) (.int .i64 b_y) lR2)
      refine wpOp_step rfl (fun K hK => ?_)
      go_simp
      refine hK _ _ ?_
      exact ⟨l0, l1, l2, l3, l4, l5, l6, l7, l8, l9, l10, l11, l12, l13, true, l15, _, _, _, _, _, _, _, _, _, _, _, _, _, _, _, _, _, _, _, _, _, _, M, xR1, yR1, bx, b_y, rfl, rfl, c0, c1, c2, c3, c4, fun h => (c5 h).keep HK.out, fun h => (c6 h).keep HK.out, c7, c8, fun h => (c9 h).keep HK.out, c10, fun h => (c11 h).keep HK.out, c12, c13, fun _ => ⟨rfl, rfl⟩, c15, hM, HG.out, (oR1.far nR2R1 _).far nR2R1 _, (oR2.put0 bx).put1 b_y⟩
    · obtain ⟨x, rfl, h0, h1⟩ := (c12 (hd { on := 12, ground := Ground.data } (by simp) rfl)).any
      refine wpOp_step rfl (fun K hK => ?_)
      go_simp
      refine hK _ _ ?_
      exact ⟨l0, l1, l2, l3, l4, l5, l6, l7, l8, l9, l10, l11, l12, l13, l14, true, _, _, _, _, _, _, _, _, _, _, _, _, _, _, _, _, _, _, _, _, _, _, M, xR1, yR1, xR2, yR2, rfl, rfl, c0, c1, c2, c3, c4, c5, c6, c7, c8, c9, c10, c11, c12, c13, c14, fun _ => ⟨x, rfl, h0, h1⟩, hM, G, oR1, oR2⟩
  case hlt =>
    intro j o ho
    have hj : j < 16 := by rcases Nat.lt_or_ge j 16 with h | h; exact h; rw [Array.getElem?_eq_none (by simpa using h)] at ho; cases ho
    have hj2 : j = 0 ∨ j = 1 ∨ j = 2 ∨ j = 3 ∨ j = 4 ∨ j = 5 ∨ j = 6 ∨ j = 7 ∨ j = 8 ∨ j = 9 ∨ j = 10 ∨ j = 11 ∨ j = 12 ∨ j = 13 ∨ j = 14 ∨ j = 15 := by omega
    rcases hj2 with rfl | rfl | rfl | rfl | rfl | rfl | rfl | rfl | rfl | rfl | rfl | rfl | rfl | rfl | rfl | rfl
    all_goals
      cases ho
      decide
  case hsz =>
    rintro listed a u ⟨l0, l1, l2, l3, l4, l5, l6, l7, l8, l9, l10, l11, l12, l13, l14, l15, v4, v14, v15, v16, v17, v18, v19, v20, v21, v22, v23, v24, v25, v26, p0, p1, p8, p9, p10, p11, p12, p13, _, _, _, _, _, rfl, _⟩
    rfl
  case hdone =>
    rintro listed act u ⟨l0, l1, l2, l3, l4, l5, l6, l7, l8, l9, l10, l11, l12, l13, l14, l15, v4, v14, v15, v16, v17, v18, v19, v20, v21, v22, v23, v24, v25, v26, p0, p1, p8, p9, p10, p11, p12, p13, M, xR1, yR1, xR2, yR2, rfl, rfl, c0, c1, c2, c3, c4, c5, c6, c7, c8, c9, c10, c11, c12, c13, c14, c15, hM, G, oR1, oR2⟩ hall
    obtain ⟨rfl, rfl⟩ := c13 (hall 13 (by decide))
    obtain ⟨rfl, rfl⟩ := c14 (hall 14 (by decide))
    obtain ⟨n, rfl, k0, k1⟩ := (c15 (hall 15 (by decide))).any
    obtain ⟨⟨_, x0, x1⟩, _, _⟩ := id oR1
    obtain ⟨⟨_, n0, n1⟩, _, _⟩ := id oR2
    have HG := Lib.hid G.old
    clear c0 c1 c2 c3 c4 c5 c6 c7 c8 c9 c10 c11 c12 c13 c14 c15 hall G oR1 oR2
    go_wp2
    exact bodyPost_ret (v := .tuple #[pt xR1 yR1, pt xR2 yR2, .int .i64 n]) (by simp [results, Try.results20, go_sem, x0, x1, n0, n1]) rfl ⟨xR1, yR1, xR2, yR2, n, rfl, k0, k1, HG.out⟩
end Go.Proofs.Ytcoaahfnbgkofaa
