/- What DrawArcPoints draws: a center, a radius, two directions and a step. -/
import Derived.Test.YtlajpeoadgfobaaDoorGst
import Derived.Test.YtlajpeoadgfobaaDoorRow6
namespace Go.Proofs.YtlajpeoadgfobaaDoor
set_option maxRecDepth 100000
open Go.RowKit
attribute [local go_sem ↓] Go.wp_at_zero Go.wp_at_succ
/-- What holds when the operations of 'listed' have come up. -/
inductive RFArc (w w0 : World) (r R1 V1 : Nat) (ax ay : Int) (fr ot : Int) (u : World) : Array Bool → Act → Prop
  | mk (l0 l1 l2 l3 l4 l5 l6 l7 l8 l9 l10 l11 l12 l13 l14 l15 l16 l17 l18 l19 l20 l21 l22 l23 l24 l25 l26 l27 : Bool) (v3 v4 v5 v6 v27 v28 v29 v30 v31 v32 v33 v34 v35 v36 v37 v38 v39 v40 v41 v42 v43 v44 v45 v46 v47 v48 v49 p0 p1 p11 p12 p13 p14 p15 p16 p17 p18 p19 p20 p21 p22 p23 p24 p25 p26 : Value) (M : Nat) (xR1 yR1 : Int)
    (c0 : l0 = true → v27 = pt ax ay) (c1 : l1 = true → v28 = .pointer (some ⟨r, 0, none⟩)) (c2 : l2 = true → CI 0 199 v29) (c3 : l3 = true → CI (1) (200) v30) (c4 : l4 = true → CA r u 3 (0) (501) v31) (c5 : l5 = true → CA r u 7 (0) (2) v32) (c6 : l6 = true → v33 = .pointer (some ⟨r, 0, none⟩)) (c7 : l7 = true → CI 0 6 v34) (c8 : l8 = true → CP r u (0) (2) v35) (c9 : l9 = true → CI (0) (2) v36) (c10 : l10 = true → CP r u (0) (501) v37) (c11 : l11 = true → CI (0) (501) v38) (c12 : l12 = true → v39 = .int .i64 fr) (c13 : l13 = true → v40 = .int .i64 ot) (c14 : l14 = true → v41 = .pointer (some ⟨r, 0, none⟩)) (c15 : l15 = true → CI 0 59 v42) (c16 : l16 = true → CI (1) (60) v43) (c17 : l17 = true → CA r u 2 (0) (60) v44) (c18 : l18 = true → v45 = .pointer (some ⟨r, 0, none⟩)) (c19 : l19 = true → CI 0 11 v46) (c20 : l20 = true → CI (0) (1) v47) (c21 : l21 = true → CP r u (0) (60) v48) (c22 : l22 = true → CI (0) (60) v49) (c23 : l23 = true → xR1 = ax ∧ yR1 = ay) (c24 : l24 = true → CI (0) (501) v3) (c25 : l25 = true → v4 = .int .i64 fr) (c26 : l26 = true → v5 = .int .i64 ot) (c27 : l27 = true → CI (0) (60) v6)
    (hM : M + ((if l2 then 0 else 1) + (if l7 then 0 else 1) + (if l15 then 0 else 1) + (if l19 then 0 else 1)) ≤ 14) (G : GSt w w0 r [R1] M u) (oR1 : OwnP u R1 xR1 yR1) : RFArc w w0 r R1 V1 ax ay fr ot u #[l0, l1, l2, l3, l4, l5, l6, l7, l8, l9, l10, l11, l12, l13, l14, l15, l16, l17, l18, l19, l20, l21, l22, l23, l24, l25, l26, l27] { tmps := #[p0, p1, .pointer (some ⟨R1, 0, none⟩), v3, v4, v5, v6, .pointer (some ⟨r, 0, none⟩), .pointer (some ⟨V1, 0, none⟩), .int .i64 fr, .int .i64 ot, p11, p12, p13, p14, p15, p16, p17, p18, p19, p20, p21, p22, p23, p24, p25, p26, v27, v28, v29, v30, v31, v32, v33, v34, v35, v36, v37, v38, v39, v40, v41, v42, v43, v44, v45, v46, v47, v48, v49], defers := [] }
theorem RFArc.size {w w0 : World} {r R1 V1 : Nat} {ax ay : Int} {fr ot : Int} {u : World} {listed : Array Bool} {a : Act} (h : RFArc w w0 r R1 V1 ax ay fr ot u listed a) : listed.size = 28 := by cases h; rfl
/-- What the draw says. -/
def GotArc (w : World) (e : Ending) (w' : World) : Prop := ∃ ax ay rd fr ot st : Int, e = .returned (.tuple #[pt ax ay, .int .i64 rd, .int .i64 fr, .int .i64 ot, .int .i64 st]) ∧ Below w.heap.size w w'
set_option maxHeartbeats 32000000 in
theorem drawArcPoints (w : World) (a : Option Addr) (len cap : Nat) (zs : List Int) (h : Bytes w a len cap zs) :
    Calls Tryd.prog 16 #[.slice a len cap] w (GotArc w) := by
  have O0 := OwnP.box w 0 0 24
  have H0 := Lib.hid (below_box w (.cells #[.int .i64 0, .int .i64 0] 24))
  go_enter Tryd.func16, Tryd.ntmps16
  go_wp2_with fail
  refine (gopen w _ a len cap zs h H0.out (w.heap.size + 1) (by simp)).mono ?_
  rintro e w1 ⟨rfl, hr1, hb1⟩
  have O1 := Lib.hid (O0.next hb1)
  have H1 := Lib.hid (below_call H0.out hb1)
  clear O0 H0 hb1 h
  go_wp2_with fail
  refine (l20Point _ _ _ 12 _ hr1 (by omega) (by omega) (by omega)).mono ?_
  rintro e w2 ⟨ax, ay, p1, p2, p3, p4, rfl, hr2, hg2⟩
  have O2 := Lib.hid (O1.out.grown hg2 (by omega))
  have H2 := Lib.hid (H1.out.grown hg2 H1.out.size (fun q hq => by injection hq with hq; omega))
  have hlt2 := hr2.lt
  have P2 := AtP.box w2 ax ay 24
  have hr2b := hr2.alloc (.cells #[.int .i64 ax, .int .i64 ay] 24)
  replace O2 := Lib.hid (O2.out.alloc (.cells #[.int .i64 ax, .int .i64 ay] 24))
  replace H2 := Lib.hid (below_call H2.out (below_box w2 (.cells #[.int .i64 ax, .int .i64 ay] 24)))
  obtain ⟨V1, hV1⟩ : ∃ V1, w2.heap.size = V1 := ⟨_, rfl⟩
  rw [hV1] at P2 hlt2
  clear hr1 hr2 hg2 O1 H1
  go_upto_region 3 with fail
  clear hV1
  generalize w2.alloc (.cells #[.int .i64 ax, .int .i64 ay] 24) = w2b at *
  go_wp2_with fail
  refine (pick _ _ _ 256 _ hr2b (by omega)).mono ?_
  rintro e w3 ⟨x3, a3, b3, rfl, hr3, hg3, hs3⟩
  have b3' := b3 (by omega)
  go_wp2_with fail
  refine (pick _ _ _ 200 _ hr3 (by omega)).mono ?_
  rintro e w4 ⟨x4, a4, b4, rfl, hr4, hg4, hs4⟩
  have b4' := b4 (by omega)
  go_wp2_with fail
  refine (pick _ _ _ 12 _ hr4 (by omega)).mono ?_
  rintro e w5 ⟨x5, a5, b5, rfl, hr5, hg5, hs5⟩
  have b5' := b5 (by omega)
  have hg := (hg3.trans hg4).trans hg5
  have O3 := Lib.hid (O2.out.grown hg (by omega))
  have H3 := Lib.hid (H2.out.grown hg H2.out.size (fun q hq => by injection hq with hq; omega))
  have P3 : AtP w5 V1 ax ay := P2.row6 hg (by simp; omega)
  obtain ⟨qx, hqx⟩ : ∃ qx, x5.tdiv 11 = qx := ⟨_, rfl⟩
  have q0 : 0 ≤ qx := by rw [← hqx, Int.tdiv_eq_ediv_of_nonneg a5]; omega
  have q1 : qx ≤ 1 := by rw [← hqx, Int.tdiv_eq_ediv_of_nonneg a5]; omega
  have o1 : IntKind.i64.wrap (x3 - 128) = x3 - 128 := wrap_in (by omega) (by omega)
  have o2 : IntKind.i64.wrap (x3 - 128 + x4) = x3 - 128 + x4 := wrap_in (by omega) (by omega)
  clear hr2b hr3 hr4 hg3 hg4 hg5 hg O2 H2 P2 b3 b4 b5 hs3 hs4 hs5
  go_upto_region 5 with fail
  obtain ⟨fr, hfr⟩ : ∃ fr, x3 - 128 = fr := ⟨_, rfl⟩
  obtain ⟨ot, hto⟩ : ∃ ot, x3 - 128 + x4 - qx * 300 = ot := ⟨_, rfl⟩
  simp only [hto]
  simp only [hfr]
  clear hfr hto hqx o1 o2
  generalize w5 = w0 at *
  have hPV1 := P3
  have nV1r : V1 ≠ w.heap.size + 1 := by omega
  have nV1s : V1 ∉ [w.heap.size] := by simp; omega
  have gR1 : w.heap.size ≤ w.heap.size := Nat.le_refl _
  have lR1 : w.heap.size < w.heap.size + 1 := by omega
  have G0 := Lib.hid ((GSt.start (rs := [w.heap.size]) hr5 H3.out).drew)
  have oR10 := Lib.hid (O3.out.next (below_drew' _))
  have HM0 := Lib.hid (show 0 + 7 + 1 + 1 + 1 + ((if false then 0 else 1) + (if false then 0 else 1) + (if false then 0 else 1) + (if false then 0 else 1)) ≤ 14 by decide)
  clear O3 H3 hr5 P3
  refine wp_region_inv (fun listed act u => RFArc w w0 (w.heap.size + 1) w.heap.size V1 ax ay fr ot u listed act) (by kernel_rfl) ?hlt ?hsz ?h0 ?hstep ?hdone
  case h0 =>
    exact ⟨false, false, false, false, false, false, false, false, false, false, false, false, false, false, false, false, false, false, false, false, false, false, false, false, false, false, false, false, _, _, _, _, _, _, _, _, _, _, _, _, _, _, _, _, _, _, _, _, _, _, _, _, _, _, _, _, _, _, _, _, _, _, _, _, _, _, _, _, _, _, _, _, _, _, _, _, (by intro h; cases h), (by intro h; cases h), (by intro h; cases h), (by intro h; cases h), (by intro h; cases h), (by intro h; cases h), (by intro h; cases h), (by intro h; cases h), (by intro h; cases h), (by intro h; cases h), (by intro h; cases h), (by intro h; cases h), (by intro h; cases h), (by intro h; cases h), (by intro h; cases h), (by intro h; cases h), (by intro h; cases h), (by intro h; cases h), (by intro h; cases h), (by intro h; cases h), (by intro h; cases h), (by intro h; cases h), (by intro h; cases h), (by intro h; cases h), (by intro h; cases h), (by intro h; cases h), (by intro h; cases h), (by intro h; cases h), HM0.out, G0.out, oR10.out⟩
  case hstep =>
    intro listed act u i o hR ho hl hd
    obtain ⟨l0, l1, l2, l3, l4, l5, l6, l7, l8, l9, l10, l11, l12, l13, l14, l15, l16, l17, l18, l19, l20, l21, l22, l23, l24, l25, l26, l27, v3, v4, v5, v6, v27, v28, v29, v30, v31, v32, v33, v34, v35, v36, v37, v38, v39, v40, v41, v42, v43, v44, v45, v46, v47, v48, v49, p0, p1, p11, p12, p13, p14, p15, p16, p17, p18, p19, p20, p21, p22, p23, p24, p25, p26, M, xR1, yR1, c0, c1, c2, c3, c4, c5, c6, c7, c8, c9, c10, c11, c12, c13, c14, c15, c16, c17, c18, c19, c20, c21, c22, c23, c24, c25, c26, c27, hM, G, oR1⟩ := hR
    have hi : i < 28 := by rcases Nat.lt_or_ge i 28 with h | h; exact h; rw [Array.getElem?_eq_none (by simpa using h)] at ho; cases ho
    have hi2 : i = 0 ∨ i = 1 ∨ i = 2 ∨ i = 3 ∨ i = 4 ∨ i = 5 ∨ i = 6 ∨ i = 7 ∨ i = 8 ∨ i = 9 ∨ i = 10 ∨ i = 11 ∨ i = 12 ∨ i = 13 ∨ i = 14 ∨ i = 15 ∨ i = 16 ∨ i = 17 ∨ i = 18 ∨ i = 19 ∨ i = 20 ∨ i = 21 ∨ i = 22 ∨ i = 23 ∨ i = 24 ∨ i = 25 ∨ i = 26 ∨ i = 27 := by omega
    rcases hi2 with rfl | rfl | rfl | rfl | rfl | rfl | rfl | rfl | rfl | rfl | rfl | rfl | rfl | rfl | rfl | rfl | rfl | rfl | rfl | rfl | rfl | rfl | rfl | rfl | rfl | rfl | rfl | rfl
    all_goals (cases ho)
    · obtain ⟨_, k0, k1⟩ := G.atp hPV1 nV1r nV1s
      refine wpOp_step rfl (fun K hK => ?_)
      go_simp
      refine hK _ _ ?_
      exact ⟨true, l1, l2, l3, l4, l5, l6, l7, l8, l9, l10, l11, l12, l13, l14, l15, l16, l17, l18, l19, l20, l21, l22, l23, l24, l25, l26, l27, _, _, _, _, _, _, _, _, _, _, _, _, _, _, _, _, _, _, _, _, _, _, _, _, _, _, _, _, _, _, _, _, _, _, _, _, _, _, _, _, _, _, _, _, _, M, xR1, yR1, fun _ => rfl, c1, c2, c3, c4, c5, c6, c7, c8, c9, c10, c11, c12, c13, c14, c15, c16, c17, c18, c19, c20, c21, c22, c23, c24, c25, c26, c27, hM, G, oR1⟩
    · skip
      refine wpOp_step rfl (fun K hK => ?_)
      go_simp
      refine hK _ _ ?_
      exact ⟨l0, true, l2, l3, l4, l5, l6, l7, l8, l9, l10, l11, l12, l13, l14, l15, l16, l17, l18, l19, l20, l21, l22, l23, l24, l25, l26, l27, _, _, _, _, _, _, _, _, _, _, _, _, _, _, _, _, _, _, _, _, _, _, _, _, _, _, _, _, _, _, _, _, _, _, _, _, _, _, _, _, _, _, _, _, _, M, xR1, yR1, c0, fun _ => rfl, c2, c3, c4, c5, c6, c7, c8, c9, c10, c11, c12, c13, c14, c15, c16, c17, c18, c19, c20, c21, c22, c23, c24, c25, c26, c27, hM, G, oR1⟩
    · obtain rfl := c1 (hd { on := 1, ground := Ground.data } (by simp) rfl)
      have e2 : l2 = false := hl
      subst e2
      refine wpOp_step rfl (fun K hK => ?_)
      go_simp
      refine (gpick 200 (by omega) G (by omega)).mono ?_
      rintro e u' ⟨xk, h0, h1, rfl, G', KA, hg⟩
      refine hK _ _ ?_
      exact ⟨l0, l1, true, l3, l4, l5, l6, l7, l8, l9, l10, l11, l12, l13, l14, l15, l16, l17, l18, l19, l20, l21, l22, l23, l24, l25, l26, l27, _, _, _, _, _, _, _, _, _, _, _, _, _, _, _, _, _, _, _, _, _, _, _, _, _, _, _, _, _, _, _, _, _, _, _, _, _, _, _, _, _, _, _, _, _, (M + 1), xR1, yR1, c0, c1, fun _ => ⟨xk, rfl, h0, by omega⟩, c3, fun h => (c4 h).keep KA, fun h => (c5 h).keep KA, c6, c7, fun h => (c8 h).keep KA, c9, fun h => (c10 h).keep KA, c11, c12, c13, c14, c15, c16, fun h => (c17 h).keep KA, c18, c19, c20, fun h => (c21 h).keep KA, c22, c23, c24, c25, c26, c27, by simp only [Bool.false_eq_true, if_false, if_true] at hM ⊢; omega, G', oR1.grown hg (by omega)⟩
    · obtain ⟨x, rfl, h0, h1⟩ := (c2 (hd { on := 2, ground := Ground.data } (by simp) rfl)).any
      have ow : IntKind.i64.wrap (1 + x) = 1 + x := wrap_in (by omega) (by omega)
      refine wpOp_step rfl (fun K hK => ?_)
      go_simp
      refine hK _ _ ?_
      exact ⟨l0, l1, l2, true, l4, l5, l6, l7, l8, l9, l10, l11, l12, l13, l14, l15, l16, l17, l18, l19, l20, l21, l22, l23, l24, l25, l26, l27, _, _, _, _, _, _, _, _, _, _, _, _, _, _, _, _, _, _, _, _, _, _, _, _, _, _, _, _, _, _, _, _, _, _, _, _, _, _, _, _, _, _, _, _, _, M, xR1, yR1, c0, c1, c2, fun _ => ⟨_, rfl, by omega, by omega⟩, c4, c5, c6, c7, c8, c9, c10, c11, c12, c13, c14, c15, c16, c17, c18, c19, c20, c21, c22, c23, c24, c25, c26, c27, hM, G, oR1⟩
    · have hlt := G.rd.lt
      obtain ⟨q0, rfl, q00, q01⟩ := (c3 (hd { on := 3, ground := Ground.data } (by simp) rfl)).any
      have HA := Lib.hid (GArr.new (r := (w.heap.size + 1)) u [q0, 0, 501] [.int .i64 q0, .int .i64 0, .int .i64 501] rfl 3 hlt)
      refine wpOp_step rfl (fun K hK => ?_)
      go_simp
      refine hK _ _ ?_
      exact ⟨l0, l1, l2, l3, true, l5, l6, l7, l8, l9, l10, l11, l12, l13, l14, l15, l16, l17, l18, l19, l20, l21, l22, l23, l24, l25, l26, l27, _, _, _, _, _, _, _, _, _, _, _, _, _, _, _, _, _, _, _, _, _, _, _, _, _, _, _, _, _, _, _, _, _, _, _, _, _, _, _, _, _, _, _, _, _, M, xR1, yR1, c0, c1, c2, c3, fun _ => ⟨_, [q0, 0, 501], rfl, rfl, by intro z hz; simp at hz; omega, HA.out⟩, fun h => (c5 h).keep (GKeeps.alloc (w.heap.size + 1) u _), c6, c7, fun h => (c8 h).keep (GKeeps.alloc (w.heap.size + 1) u _), c9, fun h => (c10 h).keep (GKeeps.alloc (w.heap.size + 1) u _), c11, c12, c13, c14, c15, c16, fun h => (c17 h).keep (GKeeps.alloc (w.heap.size + 1) u _), c18, c19, c20, fun h => (c21 h).keep (GKeeps.alloc (w.heap.size + 1) u _), c22, c23, c24, c25, c26, c27, hM, G.next (below_box u _), oR1.alloc _⟩
    · have hlt := G.rd.lt
      have HA := Lib.hid (GArr.new (r := (w.heap.size + 1)) u [0, 0, 0, 0, 0, 1, 2] [.int .i64 0, .int .i64 0, .int .i64 0, .int .i64 0, .int .i64 0, .int .i64 1, .int .i64 2] rfl 3 hlt)
      refine wpOp_step rfl (fun K hK => ?_)
      go_simp
      refine hK _ _ ?_
      exact ⟨l0, l1, l2, l3, l4, true, l6, l7, l8, l9, l10, l11, l12, l13, l14, l15, l16, l17, l18, l19, l20, l21, l22, l23, l24, l25, l26, l27, _, _, _, _, _, _, _, _, _, _, _, _, _, _, _, _, _, _, _, _, _, _, _, _, _, _, _, _, _, _, _, _, _, _, _, _, _, _, _, _, _, _, _, _, _, M, xR1, yR1, c0, c1, c2, c3, fun h => (c4 h).keep (GKeeps.alloc (w.heap.size + 1) u _), fun _ => ⟨_, [0, 0, 0, 0, 0, 1, 2], rfl, rfl, by intro z hz; simp at hz; omega, HA.out⟩, c6, c7, fun h => (c8 h).keep (GKeeps.alloc (w.heap.size + 1) u _), c9, fun h => (c10 h).keep (GKeeps.alloc (w.heap.size + 1) u _), c11, c12, c13, c14, c15, c16, fun h => (c17 h).keep (GKeeps.alloc (w.heap.size + 1) u _), c18, c19, c20, fun h => (c21 h).keep (GKeeps.alloc (w.heap.size + 1) u _), c22, c23, c24, c25, c26, c27, hM, G.next (below_box u _), oR1.alloc _⟩
    · skip
      refine wpOp_step rfl (fun K hK => ?_)
      go_simp
      refine hK _ _ ?_
      exact ⟨l0, l1, l2, l3, l4, l5, true, l7, l8, l9, l10, l11, l12, l13, l14, l15, l16, l17, l18, l19, l20, l21, l22, l23, l24, l25, l26, l27, _, _, _, _, _, _, _, _, _, _, _, _, _, _, _, _, _, _, _, _, _, _, _, _, _, _, _, _, _, _, _, _, _, _, _, _, _, _, _, _, _, _, _, _, _, M, xR1, yR1, c0, c1, c2, c3, c4, c5, fun _ => rfl, c7, c8, c9, c10, c11, c12, c13, c14, c15, c16, c17, c18, c19, c20, c21, c22, c23, c24, c25, c26, c27, hM, G, oR1⟩
    · obtain rfl := c6 (hd { on := 6, ground := Ground.data } (by simp) rfl)
      have e7 : l7 = false := hl
      subst e7
      refine wpOp_step rfl (fun K hK => ?_)
      go_simp
      refine (gpick 7 (by omega) G (by omega)).mono ?_
      rintro e u' ⟨xk, h0, h1, rfl, G', KA, hg⟩
      refine hK _ _ ?_
      exact ⟨l0, l1, l2, l3, l4, l5, l6, true, l8, l9, l10, l11, l12, l13, l14, l15, l16, l17, l18, l19, l20, l21, l22, l23, l24, l25, l26, l27, _, _, _, _, _, _, _, _, _, _, _, _, _, _, _, _, _, _, _, _, _, _, _, _, _, _, _, _, _, _, _, _, _, _, _, _, _, _, _, _, _, _, _, _, _, (M + 1), xR1, yR1, c0, c1, c2, c3, fun h => (c4 h).keep KA, fun h => (c5 h).keep KA, c6, fun _ => ⟨xk, rfl, h0, by omega⟩, fun h => (c8 h).keep KA, c9, fun h => (c10 h).keep KA, c11, c12, c13, c14, c15, c16, fun h => (c17 h).keep KA, c18, c19, c20, fun h => (c21 h).keep KA, c22, c23, c24, c25, c26, c27, by simp only [Bool.false_eq_true, if_false, if_true] at hM ⊢; omega, G', oR1.grown hg (by omega)⟩
    · obtain ⟨b, rfl, hx⟩ := (c5 (hd { on := 5, ground := Ground.data } (by simp) rfl)).index
      obtain ⟨xk, rfl, x0, x1⟩ := (c7 (hd { on := 7, ground := Ground.data } (by simp) rfl)).any
      have x2 : xk < 7 := by omega
      have HX := Lib.hid (hx xk x0 (by omega))
      refine wpOp_step rfl (fun K hK => ?_)
      go_simp
      refine hK _ _ ?_
      exact ⟨l0, l1, l2, l3, l4, l5, l6, l7, true, l9, l10, l11, l12, l13, l14, l15, l16, l17, l18, l19, l20, l21, l22, l23, l24, l25, l26, l27, _, _, _, _, _, _, _, _, _, _, _, _, _, _, _, _, _, _, _, _, _, _, _, _, _, _, _, _, _, _, _, _, _, _, _, _, _, _, _, _, _, _, _, _, _, M, xR1, yR1, c0, c1, c2, c3, c4, c5, c6, c7, fun _ => HX.out, c9, c10, c11, c12, c13, c14, c15, c16, c17, c18, c19, c20, c21, c22, c23, c24, c25, c26, c27, hM, G, oR1⟩
    · obtain ⟨b, k, z, rfl, ck, k0, k1⟩ := (c8 (hd { on := 8, ground := Ground.data } (by simp) rfl)).load
      refine wpOp_step rfl (fun K hK => ?_)
      go_simp
      refine hK _ _ ?_
      exact ⟨l0, l1, l2, l3, l4, l5, l6, l7, l8, true, l10, l11, l12, l13, l14, l15, l16, l17, l18, l19, l20, l21, l22, l23, l24, l25, l26, l27, _, _, _, _, _, _, _, _, _, _, _, _, _, _, _, _, _, _, _, _, _, _, _, _, _, _, _, _, _, _, _, _, _, _, _, _, _, _, _, _, _, _, _, _, _, M, xR1, yR1, c0, c1, c2, c3, c4, c5, c6, c7, c8, fun _ => ⟨z, rfl, k0, k1⟩, c10, c11, c12, c13, c14, c15, c16, c17, c18, c19, c20, c21, c22, c23, c24, c25, c26, c27, hM, G, oR1⟩
    · obtain ⟨b, rfl, hx⟩ := (c4 (hd { on := 4, ground := Ground.data } (by simp) rfl)).index
      obtain ⟨xk, rfl, x0, x1⟩ := (c9 (hd { on := 9, ground := Ground.data } (by simp) rfl)).any
      have x2 : xk < 3 := by omega
      have HX := Lib.hid (hx xk x0 (by omega))
      refine wpOp_step rfl (fun K hK => ?_)
      go_simp
      refine hK _ _ ?_
      exact ⟨l0, l1, l2, l3, l4, l5, l6, l7, l8, l9, true, l11, l12, l13, l14, l15, l16, l17, l18, l19, l20, l21, l22, l23, l24, l25, l26, l27, _, _, _, _, _, _, _, _, _, _, _, _, _, _, _, _, _, _, _, _, _, _, _, _, _, _, _, _, _, _, _, _, _, _, _, _, _, _, _, _, _, _, _, _, _, M, xR1, yR1, c0, c1, c2, c3, c4, c5, c6, c7, c8, c9, fun _ => HX.out, c11, c12, c13, c14, c15, c16, c17, c18, c19, c20, c21, c22, c23, c24, c25, c26, c27, hM, G, oR1⟩
    · obtain ⟨b, k, z, rfl, ck, k0, k1⟩ := (c10 (hd { on := 10, ground := Ground.data } (by simp) rfl)).load
      refine wpOp_step rfl (fun K hK => ?_)
      go_simp
      refine hK _ _ ?_
      exact ⟨l0, l1, l2, l3, l4, l5, l6, l7, l8, l9, l10, true, l12, l13, l14, l15, l16, l17, l18, l19, l20, l21, l22, l23, l24, l25, l26, l27, _, _, _, _, _, _, _, _, _, _, _, _, _, _, _, _, _, _, _, _, _, _, _, _, _, _, _, _, _, _, _, _, _, _, _, _, _, _, _, _, _, _, _, _, _, M, xR1, yR1, c0, c1, c2, c3, c4, c5, c6, c7, c8, c9, c10, fun _ => ⟨z, rfl, k0, k1⟩, c12, c13, c14, c15, c16, c17, c18, c19, c20, c21, c22, c23, c24, c25, c26, c27, hM, G, oR1⟩
    · skip
      refine wpOp_step rfl (fun K hK => ?_)
      go_simp
      refine hK _ _ ?_
      exact ⟨l0, l1, l2, l3, l4, l5, l6, l7, l8, l9, l10, l11, true, l13, l14, l15, l16, l17, l18, l19, l20, l21, l22, l23, l24, l25, l26, l27, _, _, _, _, _, _, _, _, _, _, _, _, _, _, _, _, _, _, _, _, _, _, _, _, _, _, _, _, _, _, _, _, _, _, _, _, _, _, _, _, _, _, _, _, _, M, xR1, yR1, c0, c1, c2, c3, c4, c5, c6, c7, c8, c9, c10, c11, fun _ => rfl, c13, c14, c15, c16, c17, c18, c19, c20, c21, c22, c23, c24, c25, c26, c27, hM, G, oR1⟩
    · skip
      refine wpOp_step rfl (fun K hK => ?_)
      go_simp
      refine hK _ _ ?_
      exact ⟨l0, l1, l2, l3, l4, l5, l6, l7, l8, l9, l10, l11, l12, true, l14, l15, l16, l17, l18, l19, l20, l21, l22, l23, l24, l25, l26, l27, _, _, _, _, _, _, _, _, _, _, _, _, _, _, _, _, _, _, _, _, _, _, _, _, _, _, _, _, _, _, _, _, _, _, _, _, _, _, _, _, _, _, _, _, _, M, xR1, yR1, c0, c1, c2, c3, c4, c5, c6, c7, c8, c9, c10, c11, c12, fun _ => rfl, c14, c15, c16, c17, c18, c19, c20, c21, c22, c23, c24, c25, c26, c27, hM, G, oR1⟩
    · skip
      refine wpOp_step rfl (fun K hK => ?_)
      go_simp
      refine hK _ _ ?_
      exact ⟨l0, l1, l2, l3, l4, l5, l6, l7, l8, l9, l10, l11, l12, l13, true, l15, l16, l17, l18, l19, l20, l21, l22, l23, l24, l25, l26, l27, _, _, _, _, _, _, _, _, _, _, _, _, _, _, _, _, _, _, _, _, _, _, _, _, _, _, _, _, _, _, _, _, _, _, _, _, _, _, _, _, _, _, _, _, _, M, xR1, yR1, c0, c1, c2, c3, c4, c5, c6, c7, c8, c9, c10, c11, c12, c13, fun _ => rfl, c15, c16, c17, c18, c19, c20, c21, c22, c23, c24, c25, c26, c27, hM, G, oR1⟩
    · obtain rfl := c14 (hd { on := 14, ground := Ground.data } (by simp) rfl)
      have e15 : l15 = false := hl
      subst e15
      refine wpOp_step rfl (fun K hK => ?_)
      go_simp
      refine (gpick 60 (by omega) G (by omega)).mono ?_
      rintro e u' ⟨xk, h0, h1, rfl, G', KA, hg⟩
      refine hK _ _ ?_
      exact ⟨l0, l1, l2, l3, l4, l5, l6, l7, l8, l9, l10, l11, l12, l13, l14, true, l16, l17, l18, l19, l20, l21, l22, l23, l24, l25, l26, l27, _, _, _, _, _, _, _, _, _, _, _, _, _, _, _, _, _, _, _, _, _, _, _, _, _, _, _, _, _, _, _, _, _, _, _, _, _, _, _, _, _, _, _, _, _, (M + 1), xR1, yR1, c0, c1, c2, c3, fun h => (c4 h).keep KA, fun h => (c5 h).keep KA, c6, c7, fun h => (c8 h).keep KA, c9, fun h => (c10 h).keep KA, c11, c12, c13, c14, fun _ => ⟨xk, rfl, h0, by omega⟩, c16, fun h => (c17 h).keep KA, c18, c19, c20, fun h => (c21 h).keep KA, c22, c23, c24, c25, c26, c27, by simp only [Bool.false_eq_true, if_false, if_true] at hM ⊢; omega, G', oR1.grown hg (by omega)⟩
    · obtain ⟨x, rfl, h0, h1⟩ := (c15 (hd { on := 15, ground := Ground.data } (by simp) rfl)).any
      have ow : IntKind.i64.wrap (1 + x) = 1 + x := wrap_in (by omega) (by omega)
      refine wpOp_step rfl (fun K hK => ?_)
      go_simp
      refine hK _ _ ?_
      exact ⟨l0, l1, l2, l3, l4, l5, l6, l7, l8, l9, l10, l11, l12, l13, l14, l15, true, l17, l18, l19, l20, l21, l22, l23, l24, l25, l26, l27, _, _, _, _, _, _, _, _, _, _, _, _, _, _, _, _, _, _, _, _, _, _, _, _, _, _, _, _, _, _, _, _, _, _, _, _, _, _, _, _, _, _, _, _, _, M, xR1, yR1, c0, c1, c2, c3, c4, c5, c6, c7, c8, c9, c10, c11, c12, c13, c14, c15, fun _ => ⟨_, rfl, by omega, by omega⟩, c17, c18, c19, c20, c21, c22, c23, c24, c25, c26, c27, hM, G, oR1⟩
    · have hlt := G.rd.lt
      obtain ⟨q0, rfl, q00, q01⟩ := (c16 (hd { on := 16, ground := Ground.data } (by simp) rfl)).any
      have HA := Lib.hid (GArr.new (r := (w.heap.size + 1)) u [q0, 0] [.int .i64 q0, .int .i64 0] rfl 3 hlt)
      refine wpOp_step rfl (fun K hK => ?_)
      go_simp
      refine hK _ _ ?_
      exact ⟨l0, l1, l2, l3, l4, l5, l6, l7, l8, l9, l10, l11, l12, l13, l14, l15, l16, true, l18, l19, l20, l21, l22, l23, l24, l25, l26, l27, _, _, _, _, _, _, _, _, _, _, _, _, _, _, _, _, _, _, _, _, _, _, _, _, _, _, _, _, _, _, _, _, _, _, _, _, _, _, _, _, _, _, _, _, _, M, xR1, yR1, c0, c1, c2, c3, fun h => (c4 h).keep (GKeeps.alloc (w.heap.size + 1) u _), fun h => (c5 h).keep (GKeeps.alloc (w.heap.size + 1) u _), c6, c7, fun h => (c8 h).keep (GKeeps.alloc (w.heap.size + 1) u _), c9, fun h => (c10 h).keep (GKeeps.alloc (w.heap.size + 1) u _), c11, c12, c13, c14, c15, c16, fun _ => ⟨_, [q0, 0], rfl, rfl, by intro z hz; simp at hz; omega, HA.out⟩, c18, c19, c20, fun h => (c21 h).keep (GKeeps.alloc (w.heap.size + 1) u _), c22, c23, c24, c25, c26, c27, hM, G.next (below_box u _), oR1.alloc _⟩
    · skip
      refine wpOp_step rfl (fun K hK => ?_)
      go_simp
      refine hK _ _ ?_
      exact ⟨l0, l1, l2, l3, l4, l5, l6, l7, l8, l9, l10, l11, l12, l13, l14, l15, l16, l17, true, l19, l20, l21, l22, l23, l24, l25, l26, l27, _, _, _, _, _, _, _, _, _, _, _, _, _, _, _, _, _, _, _, _, _, _, _, _, _, _, _, _, _, _, _, _, _, _, _, _, _, _, _, _, _, _, _, _, _, M, xR1, yR1, c0, c1, c2, c3, c4, c5, c6, c7, c8, c9, c10, c11, c12, c13, c14, c15, c16, c17, fun _ => rfl, c19, c20, c21, c22, c23, c24, c25, c26, c27, hM, G, oR1⟩
    · obtain rfl := c18 (hd { on := 18, ground := Ground.data } (by simp) rfl)
      have e19 : l19 = false := hl
      subst e19
      refine wpOp_step rfl (fun K hK => ?_)
      go_simp
      refine (gpick 12 (by omega) G (by omega)).mono ?_
      rintro e u' ⟨xk, h0, h1, rfl, G', KA, hg⟩
      refine hK _ _ ?_
      exact ⟨l0, l1, l2, l3, l4, l5, l6, l7, l8, l9, l10, l11, l12, l13, l14, l15, l16, l17, l18, true, l20, l21, l22, l23, l24, l25, l26, l27, _, _, _, _, _, _, _, _, _, _, _, _, _, _, _, _, _, _, _, _, _, _, _, _, _, _, _, _, _, _, _, _, _, _, _, _, _, _, _, _, _, _, _, _, _, (M + 1), xR1, yR1, c0, c1, c2, c3, fun h => (c4 h).keep KA, fun h => (c5 h).keep KA, c6, c7, fun h => (c8 h).keep KA, c9, fun h => (c10 h).keep KA, c11, c12, c13, c14, c15, c16, fun h => (c17 h).keep KA, c18, fun _ => ⟨xk, rfl, h0, by omega⟩, c20, fun h => (c21 h).keep KA, c22, c23, c24, c25, c26, c27, by simp only [Bool.false_eq_true, if_false, if_true] at hM ⊢; omega, G', oR1.grown hg (by omega)⟩
    · obtain ⟨x, rfl, h0, h1⟩ := (c19 (hd { on := 19, ground := Ground.data } (by simp) rfl)).any
      obtain ⟨q, hq⟩ : ∃ q, x.tdiv 11 = q := ⟨_, rfl⟩
      have q0 : 0 ≤ q := by rw [← hq, Int.tdiv_eq_ediv_of_nonneg (by omega)]; omega
      have q1 : q ≤ 1 := by rw [← hq, Int.tdiv_eq_ediv_of_nonneg (by omega)]; omega
      have ow : IntKind.i64.wrap q = q := wrap_in (by omega) (by omega)
      refine wpOp_step rfl (fun K hK => ?_)
      go_simp
      refine hK _ _ ?_
      exact ⟨l0, l1, l2, l3, l4, l5, l6, l7, l8, l9, l10, l11, l12, l13, l14, l15, l16, l17, l18, l19, true, l21, l22, l23, l24, l25, l26, l27, _, _, _, _, _, _, _, _, _, _, _, _, _, _, _, _, _, _, _, _, _, _, _, _, _, _, _, _, _, _, _, _, _, _, _, _, _, _, _, _, _, _, _, _, _, M, xR1, yR1, c0, c1, c2, c3, c4, c5, c6, c7, c8, c9, c10, c11, c12, c13, c14, c15, c16, c17, c18, c19, fun _ => ⟨_, rfl, by omega, by omega⟩, c21, c22, c23, c24, c25, c26, c27, hM, G, oR1⟩
    · obtain ⟨b, rfl, hx⟩ := (c17 (hd { on := 17, ground := Ground.data } (by simp) rfl)).index
      obtain ⟨xk, rfl, x0, x1⟩ := (c20 (hd { on := 20, ground := Ground.data } (by simp) rfl)).any
      have x2 : xk < 2 := by omega
      have HX := Lib.hid (hx xk x0 (by omega))
      refine wpOp_step rfl (fun K hK => ?_)
      go_simp
      refine hK _ _ ?_
      exact ⟨l0, l1, l2, l3, l4, l5, l6, l7, l8, l9, l10, l11, l12, l13, l14, l15, l16, l17, l18, l19, l20, true, l22, l23, l24, l25, l26, l27, _, _, _, _, _, _, _, _, _, _, _, _, _, _, _, _, _, _, _, _, _, _, _, _, _, _, _, _, _, _, _, _, _, _, _, _, _, _, _, _, _, _, _, _, _, M, xR1, yR1, c0, c1, c2, c3, c4, c5, c6, c7, c8, c9, c10, c11, c12, c13, c14, c15, c16, c17, c18, c19, c20, fun _ => HX.out, c22, c23, c24, c25, c26, c27, hM, G, oR1⟩
    · obtain ⟨b, k, z, rfl, ck, k0, k1⟩ := (c21 (hd { on := 21, ground := Ground.data } (by simp) rfl)).load
      refine wpOp_step rfl (fun K hK => ?_)
      go_simp
      refine hK _ _ ?_
      exact ⟨l0, l1, l2, l3, l4, l5, l6, l7, l8, l9, l10, l11, l12, l13, l14, l15, l16, l17, l18, l19, l20, l21, true, l23, l24, l25, l26, l27, _, _, _, _, _, _, _, _, _, _, _, _, _, _, _, _, _, _, _, _, _, _, _, _, _, _, _, _, _, _, _, _, _, _, _, _, _, _, _, _, _, _, _, _, _, M, xR1, yR1, c0, c1, c2, c3, c4, c5, c6, c7, c8, c9, c10, c11, c12, c13, c14, c15, c16, c17, c18, c19, c20, c21, fun _ => ⟨z, rfl, k0, k1⟩, c23, c24, c25, c26, c27, hM, G, oR1⟩
    · obtain rfl := c0 (hd { on := 0, ground := Ground.data } (by simp) rfl)
      obtain ⟨⟨_, q0, q1⟩, y0, y1⟩ := id oR1
      have HG := Lib.hid (G.set2 (k := w.heap.size) (by simp) gR1 (by omega) (.int .i64 ax) (.int .i64 ay))
      have HK := Lib.hid (GKeeps.set2 (r := (w.heap.size + 1)) (c := w.heap.size) u (.int .i64 ax) (.int .i64 ay) lR1)
      refine wpOp_step rfl (fun K hK => ?_)
      go_simp
      refine hK _ _ ?_
      exact ⟨l0, l1, l2, l3, l4, l5, l6, l7, l8, l9, l10, l11, l12, l13, l14, l15, l16, l17, l18, l19, l20, l21, l22, true, l24, l25, l26, l27, _, _, _, _, _, _, _, _, _, _, _, _, _, _, _, _, _, _, _, _, _, _, _, _, _, _, _, _, _, _, _, _, _, _, _, _, _, _, _, _, _, _, _, _, _, M, ax, ay, c0, c1, c2, c3, fun h => (c4 h).keep HK.out, fun h => (c5 h).keep HK.out, c6, c7, fun h => (c8 h).keep HK.out, c9, fun h => (c10 h).keep HK.out, c11, c12, c13, c14, c15, c16, fun h => (c17 h).keep HK.out, c18, c19, c20, fun h => (c21 h).keep HK.out, c22, fun _ => ⟨rfl, rfl⟩, c24, c25, c26, c27, hM, HG.out, (oR1.put0 ax).put1 ay⟩
    · obtain ⟨x, rfl, h0, h1⟩ := (c11 (hd { on := 11, ground := Ground.data } (by simp) rfl)).any
      refine wpOp_step rfl (fun K hK => ?_)
      go_simp
      refine hK _ _ ?_
      exact ⟨l0, l1, l2, l3, l4, l5, l6, l7, l8, l9, l10, l11, l12, l13, l14, l15, l16, l17, l18, l19, l20, l21, l22, l23, true, l25, l26, l27, _, _, _, _, _, _, _, _, _, _, _, _, _, _, _, _, _, _, _, _, _, _, _, _, _, _, _, _, _, _, _, _, _, _, _, _, _, _, _, _, _, _, _, _, _, M, xR1, yR1, c0, c1, c2, c3, c4, c5, c6, c7, c8, c9, c10, c11, c12, c13, c14, c15, c16, c17, c18, c19, c20, c21, c22, c23, fun _ => ⟨x, rfl, h0, h1⟩, c25, c26, c27, hM, G, oR1⟩
    · obtain rfl := c12 (hd { on := 12, ground := Ground.data } (by simp) rfl)
      refine wpOp_step rfl (fun K hK => ?_)
      go_simp
      refine hK _ _ ?_
      exact ⟨l0, l1, l2, l3, l4, l5, l6, l7, l8, l9, l10, l11, l12, l13, l14, l15, l16, l17, l18, l19, l20, l21, l22, l23, l24, true, l26, l27, _, _, _, _, _, _, _, _, _, _, _, _, _, _, _, _, _, _, _, _, _, _, _, _, _, _, _, _, _, _, _, _, _, _, _, _, _, _, _, _, _, _, _, _, _, M, xR1, yR1, c0, c1, c2, c3, c4, c5, c6, c7, c8, c9, c10, c11, c12, c13, c14, c15, c16, c17, c18, c19, c20, c21, c22, c23, c24, fun _ => rfl, c26, c27, hM, G, oR1⟩
    · obtain rfl := c13 (hd { on := 13, ground := Ground.data } (by simp) rfl)
      refine wpOp_step rfl (fun K hK => ?_)
      go_simp
      refine hK _ _ ?_
      exact ⟨l0, l1, l2, l3, l4, l5, l6, l7, l8, l9, l10, l11, l12, l13, l14, l15, l16, l17, l18, l19, l20, l21, l22, l23, l24, l25, true, l27, _, _, _, _, _, _, _, _, _, _, _, _, _, _, _, _, _, _, _, _, _, _, _, _, _, _, _, _, _, _, _, _, _, _, _, _, _, _, _, _, _, _, _, _, _, M, xR1, yR1, c0, c1, c2, c3, c4, c5, c6, c7, c8, c9, c10, c11, c12, c13, c14, c15, c16, c17, c18, c19, c20, c21, c22, c23, c24, c25, fun _ => rfl, c27, hM, G, oR1⟩
    · obtain ⟨x, rfl, h0, h1⟩ := (c22 (hd { on := 22, ground := Ground.data } (by simp) rfl)).any
      refine wpOp_step rfl (fun K hK => ?_)
      go_simp
      refine hK _ _ ?_
      exact ⟨l0, l1, l2, l3, l4, l5, l6, l7, l8, l9, l10, l11, l12, l13, l14, l15, l16, l17, l18, l19, l20, l21, l22, l23, l24, l25, l26, true, _, _, _, _, _, _, _, _, _, _, _, _, _, _, _, _, _, _, _, _, _, _, _, _, _, _, _, _, _, _, _, _, _, _, _, _, _, _, _, _, _, _, _, _, _, M, xR1, yR1, c0, c1, c2, c3, c4, c5, c6, c7, c8, c9, c10, c11, c12, c13, c14, c15, c16, c17, c18, c19, c20, c21, c22, c23, c24, c25, c26, fun _ => ⟨x, rfl, h0, h1⟩, hM, G, oR1⟩
  case hlt => exact backB_spec (by kernel_rfl)
  case hsz => exact fun listed a u h => h.size
  case hdone =>
    intro listed act u hR hall
    obtain ⟨l0, l1, l2, l3, l4, l5, l6, l7, l8, l9, l10, l11, l12, l13, l14, l15, l16, l17, l18, l19, l20, l21, l22, l23, l24, l25, l26, l27, v3, v4, v5, v6, v27, v28, v29, v30, v31, v32, v33, v34, v35, v36, v37, v38, v39, v40, v41, v42, v43, v44, v45, v46, v47, v48, v49, p0, p1, p11, p12, p13, p14, p15, p16, p17, p18, p19, p20, p21, p22, p23, p24, p25, p26, M, xR1, yR1, c0, c1, c2, c3, c4, c5, c6, c7, c8, c9, c10, c11, c12, c13, c14, c15, c16, c17, c18, c19, c20, c21, c22, c23, c24, c25, c26, c27, hM, G, oR1⟩ := hR
    obtain ⟨rfl, rfl⟩ := c23 (hall 23 (by decide))
    obtain ⟨rd, rfl, k0, k1⟩ := (c24 (hall 24 (by decide))).any
    obtain rfl := c25 (hall 25 (by decide))
    obtain rfl := c26 (hall 26 (by decide))
    obtain ⟨st, rfl, k2, k3⟩ := (c27 (hall 27 (by decide))).any
    obtain ⟨⟨_, x0, x1⟩, _, _⟩ := id oR1
    have HG := Lib.hid G.old
    clear c0 c1 c2 c3 c4 c5 c6 c7 c8 c9 c10 c11 c12 c13 c14 c15 c16 c17 c18 c19 c20 c21 c22 c23 c24 c25 c26 c27 hall G oR1
    go_wp2
    exact bodyPost_ret (v := .tuple #[pt xR1 yR1, .int .i64 rd, .int .i64 fr, .int .i64 ot, .int .i64 st]) (by simp [results, Tryd.results16, go_sem, x0, x1]) rfl ⟨xR1, yR1, rd, fr, ot, st, rfl, HG.out⟩
end Go.Proofs.YtlajpeoadgfobaaDoor
