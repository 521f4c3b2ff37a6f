/- What the law on cells' angles draws: an arm, a step and a cell. -/
import Derived.Test.YtkogoflcacameaaZbDbc
import Derived.Test.YtkogoflcacameaaZbInv
import Derived.Test.YtkogoflcacameaaDg11
import Derived.Test.YtkogoflcacameaaGq11
import Derived.Outline
namespace Go.Proofs.Ytkogoflcacameaa
set_option maxRecDepth 100000
open Go.RowKit
attribute [local go_sem ↓] Go.wp_at_zero Go.wp_at_succ
/-- What holds when the operations of 'listed' have come up. -/
inductive RFCj (w w0 : World) (r RA RC V : Nat) (x y z : Sl) (st gx gy : Int) (u : World) : Array Bool → Act → Prop
  | mk (l0 l1 l2 l3 l4 l5 l6 l7 l8 l9 l10 l11 l12 l13 l14 l15 l16 l17 : Bool) (v3 v22 v23 v24 v25 v26 v27 v28 v29 v30 v31 v32 v33 v34 v35 v36 p0 p1 p10 p11 p12 p13 p14 p15 p16 p17 p18 p19 p20 p21 : Value) (M : Nat) (xRC yRC : Int) (rxRA ryRA rzRA : Value)
    (c0 : l0 = true → v22 = av x y z) (c1 : l1 = true → v23 = .int .i64 st) (c2 : l2 = true → v24 = .pointer (some ⟨r, 0, none⟩)) (c3 : l3 = true → v25 = .int .i64 gx) (c4 : l4 = true → CI (2) (22) v26) (c5 : l5 = true → CI 0 21 v27) (c6 : l6 = true → v28 = .pointer (some ⟨r, 0, none⟩)) (c7 : l7 = true → CI 0 2 v29) (c8 : l8 = true → CI (0) (1) v30) (c9 : l9 = true → CI (-1) 21 v31) (c10 : l10 = true → v32 = .pointer (some ⟨r, 0, none⟩)) (c11 : l11 = true → v33 = .int .i64 gy) (c12 : l12 = true → CI (1) (21) v34) (c13 : l13 = true → CI 0 20 v35) (c14 : l14 = true → ∃ qx qy : Int, v36 = pt qx qy ∧ (-1 ≤ qx ∧ qx ≤ 21 ∧ 0 ≤ qy ∧ qy ≤ 20)) (c15 : l15 = true → rxRA = .slice x.a x.len x.cap ∧ ryRA = .slice y.a y.len y.cap ∧ rzRA = .slice z.a z.len z.cap) (c16 : l16 = true → v3 = .int .i64 st) (c17 : l17 = true → -1 ≤ xRC ∧ xRC ≤ 21 ∧ 0 ≤ yRC ∧ yRC ≤ 20)
    (hM : M + ((if l5 then 0 else 1) + (if l7 then 0 else 1) + (if l13 then 0 else 1)) ≤ 900) (G : GSt w w0 r [RC, RA] M u) (oRC : OwnP u RC xRC yRC) (oRA : AtA u RA rxRA ryRA rzRA) : RFCj w w0 r RA RC V x y z st gx gy u #[l0, l1, l2, l3, l4, l5, l6, l7, l8, l9, l10, l11, l12, l13, l14, l15, l16, l17] { tmps := #[p0, p1, .pointer (some ⟨RA, 0, none⟩), v3, .pointer (some ⟨RC, 0, none⟩), .pointer (some ⟨r, 0, none⟩), .pointer (some ⟨V, 0, none⟩), .int .i64 st, .int .i64 gx, .int .i64 gy, p10, p11, p12, p13, p14, p15, p16, p17, p18, p19, p20, p21, v22, v23, v24, v25, v26, v27, v28, v29, v30, v31, v32, v33, v34, v35, v36], defers := [] }
theorem RFCj.size {w w0 : World} {r RA RC V : Nat} {x y z : Sl} {st gx gy : Int} {u : World} {listed : Array Bool} {a : Act} (h : RFCj w w0 r RA RC V x y z st gx gy u listed a) : listed.size = 18 := by cases h; rfl
/-- An arm's box, the results' boxes, the reader. -/
structure StY (w : World) (M V : Nat) (u : World) (x y z : Sl) (ls lo hi : List Int) : Prop where
  rd : Rd w.heap.size M u (w.heap.size + 1 + 1)
  old : Below w.heap.size w u
  arm : AtA u V (.slice x.a x.len x.cap) (.slice y.a y.len y.cap) (.slice z.a z.len z.cap)
  ra : AtA u w.heap.size (.slice none 0 0) (.slice none 0 0) (.slice none 0 0)
  rc : OwnP u (w.heap.size + 1) 0 0
  i1 : IntsFrom u (w.heap.size + 1 + 1 + 1) x.a x.len ls
  i2 : IntsFrom u (w.heap.size + 1 + 1 + 1) y.a y.len lo
  i3 : IntsFrom u (w.heap.size + 1 + 1 + 1) z.a z.len hi
section
variable {w u u' : World} {M M' V : Nat} {x y z : Sl} {ls lo hi : List Int}
theorem StY.next (h : StY w M V u x y z ls lo hi) (hb : Below u.heap.size u u') : StY w M V u' x y z ls lo hi :=
  have hg : u.grownBy u' none := ⟨hb.os, hb.tape, hb.output, hb.size, fun k hk _ => hb.block k hk⟩
  ⟨h.rd.kept hg (by simp) (fun k e => by cases e), below_call h.old hb, h.arm.next hb, h.ra.next hb, h.rc.next hb, h.i1.next hb, h.i2.next hb, h.i3.next hb⟩
theorem StY.grown (h : StY w M V u x y z ls lo hi) (hr : Rd w.heap.size M' u' (w.heap.size + 1 + 1)) (hg : u.grownBy u' (some (w.heap.size + 1 + 1))) (hV : w.heap.size + 1 + 1 < V) : StY w M' V u' x y z ls lo hi :=
  ⟨hr, h.old.grown hg h.old.size (fun k hk => by injection hk with hk; omega), h.arm.kept hg (by simp; omega), h.ra.kept hg (by simp; omega), h.rc.grown hg (by omega), h.i1.kept hg (fun k hk => by injection hk with hk; omega), h.i2.kept hg (fun k hk => by injection hk with hk; omega), h.i3.kept hg (fun k hk => by injection hk with hk; omega)⟩
theorem GSt.intsY {w0 : World} {r : Nat} {rs : List Nat} {len : Nat} {a : Option Addr} {zs : List Int} (h : GSt w w0 r rs M u) (hi : IntsFrom w0 (r + 1) a len zs) (hrs : ∀ k ∈ rs, k < r) : IntsAt u a len zs :=
  IntsFrom.ints (base := r + 1) ⟨hi.1, hi.2.imp id fun ⟨b, off, h1, h2, h3, h4⟩ => ⟨b, off, h1, h2, Nat.lt_of_lt_of_le h3 h.size, fun i hi => (World.cell?_of_block (a := ⟨b, off + i, none⟩) (h.keep b h3 (by omega) (fun hm => by have := hrs b hm; omega))).trans (h4 i hi)⟩⟩
end
/-- What the draw of an arm, a step and a cell says. -/
def GotY (w : World) (e : Ending) (w' : World) : Prop :=
  ∃ (x y z : Sl) (ls lo hi : List Int) (s : Int) (c : C2), e = .returned (.tuple #[av x y z, .int .i64 s, pt c.1 c.2]) ∧ (IntsAt w' x.a x.len ls ∧ IntsAt w' y.a y.len lo ∧ IntsAt w' z.a z.len hi) ∧ (x.len ≤ 5 ∧ y.len ≤ 4 ∧ z.len ≤ 4) ∧ (0 ≤ s ∧ s ≤ 361) ∧ (-1 ≤ c.1 ∧ c.1 ≤ 21 ∧ 0 ≤ c.2 ∧ c.2 ≤ 20) ∧ Below w.heap.size w w'
theorem grid_rng (ls lo hi : List Int) (s : Int) : (0 ≤ gridX ls lo hi s ∧ gridX ls lo hi s ≤ 20) ∧ 0 ≤ gridY ls lo hi s ∧ gridY ls lo hi s ≤ 20 := by
  by_cases h : okGrid ls lo hi s
  · have := grid_pos h; omega
  · rw [gridX_out h, gridY_out h]; omega
set_option maxHeartbeats 8000000 in
theorem drawCellJoints (w : World) (a : Option Addr) (len cap : Nat) (zs : List Int) (h : Bytes w a len cap zs) :
    Calls Try.prog 13 #[.slice a len cap] w (GotY w) := by
  have HB := Lib.hid (below_box2 w (.cells #[.slice none 0 0, .slice none 0 0, .slice none 0 0] 25) (.cells #[.int .i64 0, .int .i64 0] 33))
  have RA0 := (AtA.box w (.slice none 0 0) (.slice none 0 0) (.slice none 0 0) 25).next (below_box _ (.cells #[.int .i64 0, .int .i64 0] 33))
  have RC0 := OwnP.box (w.alloc (.cells #[.slice none 0 0, .slice none 0 0, .slice none 0 0] 25)) 0 0 33
  rw [show (w.alloc (.cells #[.slice none 0 0, .slice none 0 0, .slice none 0 0] 25)).heap.size = w.heap.size + 1 by simp] at RC0
  go_enter Try.func13, Try.ntmps13
  go_wp2_with fail
  refine (gopen w _ a len cap zs h HB.out (w.heap.size + 1 + 1) (by simp)).mono ?_
  rintro e w1 ⟨rfl, hr1, hb1⟩
  have RA1 := RA0.next hb1
  have RC1 := RC0.next hb1
  have H1 := below_call HB.out hb1
  have hlt1 := hr1.lt
  clear RA0 RC0 HB hb1 h
  go_wp2_with fail
  refine (l20ArmT _ _ _ 2 14 _ hr1 (by omega) (by omega) (by omega) (by omega) (by omega)).mono ?_
  rintro e w3 ⟨⟨xa, xl, xc⟩, ⟨ya, yl, yc⟩, ⟨za, zl, zc⟩, ls, lo, hi, rfl, ⟨i1, i2, i3⟩, ⟨lx, ly, lz⟩, _, _, _, hr3, hg3⟩
  simp only at i1 i2 i3 lx ly lz
  have hlt3 := hr3.lt
  have S3 : StY w (0 + 16) w3.heap.size (w3.alloc (.cells #[.slice xa xl xc, .slice ya yl yc, .slice za zl zc] 25)) ⟨xa, xl, xc⟩ ⟨ya, yl, yc⟩ ⟨za, zl, zc⟩ ls lo hi :=
    have Bv := below_box w3 (.cells #[.slice xa xl xc, .slice ya yl yc, .slice za zl zc] 25)
    ⟨hr3.alloc _, below_call (H1.grown hg3 H1.size (fun k hk => by injection hk with hk; omega)) Bv, AtA.box w3 _ _ _ _, (RA1.kept hg3 (by simp; omega)).next Bv, (RC1.grown hg3 (by omega)).next Bv, (i1.down (by omega)).next Bv, (i2.down (by omega)).next Bv, (i3.down (by omega)).next Bv⟩
  obtain ⟨V, hV⟩ : ∃ V, w3.heap.size = V := ⟨_, rfl⟩
  rw [hV] at S3 hlt3
  have HL := Lib.hid (And.intro lx (And.intro ly lz))
  clear RA1 RC1 H1 hr1 i1 i2 i3 hr3 hg3
  go_upto_region 3 with fail
  clear hV
  generalize w3.alloc (.cells #[.slice xa xl xc, .slice ya yl yc, .slice za zl zc] 25) = w4 at *
  have hr4 := S3.rd
  go_wp2_with fail
  refine (l20StepC _ _ _ _ hr4 (by omega)).mono ?_
  rintro e w5 ⟨st, st0, st1, rfl, hr5, hg5⟩
  have S5 := S3.grown hr5 hg5 hlt3
  clear S3 hr4 hr5 hg5
  obtain ⟨_, c0, c1, c2, _, _, _⟩ := id S5.arm
  have HG5 := Lib.hid (l11SizeC ⟨xa, xl, xc⟩ ⟨ya, yl, yc⟩ ⟨za, zl, zc⟩ ls lo hi st w5 S5.i1.ints S5.i2.ints S5.i3.ints (by show xl ≤ _; omega) (by show yl ≤ _; omega) (by show zl ≤ _; omega))
  have hgr := grid_rng ls lo hi st
  have HS5 := Lib.hid S5
  generalize gridX ls lo hi st = gx at *
  generalize gridY ls lo hi st = gy at *
  clear S5
  go_wp2_with fail
  refine HG5.out.mono ?_
  rintro e w7 ⟨rfl, B7⟩
  have S7 := HS5.out.next B7
  have hgx0 := hgr.1.1
  have hgx1 := hgr.1.2
  have hgy0 := hgr.2.1
  have hgy1 := hgr.2.2
  clear c0 c1 c2 HS5 HG5 B7 hgr
  have hPV := S7.arm
  have nVr : V ≠ w.heap.size + 1 + 1 := by omega
  have nVs : V ∉ [w.heap.size + 1, w.heap.size] := by simp; omega
  have gRA : w.heap.size ≤ w.heap.size := Nat.le_refl _
  have gRC : w.heap.size ≤ w.heap.size + 1 := by omega
  have lRA : w.heap.size < w.heap.size + 1 + 1 := by omega
  have nRARC : w.heap.size ≠ w.heap.size + 1 := by omega
  have nRCRA : w.heap.size + 1 ≠ w.heap.size := by omega
  have G0 := Lib.hid ((GSt.start (rs := [w.heap.size + 1, w.heap.size]) S7.rd S7.old).drew)
  have oRA0 := Lib.hid (S7.ra.next (below_drew' _))
  have oRC0 := Lib.hid (S7.rc.next (below_drew' _))
  have HM0 := Lib.hid (show 0 + 16 + 1 + ((if false then 0 else 1) + (if false then 0 else 1) + (if false then 0 else 1)) ≤ 900 by decide)
  have HII := Lib.hid (And.intro S7.i1 (And.intro S7.i2 S7.i3))
  clear S7
  go_upto_region 5 with fail
  refine wp_region_inv (fun listed act u => RFCj w w7 (w.heap.size + 1 + 1) w.heap.size (w.heap.size + 1) V ⟨xa, xl, xc⟩ ⟨ya, yl, yc⟩ ⟨za, zl, zc⟩ st gx gy u listed act) (by kernel_rfl) ?hlt ?hsz ?h0 ?hstep ?hdone
  case h0 =>
    exact ⟨false, false, false, false, false, false, false, false, false, false, false, false, false, false, false, false, false, false, _, _, _, _, _, _, _, _, _, _, _, _, _, _, _, _, _, _, _, _, _, _, _, _, _, _, _, _, _, _, _, _, _, _, _, _, (by intro h; cases h), (by intro h; cases h), (by intro h; cases h), (by intro h; cases h), (by intro h; cases h), (by intro h; cases h), (by intro h; cases h), (by intro h; cases h), (by intro h; cases h), (by intro h; cases h), (by intro h; cases h), (by intro h; cases h), (by intro h; cases h), (by intro h; cases h), (by intro h; cases h), (by intro h; cases h), (by intro h; cases h), (by intro h; cases h), HM0.out, G0.out, oRC0.out, oRA0.out⟩
  case hstep =>
    intro listed act u i o hR ho hl hd
    obtain ⟨l0, l1, l2, l3, l4, l5, l6, l7, l8, l9, l10, l11, l12, l13, l14, l15, l16, l17, v3, v22, v23, v24, v25, v26, v27, v28, v29, v30, v31, v32, v33, v34, v35, v36, p0, p1, p10, p11, p12, p13, p14, p15, p16, p17, p18, p19, p20, p21, M, xRC, yRC, rxRA, ryRA, rzRA, c0, c1, c2, c3, c4, c5, c6, c7, c8, c9, c10, c11, c12, c13, c14, c15, c16, c17, hM, G, oRC, oRA⟩ := hR
    have hi : i < 18 := by rcases Nat.lt_or_ge i 18 with h | h; exact h; rw [Array.getElem?_eq_none (by simpa using h)] at ho; cases ho
    have hi2 : i = 0 ∨ i = 1 ∨ i = 2 ∨ i = 3 ∨ i = 4 ∨ i = 5 ∨ i = 6 ∨ i = 7 ∨ i = 8 ∨ i = 9 ∨ i = 10 ∨ i = 11 ∨ i = 12 ∨ i = 13 ∨ i = 14 ∨ i = 15 ∨ i = 16 ∨ i = 17 := by omega
    rcases hi2 with rfl | rfl | rfl | rfl | rfl | rfl | rfl | rfl | rfl | rfl | rfl | rfl | rfl | rfl | rfl | rfl | rfl | rfl
    all_goals (cases ho)
    · obtain ⟨_, k0, k1, k2, _, _, _⟩ := G.ata hPV nVr nVs
      refine wpOp_step rfl (fun K hK => ?_)
      go_simp
      refine hK _ _ ?_
      exact ⟨true, l1, l2, l3, l4, l5, l6, l7, l8, l9, l10, l11, l12, l13, l14, l15, l16, l17, _, _, _, _, _, _, _, _, _, _, _, _, _, _, _, _, _, _, _, _, _, _, _, _, _, _, _, _, _, _, M, xRC, yRC, rxRA, ryRA, rzRA, fun _ => rfl, c1, c2, c3, c4, c5, c6, c7, c8, c9, c10, c11, c12, c13, c14, c15, c16, c17, hM, G, oRC, oRA⟩
    · skip
      refine wpOp_step rfl (fun K hK => ?_)
      go_simp
      refine hK _ _ ?_
      exact ⟨l0, true, l2, l3, l4, l5, l6, l7, l8, l9, l10, l11, l12, l13, l14, l15, l16, l17, _, _, _, _, _, _, _, _, _, _, _, _, _, _, _, _, _, _, _, _, _, _, _, _, _, _, _, _, _, _, M, xRC, yRC, rxRA, ryRA, rzRA, c0, fun _ => rfl, c2, c3, c4, c5, c6, c7, c8, c9, c10, c11, c12, c13, c14, c15, c16, c17, hM, G, oRC, oRA⟩
    · skip
      refine wpOp_step rfl (fun K hK => ?_)
      go_simp
      refine hK _ _ ?_
      exact ⟨l0, l1, true, l3, l4, l5, l6, l7, l8, l9, l10, l11, l12, l13, l14, l15, l16, l17, _, _, _, _, _, _, _, _, _, _, _, _, _, _, _, _, _, _, _, _, _, _, _, _, _, _, _, _, _, _, M, xRC, yRC, rxRA, ryRA, rzRA, c0, c1, fun _ => rfl, c3, c4, c5, c6, c7, c8, c9, c10, c11, c12, c13, c14, c15, c16, c17, hM, G, oRC, oRA⟩
    · skip
      refine wpOp_step rfl (fun K hK => ?_)
      go_simp
      refine hK _ _ ?_
      exact ⟨l0, l1, l2, true, l4, l5, l6, l7, l8, l9, l10, l11, l12, l13, l14, l15, l16, l17, _, _, _, _, _, _, _, _, _, _, _, _, _, _, _, _, _, _, _, _, _, _, _, _, _, _, _, _, _, _, M, xRC, yRC, rxRA, ryRA, rzRA, c0, c1, c2, fun _ => rfl, c4, c5, c6, c7, c8, c9, c10, c11, c12, c13, c14, c15, c16, c17, hM, G, oRC, oRA⟩
    · obtain rfl := c3 (hd { on := 3, ground := Ground.data } (by simp) rfl)
      have ow : IntKind.i64.wrap (gx + 2) = gx + 2 := wrap_in (by omega) (by omega)
      all_goals
        refine wpOp_step rfl (fun K hK => ?_)
        go_simp
        refine hK _ _ ?_
        exact ⟨l0, l1, l2, l3, true, l5, l6, l7, l8, l9, l10, l11, l12, l13, l14, l15, l16, l17, _, _, _, _, _, _, _, _, _, _, _, _, _, _, _, _, _, _, _, _, _, _, _, _, _, _, _, _, _, _, M, xRC, yRC, rxRA, ryRA, rzRA, c0, c1, c2, c3, fun _ => ⟨_, rfl, by omega, by omega⟩, c5, c6, c7, c8, c9, c10, c11, c12, c13, c14, c15, c16, c17, hM, G, oRC, oRA⟩
    · obtain rfl := c2 (hd { on := 2, ground := Ground.data } (by simp) rfl)
      have e5 : l5 = false := hl
      subst e5
      obtain ⟨nn, rfl, n0, n1⟩ := (c4 (hd { on := 4, ground := Ground.data } (by simp) rfl)).any
      refine wpOp_step rfl (fun K hK => ?_)
      go_simp
      refine (gpick nn (by omega) G (by omega)).mono ?_
      rintro e u' ⟨xk, h0, h1, rfl, G', KA, hg⟩
      refine hK _ _ ?_
      exact ⟨l0, l1, l2, l3, l4, true, l6, l7, l8, l9, l10, l11, l12, l13, l14, l15, l16, l17, _, _, _, _, _, _, _, _, _, _, _, _, _, _, _, _, _, _, _, _, _, _, _, _, _, _, _, _, _, _, (M + 1), xRC, yRC, rxRA, ryRA, rzRA, c0, c1, c2, c3, c4, fun _ => ⟨xk, rfl, h0, by omega⟩, c6, c7, c8, c9, c10, c11, c12, c13, c14, c15, c16, c17, by simp only [Bool.false_eq_true, if_false, if_true] at hM ⊢; omega, G', oRC.grown hg (by omega), oRA.kept hg (by first | (simp; done) | (simp; omega))⟩
    · skip
      refine wpOp_step rfl (fun K hK => ?_)
      go_simp
      refine hK _ _ ?_
      exact ⟨l0, l1, l2, l3, l4, l5, true, l7, l8, l9, l10, l11, l12, l13, l14, l15, l16, l17, _, _, _, _, _, _, _, _, _, _, _, _, _, _, _, _, _, _, _, _, _, _, _, _, _, _, _, _, _, _, M, xRC, yRC, rxRA, ryRA, rzRA, c0, c1, c2, c3, c4, c5, fun _ => rfl, c7, c8, c9, c10, c11, c12, c13, c14, c15, c16, c17, hM, G, oRC, oRA⟩
    · obtain rfl := c6 (hd { on := 6, ground := Ground.data } (by simp) rfl)
      have e7 : l7 = false := hl
      subst e7
      refine wpOp_step rfl (fun K hK => ?_)
      go_simp
      refine (gpick 3 (by omega) G (by omega)).mono ?_
      rintro e u' ⟨xk, h0, h1, rfl, G', KA, hg⟩
      refine hK _ _ ?_
      exact ⟨l0, l1, l2, l3, l4, l5, l6, true, l8, l9, l10, l11, l12, l13, l14, l15, l16, l17, _, _, _, _, _, _, _, _, _, _, _, _, _, _, _, _, _, _, _, _, _, _, _, _, _, _, _, _, _, _, (M + 1), xRC, yRC, rxRA, ryRA, rzRA, c0, c1, c2, c3, c4, c5, c6, fun _ => ⟨xk, rfl, h0, by omega⟩, c8, c9, c10, c11, c12, c13, c14, c15, c16, c17, by simp only [Bool.false_eq_true, if_false, if_true] at hM ⊢; omega, G', oRC.grown hg (by omega), oRA.kept hg (by first | (simp; done) | (simp; omega))⟩
    · obtain ⟨x, rfl, h0, h1⟩ := (c7 (hd { on := 7, ground := Ground.data } (by simp) rfl)).any
      obtain ⟨q, hq⟩ : ∃ q, x.tdiv 2 = q := ⟨_, rfl⟩
      have q0 : 0 ≤ q := by rw [← hq, Int.tdiv_eq_ediv_of_nonneg (by omega)]; omega
      have q1 : q ≤ 1 := by rw [← hq, Int.tdiv_eq_ediv_of_nonneg (by omega)]; omega
      have ow : IntKind.i64.wrap q = q := wrap_in (by omega) (by omega)
      refine wpOp_step rfl (fun K hK => ?_)
      go_simp
      refine hK _ _ ?_
      exact ⟨l0, l1, l2, l3, l4, l5, l6, l7, true, l9, l10, l11, l12, l13, l14, l15, l16, l17, _, _, _, _, _, _, _, _, _, _, _, _, _, _, _, _, _, _, _, _, _, _, _, _, _, _, _, _, _, _, M, xRC, yRC, rxRA, ryRA, rzRA, c0, c1, c2, c3, c4, c5, c6, c7, fun _ => ⟨_, rfl, by omega, by omega⟩, c9, c10, c11, c12, c13, c14, c15, c16, c17, hM, G, oRC, oRA⟩
    · obtain ⟨x, rfl, h0, h1⟩ := (c5 (hd { on := 5, ground := Ground.data } (by simp) rfl)).any
      obtain ⟨y, rfl, k0, k1⟩ := (c8 (hd { on := 8, ground := Ground.data } (by simp) rfl)).any
      have ow : IntKind.i64.wrap (x - y) = x - y := wrap_in (by omega) (by omega)
      all_goals
        refine wpOp_step rfl (fun K hK => ?_)
        go_simp
        refine hK _ _ ?_
        exact ⟨l0, l1, l2, l3, l4, l5, l6, l7, l8, true, l10, l11, l12, l13, l14, l15, l16, l17, _, _, _, _, _, _, _, _, _, _, _, _, _, _, _, _, _, _, _, _, _, _, _, _, _, _, _, _, _, _, M, xRC, yRC, rxRA, ryRA, rzRA, c0, c1, c2, c3, c4, c5, c6, c7, c8, fun _ => ⟨_, rfl, by omega, by omega⟩, c10, c11, c12, c13, c14, c15, c16, c17, hM, G, oRC, oRA⟩
    · skip
      refine wpOp_step rfl (fun K hK => ?_)
      go_simp
      refine hK _ _ ?_
      exact ⟨l0, l1, l2, l3, l4, l5, l6, l7, l8, l9, true, l11, l12, l13, l14, l15, l16, l17, _, _, _, _, _, _, _, _, _, _, _, _, _, _, _, _, _, _, _, _, _, _, _, _, _, _, _, _, _, _, M, xRC, yRC, rxRA, ryRA, rzRA, c0, c1, c2, c3, c4, c5, c6, c7, c8, c9, fun _ => rfl, c11, c12, c13, c14, c15, c16, c17, hM, G, oRC, oRA⟩
    · skip
      refine wpOp_step rfl (fun K hK => ?_)
      go_simp
      refine hK _ _ ?_
      exact ⟨l0, l1, l2, l3, l4, l5, l6, l7, l8, l9, l10, true, l12, l13, l14, l15, l16, l17, _, _, _, _, _, _, _, _, _, _, _, _, _, _, _, _, _, _, _, _, _, _, _, _, _, _, _, _, _, _, M, xRC, yRC, rxRA, ryRA, rzRA, c0, c1, c2, c3, c4, c5, c6, c7, c8, c9, c10, fun _ => rfl, c12, c13, c14, c15, c16, c17, hM, G, oRC, oRA⟩
    · obtain rfl := c11 (hd { on := 11, ground := Ground.data } (by simp) rfl)
      have ow : IntKind.i64.wrap (gy + 1) = gy + 1 := wrap_in (by omega) (by omega)
      all_goals
        refine wpOp_step rfl (fun K hK => ?_)
        go_simp
        refine hK _ _ ?_
        exact ⟨l0, l1, l2, l3, l4, l5, l6, l7, l8, l9, l10, l11, true, l13, l14, l15, l16, l17, _, _, _, _, _, _, _, _, _, _, _, _, _, _, _, _, _, _, _, _, _, _, _, _, _, _, _, _, _, _, M, xRC, yRC, rxRA, ryRA, rzRA, c0, c1, c2, c3, c4, c5, c6, c7, c8, c9, c10, c11, fun _ => ⟨_, rfl, by omega, by omega⟩, c13, c14, c15, c16, c17, hM, G, oRC, oRA⟩
    · obtain rfl := c10 (hd { on := 10, ground := Ground.data } (by simp) rfl)
      have e13 : l13 = false := hl
      subst e13
      obtain ⟨nn, rfl, n0, n1⟩ := (c12 (hd { on := 12, ground := Ground.data } (by simp) rfl)).any
      refine wpOp_step rfl (fun K hK => ?_)
      go_simp
      refine (gpick nn (by omega) G (by omega)).mono ?_
      rintro e u' ⟨xk, h0, h1, rfl, G', KA, hg⟩
      refine hK _ _ ?_
      exact ⟨l0, l1, l2, l3, l4, l5, l6, l7, l8, l9, l10, l11, l12, true, l14, l15, l16, l17, _, _, _, _, _, _, _, _, _, _, _, _, _, _, _, _, _, _, _, _, _, _, _, _, _, _, _, _, _, _, (M + 1), xRC, yRC, rxRA, ryRA, rzRA, c0, c1, c2, c3, c4, c5, c6, c7, c8, c9, c10, c11, c12, fun _ => ⟨xk, rfl, h0, by omega⟩, c14, c15, c16, c17, by simp only [Bool.false_eq_true, if_false, if_true] at hM ⊢; omega, G', oRC.grown hg (by omega), oRA.kept hg (by first | (simp; done) | (simp; omega))⟩
    · obtain ⟨x, rfl, h0, h1⟩ := (c9 (hd { on := 9, ground := Ground.data } (by simp) rfl)).any
      obtain ⟨y, rfl, k0, k1⟩ := (c13 (hd { on := 13, ground := Ground.data } (by simp) rfl)).any
      all_goals
        refine wpOp_step rfl (fun K hK => ?_)
        go_simp
        refine hK _ _ ?_
        exact ⟨l0, l1, l2, l3, l4, l5, l6, l7, l8, l9, l10, l11, l12, l13, true, l15, l16, l17, _, _, _, _, _, _, _, _, _, _, _, _, _, _, _, _, _, _, _, _, _, _, _, _, _, _, _, _, _, _, M, xRC, yRC, rxRA, ryRA, rzRA, c0, c1, c2, c3, c4, c5, c6, c7, c8, c9, c10, c11, c12, c13, fun _ => ⟨_, _, rfl, by omega⟩, c15, c16, c17, hM, G, oRC, oRA⟩
    · obtain rfl := c0 (hd { on := 0, ground := Ground.data } (by simp) rfl)
      obtain ⟨_, q0, q1, q2, y0, y1, y2⟩ := id oRA
      have HG := Lib.hid (G.set3 (k := w.heap.size) (by simp) gRA (by omega) (.slice xa xl xc) (.slice ya yl yc) (.slice za zl zc))
      have HK := Lib.hid (GKeeps.set3 (r := (w.heap.size + 1 + 1)) (c := w.heap.size) u (.slice xa xl xc) (.slice ya yl yc) (.slice za zl zc) lRA)
      refine wpOp_step rfl (fun K hK => ?_)
      go_simp
      refine hK _ _ ?_
      exact ⟨l0, l1, l2, l3, l4, l5, l6, l7, l8, l9, l10, l11, l12, l13, l14, true, l16, l17, _, _, _, _, _, _, _, _, _, _, _, _, _, _, _, _, _, _, _, _, _, _, _, _, _, _, _, _, _, _, M, xRC, yRC, (.slice xa xl xc), (.slice ya yl yc), (.slice za zl zc), c0, c1, c2, c3, c4, c5, c6, c7, c8, c9, c10, c11, c12, c13, c14, fun _ => ⟨rfl, rfl, rfl⟩, c16, c17, hM, HG.out, ((oRC.far nRARC _).far nRARC _).far nRARC _, ((oRA.put0 _).put1 _).put2 _⟩
    · obtain rfl := c1 (hd { on := 1, ground := Ground.data } (by simp) rfl)
      refine wpOp_step rfl (fun K hK => ?_)
      go_simp
      refine hK _ _ ?_
      exact ⟨l0, l1, l2, l3, l4, l5, l6, l7, l8, l9, l10, l11, l12, l13, l14, l15, true, l17, _, _, _, _, _, _, _, _, _, _, _, _, _, _, _, _, _, _, _, _, _, _, _, _, _, _, _, _, _, _, M, xRC, yRC, rxRA, ryRA, rzRA, c0, c1, c2, c3, c4, c5, c6, c7, c8, c9, c10, c11, c12, c13, c14, c15, fun _ => rfl, c17, hM, G, oRC, oRA⟩
    · obtain ⟨qx, qy, rfl, hq⟩ := c14 (hd { on := 14, ground := Ground.data } (by simp) rfl)
      obtain ⟨⟨_, q0, q1⟩, y0, y1⟩ := id oRC
      have HG := Lib.hid (G.set2 (k := (w.heap.size + 1)) (by simp) gRC (by omega) (.int .i64 qx) (.int .i64 qy))
      refine wpOp_step rfl (fun K hK => ?_)
      go_simp
      refine hK _ _ ?_
      exact ⟨l0, l1, l2, l3, l4, l5, l6, l7, l8, l9, l10, l11, l12, l13, l14, l15, l16, true, _, _, _, _, _, _, _, _, _, _, _, _, _, _, _, _, _, _, _, _, _, _, _, _, _, _, _, _, _, _, M, qx, qy, rxRA, ryRA, rzRA, c0, c1, c2, c3, c4, c5, c6, c7, c8, c9, c10, c11, c12, c13, c14, c15, c16, fun _ => hq, hM, HG.out, (oRC.put0 qx).put1 qy, (oRA.far nRCRA _).far nRCRA _⟩
  case hlt => exact backB_spec (by kernel_rfl)
  case hsz => exact fun listed a u h => h.size
  case hdone =>
    intro listed act u hR hall
    obtain ⟨l0, l1, l2, l3, l4, l5, l6, l7, l8, l9, l10, l11, l12, l13, l14, l15, l16, l17, v3, v22, v23, v24, v25, v26, v27, v28, v29, v30, v31, v32, v33, v34, v35, v36, p0, p1, p10, p11, p12, p13, p14, p15, p16, p17, p18, p19, p20, p21, M, xRC, yRC, rxRA, ryRA, rzRA, c0, c1, c2, c3, c4, c5, c6, c7, c8, c9, c10, c11, c12, c13, c14, c15, c16, c17, hM, G, oRC, oRA⟩ := hR
    obtain ⟨rfl, rfl, rfl⟩ := c15 (hall 15 (by decide))
    obtain rfl := c16 (hall 16 (by decide))
    have hq := c17 (hall 17 (by decide))
    obtain ⟨_, t0, t1, t2, _, _, _⟩ := id oRA
    obtain ⟨⟨_, t3, t4⟩, _, _⟩ := id oRC
    have hrs : ∀ k ∈ [w.heap.size + 1, w.heap.size], k < w.heap.size + 1 + 1 := by intro k hk; simp at hk; omega
    have HF := Lib.hid (And.intro (G.intsY HII.out.1 hrs) (And.intro (G.intsY HII.out.2.1 hrs) (G.intsY HII.out.2.2 hrs)))
    have HO := Lib.hid G.old
    clear c0 c1 c2 c3 c4 c5 c6 c7 c8 c9 c10 c11 c12 c13 c14 c15 c16 c17 hall G oRA oRC
    go_wp2
    exact bodyPost_ret (v := .tuple #[av ⟨xa, xl, xc⟩ ⟨ya, yl, yc⟩ ⟨za, zl, zc⟩, .int .i64 st, pt xRC yRC]) (by simp [results, Try.results13, go_sem, t0, t1, t2, t3, t4]) rfl
      ⟨⟨xa, xl, xc⟩, ⟨ya, yl, yc⟩, ⟨za, zl, zc⟩, ls, lo, hi, st, (xRC, yRC), rfl, HF.out, HL.out, ⟨st0, st1⟩, hq, HO.out⟩
end Go.Proofs.Ytkogoflcacameaa
