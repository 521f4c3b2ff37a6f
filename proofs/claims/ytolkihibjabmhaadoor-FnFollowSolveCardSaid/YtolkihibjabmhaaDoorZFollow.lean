/- Several of my texts in one: SolveH, DrawT, WFollowSolve. -/
import Derived.Test.YtolkihibjabmhaaDoorZIm
import Derived.Test.YtolkihibjabmhaaDoorOp
import Derived.Test.YtolkihibjabmhaaDoorZDraw
namespace Go.Proofs.YtolkihibjabmhaaDoor
set_option maxRecDepth 100000
open Go.RowKit
attribute [local go_sem ↓] Go.wp_at_zero Go.wp_at_succ
/-- A drawn arm and a point: the lists are short; nothing that was there has changed. -/
def GotArmT (w : World) (e : Ending) (w' : World) : Prop :=
  ∃ (x y z : Sl) (ls lo hi : List Int) (tx ty : Int), e = .returned (.tuple #[av x y z, pt tx ty]) ∧ IntsAt w' x.a x.len ls ∧ IntsAt w' y.a y.len lo ∧ IntsAt w' z.a z.len hi ∧ (x.len ≤ 5 ∧ y.len ≤ 4 ∧ z.len ≤ 4) ∧ (-20000 ≤ tx ∧ tx ≤ 20000 ∧ -20000 ≤ ty ∧ ty ≤ 20000) ∧ Below w.heap.size w w'
/-- What the draw of an arm and a point says at every code. -/
def DrawsSolve : Prop := ∀ (w : World) (a : Option Addr) (len cap : Nat) (zs : List Int), Bytes w a len cap zs → Calls Tryd.prog 38 #[.slice a len cap] w (GotArmT w)
/-- The solution of a valid arm with two links. -/
theorem solve_two {ls lo hi : List Int} {tx ty : Int} (h : okSweep ls lo hi ∧ okP tx ty) : ∃ vs, solveV ls lo hi tx ty = vs ∧ vs.length = 2 ∧ okJoints ls lo hi vs ∧ ∀ us, okJoints ls lo hi us → distV ls tx ty vs ≤ distV ls tx ty us := by
  obtain ⟨a, b, h1, h2, h3, h4⟩ := solve_is tx ty h.1.1 h.1.2.1
  refine ⟨[a, b], by rw [solveV_in h, h1]; rfl, rfl, ⟨h.1.1, by rw [h.1.2.1]; rfl, fun k hk => ?_⟩, fun us hu => ?_⟩
  · have hk2 : k = 0 ∨ k = 1 := by simp at hk; omega
    rcases hk2 with rfl | rfl
    · exact h2
    · exact h3
  · have hl : us.length = 2 := by rw [hu.2.1, h.1.2.1]
    have e : us = [us.getD 0 0, us.getD 1 0] := by
      match us, hl with
      | [p, q], _ => rfl
    have u0 := hu.2.2 0 (by omega)
    have u1 := hu.2.2 1 (by omega)
    rw [e]
    exact h4 _ _ u0.1 u0.2 u1.1 u1.2
theorem solveV_four (ls lo hi : List Int) (tx ty : Int) : (solveV ls lo hi tx ty).length ≤ 4 := by
  by_cases h : okSweep ls lo hi ∧ okP tx ty
  · obtain ⟨vs, h1, h2, _⟩ := solve_two h
    rw [h1, h2]; omega
  · rw [solveV_out h]; simp
theorem low_ok {ls lo hi : List Int} (h : okArm ls lo hi) : okJoints ls lo hi lo := by
  refine ⟨h, h.2.2.1, fun k hk => ⟨Int.le_refl _, ?_⟩⟩
  have := h.2.2.2.2 k (by rw [← h.2.2.1]; exact hk)
  unfold okLink at this
  omega
end Go.Proofs.YtolkihibjabmhaaDoor
namespace Go.Proofs.YtolkihibjabmhaaDoor
open Go.RowKit
attribute [local go_sem ↓] Go.wp_at_zero Go.wp_at_succ
theorem intsFrom_nil (u : World) (b : Nat) : IntsFrom u b none 0 [] := ⟨rfl, .inl rfl⟩
/-- Another arm in the variable. -/
theorem FSt.putV {w0 u : World} {B M r V : Nat} {rx ry rz : Value} {px py : Int} {x y z s : Sl} {ls lo hi js : List Int} {x' y' z' : Sl} {ls' lo' hi' : List Int} {c : Nat} (h : FSt w0 B M r V u rx ry rz px py x y z s ls lo hi js) (h1 : w0.heap.size + 1 < r) (h2 : r < V) (hB : B ≤ w0.heap.size) (hc : V < c) (hs : s.len = 0) (i1 : IntsFrom u c x'.a x'.len ls') (i2 : IntsFrom u c y'.a y'.len lo') (i3 : IntsFrom u c z'.a z'.len hi') :
    FSt w0 B M r V (((u.setCell ⟨V, 0, none⟩ (.slice x'.a x'.len x'.cap)).setCell ⟨V, 1, none⟩ (.slice y'.a y'.len y'.cap)).setCell ⟨V, 2, none⟩ (.slice z'.a z'.len z'.cap)) rx ry rz px py x' y' z' s ls' lo' hi' js :=
  ⟨((h.rd.set (by omega) (by omega) _).set (by omega) (by omega) _).set (by omega) (by omega) _, ((h.old.setCell (p := ⟨V, 0, none⟩) (by simp; omega) _).setCell (p := ⟨V, 1, none⟩) (by simp; omega) _).setCell (p := ⟨V, 2, none⟩) (by simp; omega) _, ((h.res.far (by omega) _).far (by omega) _).far (by omega) _, ((h.rp.far (by omega) _).far (by omega) _).far (by omega) _, ((h.var.put0 _).put1 _).put2 _,
    (((i1.off hc _).off hc _).off hc _).down (by omega), (((i2.off hc _).off hc _).off hc _).down (by omega), (((i3.off hc _).off hc _).off hc _).down (by omega), ((h.js.far (.inl hs) _).far (.inl hs) _).far (.inl hs) _⟩
set_option maxHeartbeats 4000000 in
theorem drawSolveArm : DrawsSolve := by
  intro w a len cap zs h
  have hle := h.len_le
  have HB := Lib.hid (below_box2 w (.cells #[.slice none 0 0, .slice none 0 0, .slice none 0 0] 25) (.cells #[.int .i64 0, .int .i64 0] 35))
  have R := (AtA.box w (.slice none 0 0) (.slice none 0 0) (.slice none 0 0) 25).alloc (.cells #[.int .i64 0, .int .i64 0] 35)
  have RP := OwnP.box (w.alloc (.cells #[.slice none 0 0, .slice none 0 0, .slice none 0 0] 25)) 0 0 35
  rw [show (w.alloc (.cells #[.slice none 0 0, .slice none 0 0, .slice none 0 0] 25)).heap.size = w.heap.size + 1 by simp] at RP
  go_enter Tryd.func38, Tryd.ntmps38
  go_wp2_with fail
  refine (open_codeB w.heap.size _ a len cap HB.out.size hle.1 (by have := hle.2; unfold maxLen at this; omega) (fun k hk => (h.code k hk).below fun x hx => HB.out.cell hx)).mono ?_
  generalize (w.alloc (.cells #[.slice none 0 0, .slice none 0 0, .slice none 0 0] 25)).alloc (.cells #[.int .i64 0, .int .i64 0] 35) = w0 at *
  rintro e w1 ⟨rfl, hr1, hb1⟩
  have hR := RP.lt
  have R1 := R.next hb1
  have RP1 := RP.next hb1
  have HB1 := Lib.hid (below_call HB.out hb1)
  have h01 : w0.heap.size < w1.heap.size := hr1.lt
  clear hb1 R RP h hle
  go_wp2_with fail
  refine (l20Small _ _ _ 14 _ hr1 (by omega) (by omega) (by omega)).mono ?_
  rintro e w2 ⟨⟨xa, xl, xc⟩, ⟨ya, yl, yc⟩, ⟨za, zl, zc⟩, ls, lo, hi, rfl, i1, i2, i3, lx, ly, lz, _, _, sy, sz, hr2, hg2⟩
  simp only at i1 i2 i3 lx ly lz
  have R2 := R1.kept hg2 (by simp; omega)
  have RP2 := RP1.grown hg2 (by omega)
  have HB2 := Lib.hid (below_of' HB1.out hg2 (by omega))
  have Bv := below_box w2 (.cells #[.slice xa xl xc, .slice ya yl yc, .slice za zl zc] 25)
  have hv : w0.heap.size < w2.heap.size := hr2.lt
  have F0 : FSt w w.heap.size (0 + 30) w0.heap.size w2.heap.size (w2.alloc (.cells #[.slice xa xl xc, .slice ya yl yc, .slice za zl zc] 25)) (.slice none 0 0) (.slice none 0 0) (.slice none 0 0) 0 0 ⟨xa, xl, xc⟩ ⟨ya, yl, yc⟩ ⟨za, zl, zc⟩ ⟨none, 0, 0⟩ ls lo hi [] :=
    ⟨hr2.next Bv, below_call HB2.out Bv, R2.next Bv, RP2.next Bv, AtA.box w2 _ _ _ _, (i1.down (by omega)).next Bv, (i2.down (by omega)).next Bv, (i3.down (by omega)).next Bv, intsFrom_nil _ _⟩
  have HS := Lib.hid (And.intro sy sz)
  clear hr1 hr2 hg2 R1 RP1 R2 RP2 i1 i2 i3 Bv HB HB1 HB2 sy sz
  go_wp2_with fail
  refine (oddA _ _ _ 20 _ F0.rd (by omega) (by omega) (by omega)).mono ?_
  generalize w2.alloc (.cells #[.slice xa xl xc, .slice ya yl yc, .slice za zl zc] 25) = w3 at *
  generalize w2.heap.size = V at *
  rintro e w4 ⟨b, rfl, hr4, hg4, hs4⟩
  have F4 := F0.grown hr4 hg4 hR hv
  clear hr4 hg4 hs4 F0
  cases b with
  | false =>
    have HTG := Lib.hid (fun (u : World) (h : FSt w w.heap.size (0 + 30 + 1) w0.heap.size V u (.slice none 0 0) (.slice none 0 0) (.slice none 0 0) 0 0 ⟨xa, xl, xc⟩ ⟨ya, yl, yc⟩ ⟨za, zl, zc⟩ ⟨none, 0, 0⟩ ls lo hi []) => show Calls Tryd.prog 71 #[.pointer (some ⟨w0.heap.size, 0, none⟩), av ⟨xa, xl, xc⟩ ⟨ya, yl, yc⟩ ⟨za, zl, zc⟩] u fun e u' => ∃ tx ty : Int, e = .returned (pt tx ty) ∧ Hid (-20000 ≤ tx ∧ tx ≤ 20000 ∧ -20000 ≤ ty ∧ ty ≤ 20000) ∧ FSt w w.heap.size (0 + 30 + 1 + 20) w0.heap.size V u' (.slice none 0 0) (.slice none 0 0) (.slice none 0 0) 0 0 ⟨xa, xl, xc⟩ ⟨ya, yl, yc⟩ ⟨za, zl, zc⟩ ⟨none, 0, 0⟩ ls lo hi [] from
      (l20Target _ _ _ ⟨xa, xl, xc⟩ ⟨ya, yl, yc⟩ ⟨za, zl, zc⟩ ls lo hi u h.rd (by omega) h.ix h.iy h.iz (by simp only; omega) (by simp only; omega) (by simp only; omega) HS.out.1 HS.out.2).mono fun e u' ⟨tx, ty, t1, t2, t3, t4, he, hr, hg⟩ => ⟨tx, ty, he, Lib.hid ⟨t1, t2, t3, t4⟩, h.grown hr hg hR hv⟩)
    have F6 := F4.drew
    have k6 := F6.cells
    obtain ⟨_, s0, s1, s2, y0, y1, y2⟩ := id F6.res
    go_wp2
    go_region_held3 (fun u => u.cell? ⟨V, 0, none⟩ = some (.slice xa xl xc) ∧ u.cell? ⟨V, 1, none⟩ = some (.slice ya yl yc) ∧ u.cell? ⟨V, 2, none⟩ = some (.slice za zl zc)) (first | (with_reducible exact k6) | (with_reducible exact k7) | (with_reducible exact k8) | (with_reducible exact k9)) (first
      | (go_at_call 71
         (with_reducible refine (HTG.out _ F6).mono ?_)
         rintro e w7 ⟨tx, ty, rfl, HTB, F7⟩
         have F8 := F7.putA hR hv (Nat.le_refl _) (.slice xa xl xc) (.slice ya yl yc) (.slice za zl zc)
         have F9 := F8.putP hR hv (Nat.le_refl _) tx ty
         have k7 := F7.cells
         have k8 := F8.cells
         have k9 := F9.cells
         obtain ⟨_, t0, t1, t2, u0, u1, u2⟩ := id F7.res
         obtain ⟨⟨_, p0, p1⟩, q0, q1⟩ := id F7.rp
         have HF := Lib.hid F9
         obtain ⟨⟨_, _, _⟩, q2, q3⟩ := id F8.rp
         clear F7 F8 F9)
      | fail)
    obtain ⟨_, x0, x1, x2, _, _, _⟩ := id HF.out.res
    obtain ⟨⟨_, n0, n1⟩, _, _⟩ := id HF.out.rp
    clear F4 F6 k6 k7 k8 k9
    go_wp2
    exact bodyPost_ret (v := .tuple #[av ⟨xa, xl, xc⟩ ⟨ya, yl, yc⟩ ⟨za, zl, zc⟩, pt tx ty]) (by simp [results, Tryd.results38, go_sem, x0, x1, x2, n0, n1]) rfl ⟨⟨xa, xl, xc⟩, ⟨ya, yl, yc⟩, ⟨za, zl, zc⟩, ls, lo, hi, tx, ty, rfl, HF.out.ix.ints, HF.out.iy.ints, HF.out.iz.ints, ⟨by simp only; omega, by simp only; omega, by simp only; omega⟩, HTB.out, HF.out.old⟩
  | true =>
    obtain ⟨_, c0, c1, c2, z0, z1, z2⟩ := id F4.var
    go_wp2_with fail
    refine (l20ArmS _ _ _ 3 0 _ F4.rd (by omega) (by omega) (by omega) (by omega) (by omega)).mono ?_
    have hV4 : V < w4.heap.size := F4.var.lt
    rintro e w5 ⟨⟨xa2, xl2, xc2⟩, ⟨ya2, yl2, yc2⟩, ⟨za2, zl2, zc2⟩, ls2, lo2, hi2, rfl, i1, i2, i3, lx2, ly2, lz2, _, _, sy2, sz2, hr5, hg5⟩
    simp only at i1 i2 i3 lx2 ly2 lz2
    have F5 := F4.grown hr5 hg5 hR hv
    have FV := F5.putV (x' := ⟨xa2, xl2, xc2⟩) (y' := ⟨ya2, yl2, yc2⟩) (z' := ⟨za2, zl2, zc2⟩) hR hv (Nat.le_refl _) hV4 rfl i1 i2 i3
    have HS2 := Lib.hid (And.intro sy2 sz2)
    clear c0 c1 c2 z0 z1 z2
    obtain ⟨_, c0, c1, c2, z0, z1, z2⟩ := id F5.var
    clear F4 F5 i1 i2 i3 hr5 hg5 sy2 sz2
    go_wp2
    generalize ((w5.setCell ⟨V, 0, none⟩ (.slice xa2 xl2 xc2)).setCell ⟨V, 1, none⟩ (.slice ya2 yl2 yc2)).setCell ⟨V, 2, none⟩ (.slice za2 zl2 zc2) = w6 at *
    clear c0 c1 c2 z0 z1 z2
    have HTG := Lib.hid (fun (u : World) (h : FSt w w.heap.size (0 + 30 + 1 + 16) w0.heap.size V u (.slice none 0 0) (.slice none 0 0) (.slice none 0 0) 0 0 ⟨xa2, xl2, xc2⟩ ⟨ya2, yl2, yc2⟩ ⟨za2, zl2, zc2⟩ ⟨none, 0, 0⟩ ls2 lo2 hi2 []) => show Calls Tryd.prog 71 #[.pointer (some ⟨w0.heap.size, 0, none⟩), av ⟨xa2, xl2, xc2⟩ ⟨ya2, yl2, yc2⟩ ⟨za2, zl2, zc2⟩] u fun e u' => ∃ tx ty : Int, e = .returned (pt tx ty) ∧ Hid (-20000 ≤ tx ∧ tx ≤ 20000 ∧ -20000 ≤ ty ∧ ty ≤ 20000) ∧ FSt w w.heap.size (0 + 30 + 1 + 16 + 20) w0.heap.size V u' (.slice none 0 0) (.slice none 0 0) (.slice none 0 0) 0 0 ⟨xa2, xl2, xc2⟩ ⟨ya2, yl2, yc2⟩ ⟨za2, zl2, zc2⟩ ⟨none, 0, 0⟩ ls2 lo2 hi2 [] from
      (l20Target _ _ _ ⟨xa2, xl2, xc2⟩ ⟨ya2, yl2, yc2⟩ ⟨za2, zl2, zc2⟩ ls2 lo2 hi2 u h.rd (by omega) h.ix h.iy h.iz (by simp only; omega) (by simp only; omega) (by simp only; omega) HS2.out.1 HS2.out.2).mono fun e u' ⟨tx, ty, t1, t2, t3, t4, he, hr, hg⟩ => ⟨tx, ty, he, Lib.hid ⟨t1, t2, t3, t4⟩, h.grown hr hg hR hv⟩)
    have F6 := FV.drew
    have k6 := F6.cells
    obtain ⟨_, s0, s1, s2, y0, y1, y2⟩ := id F6.res
    go_wp2
    go_region_held3 (fun u => u.cell? ⟨V, 0, none⟩ = some (.slice xa2 xl2 xc2) ∧ u.cell? ⟨V, 1, none⟩ = some (.slice ya2 yl2 yc2) ∧ u.cell? ⟨V, 2, none⟩ = some (.slice za2 zl2 zc2)) (first | (with_reducible exact k6) | (with_reducible exact k7) | (with_reducible exact k8) | (with_reducible exact k9)) (first
      | (go_at_call 71
         (with_reducible refine (HTG.out _ F6).mono ?_)
         rintro e w7 ⟨tx, ty, rfl, HTB, F7⟩
         have F8 := F7.putA hR hv (Nat.le_refl _) (.slice xa2 xl2 xc2) (.slice ya2 yl2 yc2) (.slice za2 zl2 zc2)
         have F9 := F8.putP hR hv (Nat.le_refl _) tx ty
         have k7 := F7.cells
         have k8 := F8.cells
         have k9 := F9.cells
         obtain ⟨_, t0, t1, t2, u0, u1, u2⟩ := id F7.res
         obtain ⟨⟨_, p0, p1⟩, q0, q1⟩ := id F7.rp
         have HF := Lib.hid F9
         obtain ⟨⟨_, _, _⟩, q2, q3⟩ := id F8.rp
         clear F7 F8 F9)
      | fail)
    obtain ⟨_, x0, x1, x2, _, _, _⟩ := id HF.out.res
    obtain ⟨⟨_, n0, n1⟩, _, _⟩ := id HF.out.rp
    clear FV F6 k6 k7 k8 k9
    go_wp2
    exact bodyPost_ret (v := .tuple #[av ⟨xa2, xl2, xc2⟩ ⟨ya2, yl2, yc2⟩ ⟨za2, zl2, zc2⟩, pt tx ty]) (by simp [results, Tryd.results38, go_sem, x0, x1, x2, n0, n1]) rfl ⟨⟨xa2, xl2, xc2⟩, ⟨ya2, yl2, yc2⟩, ⟨za2, zl2, zc2⟩, ls2, lo2, hi2, tx, ty, rfl, HF.out.ix.ints, HF.out.iy.ints, HF.out.iz.ints, ⟨by simp only; omega, by simp only; omega, by simp only; omega⟩, HTB.out, HF.out.old⟩
end Go.Proofs.YtolkihibjabmhaaDoor
namespace Go.Proofs.YtolkihibjabmhaaDoor
open Go.RowKit
attribute [local go_sem ↓] Go.wp_at_zero Go.wp_at_succ
set_option maxHeartbeats 8000000 in
set_option maxRecDepth 100000 in
theorem walkFnFollowSolveD (hdraw : DrawsSolve) (w : World) (ht : TabAt w) (a : Option Addr) (len cap : Nat) (zs : List Int) (h : Bytes w a len cap zs) :
    Calls Tryd.prog 14 #[.slice a len cap] w fun e w' => e = .returned (.bool true) ∧ Below w.heap.size w w' := by
  have hle := h.len_le
  obtain ⟨hl, hm⟩ := hle
  unfold maxLen at hm
  have HT := Lib.hid ht
  clear ht
  by_cases hlen : len ≤ 1048576
  · go_enter Tryd.func14, Tryd.ntmps14
    go_wp2_with fail
    refine (hdraw w a len cap zs h).mono ?_
    rintro e w1 ⟨⟨xa, xl, xc⟩, ⟨ya, yl, yc⟩, ⟨za, zl, zc⟩, ls, lo, hi, tx, ty, rfl, i1, i2, i3, ⟨lx, ly, lz⟩, HTB, B1⟩
    simp only at i1 i2 i3 lx ly lz
    replace HTB := Lib.hid HTB
    have P := (AtA.box w1 (.slice xa xl xc) (.slice ya yl yc) (.slice za zl zc) 25).alloc (.cells #[.int .i64 tx, .int .i64 ty] 35)
    have Q := AtP.box (w1.alloc (.cells #[.slice xa xl xc, .slice ya yl yc, .slice za zl zc] 25)) tx ty 35
    rw [show (w1.alloc (.cells #[.slice xa xl xc, .slice ya yl yc, .slice za zl zc] 25)).heap.size = w1.heap.size + 1 by simp] at Q
    have Bx := below_box2 w1 (.cells #[.slice xa xl xc, .slice ya yl yc, .slice za zl zc] 25) (.cells #[.int .i64 tx, .int .i64 ty] 35)
    replace i1 := i1.next Bx
    replace i2 := i2.next Bx
    replace i3 := i3.next Bx
    have HB := Lib.hid (below_call B1 Bx)
    clear B1 Bx h
    go_wp2_with fail
    refine (implSolveArm ⟨xa, xl, xc⟩ ⟨ya, yl, yc⟩ ⟨za, zl, zc⟩ ls lo hi tx ty _ (HT.out.below HB.out HT.out.lt) i1 i2 i3 (by simp only; omega) (by simp only; omega) (by simp only; omega)).mono ?_
    generalize (w1.alloc (.cells #[.slice xa xl xc, .slice ya yl yc, .slice za zl zc] 25)).alloc (.cells #[.int .i64 tx, .int .i64 ty] 35) = w2 at *
    rintro e w3 ⟨⟨ca, cl, cc⟩, rfl, O3, e3, B3⟩
    replace i1 := i1.next B3
    replace i2 := i2.next B3
    replace i3 := i3.next B3
    replace P := P.next B3
    replace Q := Q.next B3
    replace HB := Lib.hid (below_call HB.out B3)
    simp only at O3 e3
    have i5 := O3.ints
    replace e3 := Lib.hid e3
    clear O3 B3
    obtain ⟨_, p1, p2, p3, _, _, _⟩ := id P
    obtain ⟨_, q1, q2⟩ := id Q
    go_wp2_with fail
    refine (specSolveArm ⟨xa, xl, xc⟩ ⟨ya, yl, yc⟩ ⟨za, zl, zc⟩ ls lo hi tx ty _ i1 i2 i3 (by simp only; omega) (by simp only; omega) (by simp only; omega)).mono ?_
    rintro e w4 ⟨⟨da, dl, dc⟩, rfl, O4, e4, B4⟩
    replace i1 := i1.next B4
    replace i2 := i2.next B4
    replace i3 := i3.next B4
    replace P := P.next B4
    replace Q := Q.next B4
    replace i5 := i5.next B4
    replace HB := Lib.hid (below_call HB.out B4)
    simp only at O4 e4
    obtain rfl : cl = dl := by rw [e3.out, e4]
    have i6 := O4.ints
    clear O4 e4 B4 p1 p2 p3 q1 q2
    have hcl : cl ≤ 4 := by rw [e3.out]; exact solveV_four ls lo hi tx ty
    go_wp2_with fail
    refine (sameInts ca da cl cl cc dc (solveV ls lo hi tx ty) _ i5 i6 (by omega)).mono ?_
    rintro e w5 ⟨rfl, B5⟩
    replace i1 := i1.next B5
    replace i2 := i2.next B5
    replace i3 := i3.next B5
    replace P := P.next B5
    replace Q := Q.next B5
    replace i5 := i5.next B5
    replace HB := Lib.hid (below_call HB.out B5)
    clear B5 i6
    by_cases hv : okSweep ls lo hi ∧ okP tx ty
    · obtain ⟨vs, hvs, hv2, hvo, hvl⟩ := solve_two hv
      rw [hvs] at i5 e3
      obtain rfl : cl = 2 := by rw [e3.out, hv2]
      have HV := Lib.hid hv
      have HOV := Lib.hid hvo
      have HLE := Lib.hid hvl
      clear hvs hv2 hvo hvl hv e3 hcl
      have HLO := Lib.hid (low_ok HV.out.1.1)
      have HFV := Lib.hid (show followV ls lo hi lo tx ty 200 = flJ ls lo hi lo tx ty 200 from followV_in ⟨HLO.out, HV.out.2, by omega, by omega⟩)
      have HFO := Lib.hid (flJ_ok tx ty HLO.out 200)
      obtain ⟨_, p1, p2, p3, _, _, _⟩ := id P
      obtain ⟨_, q1, q2⟩ := id Q
      go_wp2_with fail
      refine (implFollowPoint ⟨xa, xl, xc⟩ ⟨ya, yl, yc⟩ ⟨za, zl, zc⟩ ⟨ya, yl, yc⟩ ls lo hi lo tx ty 200 _ (HT.out.below HB.out HT.out.lt) i1 i2 i3 i2 (by simp only; omega) (by simp only; omega) (by simp only; omega) (by simp only; omega)).mono ?_
      rw [HFV.out]
      rintro e w6 ⟨⟨fa, fl, fc⟩, rfl, O6, e6, B6⟩
      replace i1 := i1.next B6
      replace i2 := i2.next B6
      replace i3 := i3.next B6
      replace P := P.next B6
      replace Q := Q.next B6
      replace i5 := i5.next B6
      replace HB := Lib.hid (below_call HB.out B6)
      simp only at O6 e6
      have hfl : fl ≤ 4 := by rw [e6, HFO.out.2.1]; exact HFO.out.1.2.1
      have i7 := O6.ints
      replace e6 := Lib.hid e6
      have he : decide (distV ls tx ty vs ≤ distV ls tx ty (flJ ls lo hi lo tx ty 200)) = true := decide_eq_true (HLE.out _ HFO.out)
      generalize flJ ls lo hi lo tx ty 200 = us at *
      clear O6 B6 p1 p2 p3 q1 q2
      have HTB2 := Lib.hid (HT.out.below HB.out HT.out.lt)
      have HT1 := Lib.hid (fun (n : Kept w6) => keptCall (implTipOf ⟨xa, xl, xc⟩ ⟨ya, yl, yc⟩ ⟨za, zl, zc⟩ ⟨ca, 2, cc⟩ ls lo hi vs n.u (HTB2.out.below n.b HTB2.out.lt) (i1.next n.b) (i2.next n.b) (i3.next n.b) (i5.next n.b) (by simp only; omega) (by simp only; omega) (by simp only; omega) (by simp only; omega)))
      have HT2 := Lib.hid (fun (n : Kept w6) => keptCall (implTipOf ⟨xa, xl, xc⟩ ⟨ya, yl, yc⟩ ⟨za, zl, zc⟩ ⟨fa, fl, fc⟩ ls lo hi us n.u (HTB2.out.below n.b HTB2.out.lt) (i1.next n.b) (i2.next n.b) (i3.next n.b) (i7.next n.b) (by simp only; omega) (by simp only; omega) (by simp only; omega) (by simp only; omega)))
      have HS1 := Lib.hid (fun (n : Kept w6) => keptCall (implSquaredDistance (tipX ls lo hi vs) (tipY ls lo hi vs) tx ty n.u))
      have HS2 := Lib.hid (fun (n : Kept w6) => keptCall (implSquaredDistance (tipX ls lo hi us) (tipY ls lo hi us) tx ty n.u))
      rw [tip_dist tx ty HOV.out] at HS1
      rw [tip_dist tx ty HFO.out] at HS2
      generalize distV ls tx ty vs = dv at *
      generalize distV ls tx ty us = dj at *
      generalize tipX ls lo hi vs = ax at *
      generalize tipY ls lo hi vs = ay at *
      generalize tipX ls lo hi us = bx at *
      generalize tipY ls lo hi us = by' at *
      obtain ⟨a0, a1, a2⟩ := P.kepts
      obtain ⟨q0, q1⟩ := Q.kepts
      clear i1 i2 i3 i5 i7 P Q
      go_wp2
      refine wp_region_kept (by kernel_rfl) (by kernel_rfl) ?_
      repeat (go_big_quiet_step ((first | (go_at_call 33; with_reducible exact HT1.out _) | (go_at_call 33; with_reducible exact HT2.out _) | (go_at_call 21; with_reducible exact HS1.out _) | (go_at_call 21; with_reducible exact HS2.out _))))
      refine wpQuiet_nil ?_
      rintro wq ⟨⟨_, Bq⟩, rfl⟩
      have HE := Lib.hid (below_call HB.out Bq)
      clear Bq
      go_wp2
      go_ret
      exact ⟨rfl, HE.out⟩
    · obtain rfl : cl = 0 := by
        have h1 := e3.out
        rw [solveV_out hv] at h1
        exact h1
      clear i1 i2 i3 i5 P Q hv
      go_wp2_with fail
      refine (alive _).mono ?_
      rintro e w' ⟨rfl, rfl⟩
      go_wp2
      go_ret
      exact ⟨rfl, HB.out⟩
  · clear h
    go_enter Tryd.func14, Tryd.ntmps14
    go_wp2
    go_ret
    exact ⟨rfl, Below.refl _ _⟩
end Go.Proofs.YtolkihibjabmhaaDoor
namespace Go.Proofs.YtolkihibjabmhaaDoor
open Go.RowKit
theorem walkFnFollowSolve (w : World) (ht : TabAt w) (a : Option Addr) (len cap : Nat) (zs : List Int) (h : Bytes w a len cap zs) :
    Calls Tryd.prog 14 #[.slice a len cap] w fun e w' => e = .returned (.bool true) ∧ Below w.heap.size w w' := walkFnFollowSolveD drawSolveArm w ht a len cap zs h
end Go.Proofs.YtolkihibjabmhaaDoor
