/- Several of my texts in one: SolveH, DrawT, WSolveArm. -/
import Derived.Test.YtolkihibjabmhaaDoorZIm
import Derived.Test.YtolkihibjabmhaaDoorOp
import Derived.Test.YtolkihibjabmhaaDoorZDraw
import Derived.StillTailTactics
namespace Go.Proofs.YtolkihibjabmhaaDoor
set_option maxRecDepth 100000
open Go.RowKit
attribute [local go_sem ↓] Go.wp_at_zero Go.wp_at_succ
/-- A drawn arm and a point: the lists are short; nothing that was there has changed. -/
def GotArmT (w : World) (e : Ending) (w' : World) : Prop :=
  ∃ (x y z : Sl) (ls lo hi : List Int) (tx ty : Int), e = .returned (.tuple #[av x y z, pt tx ty]) ∧ IntsAt w' x.a x.len ls ∧ IntsAt w' y.a y.len lo ∧ IntsAt w' z.a z.len hi ∧ (x.len ≤ 5 ∧ y.len ≤ 4 ∧ z.len ≤ 4) ∧ (-20000 ≤ tx ∧ tx ≤ 20000 ∧ -20000 ≤ ty ∧ ty ≤ 20000) ∧ Below w.heap.size w w'
/-- What the draw of an arm and a point says at every code. -/
def DrawsSolve : Prop := ∀ (w : World) (a : Option Addr) (len cap : Nat) (zs : List Int), Bytes w a len cap zs → Calls Tryd.prog 38 #[.slice a len cap] w (GotArmT w)
/-- The solution of a valid arm with two links. -/
theorem solve_two {ls lo hi : List Int} {tx ty : Int} (h : okSweep ls lo hi ∧ okP tx ty) : ∃ vs, solveV ls lo hi tx ty = vs ∧ vs.length = 2 ∧ okJoints ls lo hi vs ∧ ∀ us, okJoints ls lo hi us → distV ls tx ty vs ≤ distV ls tx ty us := by
  obtain ⟨a, b, h1, h2, h3, h4⟩ := solve_is tx ty h.1.1 h.1.2.1
  refine ⟨[a, b], by rw [solveV_in h, h1]; rfl, rfl, ⟨h.1.1, by rw [h.1.2.1]; rfl, fun k hk => ?_⟩, fun us hu => ?_⟩
  · have hk2 : k = 0 ∨ k = 1 := by simp at hk; omega
    rcases hk2 with rfl | rfl
    · exact h2
    · exact h3
  · have hl : us.length = 2 := by rw [hu.2.1, h.1.2.1]
    have e : us = [us.getD 0 0, us.getD 1 0] := by
      match us, hl with
      | [p, q], _ => rfl
    have u0 := hu.2.2 0 (by omega)
    have u1 := hu.2.2 1 (by omega)
    rw [e]
    exact h4 _ _ u0.1 u0.2 u1.1 u1.2
theorem solveV_four (ls lo hi : List Int) (tx ty : Int) : (solveV ls lo hi tx ty).length ≤ 4 := by
  by_cases h : okSweep ls lo hi ∧ okP tx ty
  · obtain ⟨vs, h1, h2, _⟩ := solve_two h
    rw [h1, h2]; omega
  · rw [solveV_out h]; simp
theorem low_ok {ls lo hi : List Int} (h : okArm ls lo hi) : okJoints ls lo hi lo := by
  refine ⟨h, h.2.2.1, fun k hk => ⟨Int.le_refl _, ?_⟩⟩
  have := h.2.2.2.2 k (by rw [← h.2.2.1]; exact hk)
  unfold okLink at this
  omega
end Go.Proofs.YtolkihibjabmhaaDoor
namespace Go.Proofs.YtolkihibjabmhaaDoor
open Go.RowKit
attribute [local go_sem ↓] Go.wp_at_zero Go.wp_at_succ
theorem intsFrom_nil (u : World) (b : Nat) : IntsFrom u b none 0 [] := ⟨rfl, .inl rfl⟩
/-- Another arm in the variable. -/
theorem FSt.putV {w0 u : World} {B M r V : Nat} {rx ry rz : Value} {px py : Int} {x y z s : Sl} {ls lo hi js : List Int} {x' y' z' : Sl} {ls' lo' hi' : List Int} {c : Nat} (h : FSt w0 B M r V u rx ry rz px py x y z s ls lo hi js) (h1 : w0.heap.size + 1 < r) (h2 : r < V) (hB : B ≤ w0.heap.size) (hc : V < c) (hs : s.len = 0) (i1 : IntsFrom u c x'.a x'.len ls') (i2 : IntsFrom u c y'.a y'.len lo') (i3 : IntsFrom u c z'.a z'.len hi') :
    FSt w0 B M r V (((u.setCell ⟨V, 0, none⟩ (.slice x'.a x'.len x'.cap)).setCell ⟨V, 1, none⟩ (.slice y'.a y'.len y'.cap)).setCell ⟨V, 2, none⟩ (.slice z'.a z'.len z'.cap)) rx ry rz px py x' y' z' s ls' lo' hi' js :=
  ⟨((h.rd.set (by omega) (by omega) _).set (by omega) (by omega) _).set (by omega) (by omega) _, ((h.old.setCell (p := ⟨V, 0, none⟩) (by simp; omega) _).setCell (p := ⟨V, 1, none⟩) (by simp; omega) _).setCell (p := ⟨V, 2, none⟩) (by simp; omega) _, ((h.res.far (by omega) _).far (by omega) _).far (by omega) _, ((h.rp.far (by omega) _).far (by omega) _).far (by omega) _, ((h.var.put0 _).put1 _).put2 _,
    (((i1.off hc _).off hc _).off hc _).down (by omega), (((i2.off hc _).off hc _).off hc _).down (by omega), (((i3.off hc _).off hc _).off hc _).down (by omega), ((h.js.far (.inl hs) _).far (.inl hs) _).far (.inl hs) _⟩
set_option maxHeartbeats 4000000 in
theorem drawSolveArm : DrawsSolve := by
  intro w a len cap zs h
  have hle := h.len_le
  have HB := Lib.hid (below_box2 w (.cells #[.slice none 0 0, .slice none 0 0, .slice none 0 0] 25) (.cells #[.int .i64 0, .int .i64 0] 35))
  have R := (AtA.box w (.slice none 0 0) (.slice none 0 0) (.slice none 0 0) 25).alloc (.cells #[.int .i64 0, .int .i64 0] 35)
  have RP := OwnP.box (w.alloc (.cells #[.slice none 0 0, .slice none 0 0, .slice none 0 0] 25)) 0 0 35
  rw [show (w.alloc (.cells #[.slice none 0 0, .slice none 0 0, .slice none 0 0] 25)).heap.size = w.heap.size + 1 by simp] at RP
  go_enter Tryd.func38, Tryd.ntmps38
  go_wp2_with fail
  refine (open_codeB w.heap.size _ a len cap HB.out.size hle.1 (by have := hle.2; unfold maxLen at this; omega) (fun k hk => (h.code k hk).below fun x hx => HB.out.cell hx)).mono ?_
  generalize (w.alloc (.cells #[.slice none 0 0, .slice none 0 0, .slice none 0 0] 25)).alloc (.cells #[.int .i64 0, .int .i64 0] 35) = w0 at *
  rintro e w1 ⟨rfl, hr1, hb1⟩
  have hR := RP.lt
  have R1 := R.next hb1
  have RP1 := RP.next hb1
  have HB1 := Lib.hid (below_call HB.out hb1)
  have h01 : w0.heap.size < w1.heap.size := hr1.lt
  clear hb1 R RP h hle
  go_wp2_with fail
  refine (l20Small _ _ _ 14 _ hr1 (by omega) (by omega) (by omega)).mono ?_
  rintro e w2 ⟨⟨xa, xl, xc⟩, ⟨ya, yl, yc⟩, ⟨za, zl, zc⟩, ls, lo, hi, rfl, i1, i2, i3, lx, ly, lz, _, _, sy, sz, hr2, hg2⟩
  simp only at i1 i2 i3 lx ly lz
  have R2 := R1.kept hg2 (by simp; omega)
  have RP2 := RP1.grown hg2 (by omega)
  have HB2 := Lib.hid (below_of' HB1.out hg2 (by omega))
  have Bv := below_box w2 (.cells #[.slice xa xl xc, .slice ya yl yc, .slice za zl zc] 25)
  have hv : w0.heap.size < w2.heap.size := hr2.lt
  have F0 : FSt w w.heap.size (0 + 30) w0.heap.size w2.heap.size (w2.alloc (.cells #[.slice xa xl xc, .slice ya yl yc, .slice za zl zc] 25)) (.slice none 0 0) (.slice none 0 0) (.slice none 0 0) 0 0 ⟨xa, xl, xc⟩ ⟨ya, yl, yc⟩ ⟨za, zl, zc⟩ ⟨none, 0, 0⟩ ls lo hi [] :=
    ⟨hr2.next Bv, below_call HB2.out Bv, R2.next Bv, RP2.next Bv, AtA.box w2 _ _ _ _, (i1.down (by omega)).next Bv, (i2.down (by omega)).next Bv, (i3.down (by omega)).next Bv, intsFrom_nil _ _⟩
  have HS := Lib.hid (And.intro sy sz)
  clear hr1 hr2 hg2 R1 RP1 R2 RP2 i1 i2 i3 Bv HB HB1 HB2 sy sz
  go_wp2_with fail
  refine (oddA _ _ _ 20 _ F0.rd (by omega) (by omega) (by omega)).mono ?_
  generalize w2.alloc (.cells #[.slice xa xl xc, .slice ya yl yc, .slice za zl zc] 25) = w3 at *
  generalize w2.heap.size = V at *
  rintro e w4 ⟨b, rfl, hr4, hg4, hs4⟩
  have F4 := F0.grown hr4 hg4 hR hv
  clear hr4 hg4 hs4 F0
  cases b with
  | false =>
    have HTG := Lib.hid (fun (u : World) (h : FSt w w.heap.size (0 + 30 + 1) w0.heap.size V u (.slice none 0 0) (.slice none 0 0) (.slice none 0 0) 0 0 ⟨xa, xl, xc⟩ ⟨ya, yl, yc⟩ ⟨za, zl, zc⟩ ⟨none, 0, 0⟩ ls lo hi []) => show Calls Tryd.prog 71 #[.pointer (some ⟨w0.heap.size, 0, none⟩), av ⟨xa, xl, xc⟩ ⟨ya, yl, yc⟩ ⟨za, zl, zc⟩] u fun e u' => ∃ tx ty : Int, e = .returned (pt tx ty) ∧ Hid (-20000 ≤ tx ∧ tx ≤ 20000 ∧ -20000 ≤ ty ∧ ty ≤ 20000) ∧ FSt w w.heap.size (0 + 30 + 1 + 20) w0.heap.size V u' (.slice none 0 0) (.slice none 0 0) (.slice none 0 0) 0 0 ⟨xa, xl, xc⟩ ⟨ya, yl, yc⟩ ⟨za, zl, zc⟩ ⟨none, 0, 0⟩ ls lo hi [] from
      (l20Target _ _ _ ⟨xa, xl, xc⟩ ⟨ya, yl, yc⟩ ⟨za, zl, zc⟩ ls lo hi u h.rd (by omega) h.ix h.iy h.iz (by simp only; omega) (by simp only; omega) (by simp only; omega) HS.out.1 HS.out.2).mono fun e u' ⟨tx, ty, t1, t2, t3, t4, he, hr, hg⟩ => ⟨tx, ty, he, Lib.hid ⟨t1, t2, t3, t4⟩, h.grown hr hg hR hv⟩)
    have F6 := F4.drew
    have k6 := F6.cells
    obtain ⟨_, s0, s1, s2, y0, y1, y2⟩ := id F6.res
    go_wp2
    go_region_held3 (fun u => u.cell? ⟨V, 0, none⟩ = some (.slice xa xl xc) ∧ u.cell? ⟨V, 1, none⟩ = some (.slice ya yl yc) ∧ u.cell? ⟨V, 2, none⟩ = some (.slice za zl zc)) (first | (with_reducible exact k6) | (with_reducible exact k7) | (with_reducible exact k8) | (with_reducible exact k9)) (first
      | (go_at_call 71
         (with_reducible refine (HTG.out _ F6).mono ?_)
         rintro e w7 ⟨tx, ty, rfl, HTB, F7⟩
         have F8 := F7.putA hR hv (Nat.le_refl _) (.slice xa xl xc) (.slice ya yl yc) (.slice za zl zc)
         have F9 := F8.putP hR hv (Nat.le_refl _) tx ty
         have k7 := F7.cells
         have k8 := F8.cells
         have k9 := F9.cells
         obtain ⟨_, t0, t1, t2, u0, u1, u2⟩ := id F7.res
         obtain ⟨⟨_, p0, p1⟩, q0, q1⟩ := id F7.rp
         have HF := Lib.hid F9
         obtain ⟨⟨_, _, _⟩, q2, q3⟩ := id F8.rp
         clear F7 F8 F9)
      | fail)
    obtain ⟨_, x0, x1, x2, _, _, _⟩ := id HF.out.res
    obtain ⟨⟨_, n0, n1⟩, _, _⟩ := id HF.out.rp
    clear F4 F6 k6 k7 k8 k9
    go_wp2
    exact bodyPost_ret (v := .tuple #[av ⟨xa, xl, xc⟩ ⟨ya, yl, yc⟩ ⟨za, zl, zc⟩, pt tx ty]) (by simp [results, Tryd.results38, go_sem, x0, x1, x2, n0, n1]) rfl ⟨⟨xa, xl, xc⟩, ⟨ya, yl, yc⟩, ⟨za, zl, zc⟩, ls, lo, hi, tx, ty, rfl, HF.out.ix.ints, HF.out.iy.ints, HF.out.iz.ints, ⟨by simp only; omega, by simp only; omega, by simp only; omega⟩, HTB.out, HF.out.old⟩
  | true =>
    obtain ⟨_, c0, c1, c2, z0, z1, z2⟩ := id F4.var
    go_wp2_with fail
    refine (l20ArmS _ _ _ 3 0 _ F4.rd (by omega) (by omega) (by omega) (by omega) (by omega)).mono ?_
    have hV4 : V < w4.heap.size := F4.var.lt
    rintro e w5 ⟨⟨xa2, xl2, xc2⟩, ⟨ya2, yl2, yc2⟩, ⟨za2, zl2, zc2⟩, ls2, lo2, hi2, rfl, i1, i2, i3, lx2, ly2, lz2, _, _, sy2, sz2, hr5, hg5⟩
    simp only at i1 i2 i3 lx2 ly2 lz2
    have F5 := F4.grown hr5 hg5 hR hv
    have FV := F5.putV (x' := ⟨xa2, xl2, xc2⟩) (y' := ⟨ya2, yl2, yc2⟩) (z' := ⟨za2, zl2, zc2⟩) hR hv (Nat.le_refl _) hV4 rfl i1 i2 i3
    have HS2 := Lib.hid (And.intro sy2 sz2)
    clear c0 c1 c2 z0 z1 z2
    obtain ⟨_, c0, c1, c2, z0, z1, z2⟩ := id F5.var
    clear F4 F5 i1 i2 i3 hr5 hg5 sy2 sz2
    go_wp2
    generalize ((w5.setCell ⟨V, 0, none⟩ (.slice xa2 xl2 xc2)).setCell ⟨V, 1, none⟩ (.slice ya2 yl2 yc2)).setCell ⟨V, 2, none⟩ (.slice za2 zl2 zc2) = w6 at *
    clear c0 c1 c2 z0 z1 z2
    have HTG := Lib.hid (fun (u : World) (h : FSt w w.heap.size (0 + 30 + 1 + 16) w0.heap.size V u (.slice none 0 0) (.slice none 0 0) (.slice none 0 0) 0 0 ⟨xa2, xl2, xc2⟩ ⟨ya2, yl2, yc2⟩ ⟨za2, zl2, zc2⟩ ⟨none, 0, 0⟩ ls2 lo2 hi2 []) => show Calls Tryd.prog 71 #[.pointer (some ⟨w0.heap.size, 0, none⟩), av ⟨xa2, xl2, xc2⟩ ⟨ya2, yl2, yc2⟩ ⟨za2, zl2, zc2⟩] u fun e u' => ∃ tx ty : Int, e = .returned (pt tx ty) ∧ Hid (-20000 ≤ tx ∧ tx ≤ 20000 ∧ -20000 ≤ ty ∧ ty ≤ 20000) ∧ FSt w w.heap.size (0 + 30 + 1 + 16 + 20) w0.heap.size V u' (.slice none 0 0) (.slice none 0 0) (.slice none 0 0) 0 0 ⟨xa2, xl2, xc2⟩ ⟨ya2, yl2, yc2⟩ ⟨za2, zl2, zc2⟩ ⟨none, 0, 0⟩ ls2 lo2 hi2 [] from
      (l20Target _ _ _ ⟨xa2, xl2, xc2⟩ ⟨ya2, yl2, yc2⟩ ⟨za2, zl2, zc2⟩ ls2 lo2 hi2 u h.rd (by omega) h.ix h.iy h.iz (by simp only; omega) (by simp only; omega) (by simp only; omega) HS2.out.1 HS2.out.2).mono fun e u' ⟨tx, ty, t1, t2, t3, t4, he, hr, hg⟩ => ⟨tx, ty, he, Lib.hid ⟨t1, t2, t3, t4⟩, h.grown hr hg hR hv⟩)
    have F6 := FV.drew
    have k6 := F6.cells
    obtain ⟨_, s0, s1, s2, y0, y1, y2⟩ := id F6.res
    go_wp2
    go_region_held3 (fun u => u.cell? ⟨V, 0, none⟩ = some (.slice xa2 xl2 xc2) ∧ u.cell? ⟨V, 1, none⟩ = some (.slice ya2 yl2 yc2) ∧ u.cell? ⟨V, 2, none⟩ = some (.slice za2 zl2 zc2)) (first | (with_reducible exact k6) | (with_reducible exact k7) | (with_reducible exact k8) | (with_reducible exact k9)) (first
      | (go_at_call 71
         (with_reducible refine (HTG.out _ F6).mono ?_)
         rintro e w7 ⟨tx, ty, rfl, HTB, F7⟩
         have F8 := F7.putA hR hv (Nat.le_refl _) (.slice xa2 xl2 xc2) (.slice ya2 yl2 yc2) (.slice za2 zl2 zc2)
         have F9 := F8.putP hR hv (Nat.le_refl _) tx ty
         have k7 := F7.cells
         have k8 := F8.cells
         have k9 := F9.cells
         obtain ⟨_, t0, t1, t2, u0, u1, u2⟩ := id F7.res
         obtain ⟨⟨_, p0, p1⟩, q0, q1⟩ := id F7.rp
         have HF := Lib.hid F9
         obtain ⟨⟨_, _, _⟩, q2, q3⟩ := id F8.rp
         clear F7 F8 F9)
      | fail)
    obtain ⟨_, x0, x1, x2, _, _, _⟩ := id HF.out.res
    obtain ⟨⟨_, n0, n1⟩, _, _⟩ := id HF.out.rp
    clear FV F6 k6 k7 k8 k9
    go_wp2
    exact bodyPost_ret (v := .tuple #[av ⟨xa2, xl2, xc2⟩ ⟨ya2, yl2, yc2⟩ ⟨za2, zl2, zc2⟩, pt tx ty]) (by simp [results, Tryd.results38, go_sem, x0, x1, x2, n0, n1]) rfl ⟨⟨xa2, xl2, xc2⟩, ⟨ya2, yl2, yc2⟩, ⟨za2, zl2, zc2⟩, ls2, lo2, hi2, tx, ty, rfl, HF.out.ix.ints, HF.out.iy.ints, HF.out.iz.ints, ⟨by simp only; omega, by simp only; omega, by simp only; omega⟩, HTB.out, HF.out.old⟩
end Go.Proofs.YtolkihibjabmhaaDoor
namespace Go.Proofs.YtolkihibjabmhaaDoor
open Go.RowKit
attribute [local go_sem ↓] Go.wp_at_zero Go.wp_at_succ
theorem two_ok {ls lo hi : List Int} {p q : Int} (h : okSweep ls lo hi) (p0 : lo.getD 0 0 ≤ p) (p1 : p ≤ hi.getD 0 0) (q0 : lo.getD 1 0 ≤ q) (q1 : q ≤ hi.getD 1 0) : okJoints ls lo hi [p, q] := by
  refine ⟨h.1, by rw [h.2.1]; rfl, fun k hk => ?_⟩
  have hk2 : k = 0 ∨ k = 1 := by have := h.2.1; simp at hk; omega
  rcases hk2 with rfl | rfl
  · exact ⟨p0, p1⟩
  · exact ⟨q0, q1⟩
theorem tip_same {ls lo hi us vs : List Int} (hu : okJoints ls lo hi us) (hv : okJoints ls lo hi vs) (h : distV ls (tipX ls lo hi vs) (tipY ls lo hi vs) us ≤ distV ls (tipX ls lo hi vs) (tipY ls lo hi vs) vs) :
    tipX ls lo hi us = tipX ls lo hi vs ∧ tipY ls lo hi us = tipY ls lo hi vs := by
  have tu := tip_ok hu
  have tv := tip_ok hv
  rw [← tip_dist _ _ hu, ← tip_dist _ _ hv, (sqV_zero ⟨tv, tv⟩).2 ⟨rfl, rfl⟩] at h
  refine (sqV_zero ⟨tu, tv⟩).1 ?_
  rcases Int.lt_or_le (sqV (tipX ls lo hi us) (tipY ls lo hi us) (tipX ls lo hi vs) (tipY ls lo hi vs)) 0 with k | k
  · exact absurd ⟨tu, tv⟩ (sqV_neg k)
  · omega
theorem ints_two (w : World) (p q : Int) (t : TypeId) : IntsAt (w.alloc (.cells #[.int .i64 p, .int .i64 q] t)) (some ⟨w.heap.size, 0, none⟩) 2 [p, q] :=
  ⟨rfl, .inr ⟨w.heap.size, 0, rfl, by simp, fun i hi => by
    have h2 : i = 0 ∨ i = 1 := by simp at hi; omega
    rcases h2 with rfl | rfl <;> simp⟩⟩
set_option maxHeartbeats 8000000 in
set_option maxRecDepth 100000 in
theorem walkFnSolveArmD (hdraw : DrawsSolve) (w : World) (ht : TabAt w) (a : Option Addr) (len cap : Nat) (zs : List Int) (h : Bytes w a len cap zs) (a' : Option Addr) (len' cap' : Nat) (zs' : List Int) (h' : Bytes w a' len' cap' zs') :
    Calls Tryd.prog 7 #[.slice a len cap, .slice a' len' cap'] w fun e w' => e = .returned (.bool true) ∧ Below w.heap.size w w' := by
  have hle := h.len_le
  obtain ⟨hl, hm⟩ := hle
  unfold maxLen at hm
  have hle' := h'.len_le
  obtain ⟨hl', hm'⟩ := hle'
  unfold maxLen at hm'
  have HT := Lib.hid ht
  have HMO := Lib.hid h'
  clear ht h'
  by_cases hlen : len ≤ 1048576 ∧ len' ≤ 1048576
  · obtain ⟨hlen, hlen'⟩ := hlen
    go_enter Tryd.func7, Tryd.ntmps7
    go_wp2_with fail
    refine (hdraw w a len cap zs h).mono ?_
    rintro e w1 ⟨⟨xa, xl, xc⟩, ⟨ya, yl, yc⟩, ⟨za, zl, zc⟩, ls, lo, hi, tx, ty, rfl, i1, i2, i3, ⟨lx, ly, lz⟩, HTB, B1⟩
    simp only at i1 i2 i3 lx ly lz
    replace HTB := Lib.hid HTB
    have P := (AtA.box w1 (.slice xa xl xc) (.slice ya yl yc) (.slice za zl zc) 25).alloc (.cells #[.int .i64 tx, .int .i64 ty] 35)
    have Q := AtP.box (w1.alloc (.cells #[.slice xa xl xc, .slice ya yl yc, .slice za zl zc] 25)) tx ty 35
    rw [show (w1.alloc (.cells #[.slice xa xl xc, .slice ya yl yc, .slice za zl zc] 25)).heap.size = w1.heap.size + 1 by simp] at Q
    have Bx := below_box2 w1 (.cells #[.slice xa xl xc, .slice ya yl yc, .slice za zl zc] 25) (.cells #[.int .i64 tx, .int .i64 ty] 35)
    replace i1 := i1.next Bx
    replace i2 := i2.next Bx
    replace i3 := i3.next Bx
    have HB := Lib.hid (below_call B1 Bx)
    clear B1 Bx h
    go_wp2_with fail
    refine (implSolveArm ⟨xa, xl, xc⟩ ⟨ya, yl, yc⟩ ⟨za, zl, zc⟩ ls lo hi tx ty _ (HT.out.below HB.out HT.out.lt) i1 i2 i3 (by simp only; omega) (by simp only; omega) (by simp only; omega)).mono ?_
    generalize (w1.alloc (.cells #[.slice xa xl xc, .slice ya yl yc, .slice za zl zc] 25)).alloc (.cells #[.int .i64 tx, .int .i64 ty] 35) = w2 at *
    rintro e w3 ⟨⟨ca, cl, cc⟩, rfl, O3, e3, B3⟩
    replace i1 := i1.next B3
    replace i2 := i2.next B3
    replace i3 := i3.next B3
    replace P := P.next B3
    replace Q := Q.next B3
    replace HB := Lib.hid (below_call HB.out B3)
    simp only at O3 e3
    have i5 := O3.ints
    replace e3 := Lib.hid e3
    clear O3 B3
    obtain ⟨_, p1, p2, p3, _, _, _⟩ := id P
    obtain ⟨_, q1, q2⟩ := id Q
    go_wp2_with fail
    refine (specSolveArm ⟨xa, xl, xc⟩ ⟨ya, yl, yc⟩ ⟨za, zl, zc⟩ ls lo hi tx ty _ i1 i2 i3 (by simp only; omega) (by simp only; omega) (by simp only; omega)).mono ?_
    rintro e w4 ⟨⟨da, dl, dc⟩, rfl, O4, e4, B4⟩
    replace i1 := i1.next B4
    replace i2 := i2.next B4
    replace i3 := i3.next B4
    replace P := P.next B4
    replace Q := Q.next B4
    replace i5 := i5.next B4
    replace HB := Lib.hid (below_call HB.out B4)
    simp only at O4 e4
    obtain rfl : cl = dl := by rw [e3.out, e4]
    have i6 := O4.ints
    clear O4 e4 B4 p1 p2 p3 q1 q2
    have hcl : cl ≤ 4 := by rw [e3.out]; exact solveV_four ls lo hi tx ty
    go_wp2_with fail
    refine (sameInts ca da cl cl cc dc (solveV ls lo hi tx ty) _ i5 i6 (by omega)).mono ?_
    rintro e w5 ⟨rfl, B5⟩
    replace i1 := i1.next B5
    replace i2 := i2.next B5
    replace i3 := i3.next B5
    replace P := P.next B5
    replace Q := Q.next B5
    replace i5 := i5.next B5
    replace HB := Lib.hid (below_call HB.out B5)
    clear B5 i6
    by_cases hv : okSweep ls lo hi ∧ okP tx ty
    · obtain ⟨vs, hvs, hv2, hvo, hvl⟩ := solve_two hv
      rw [hvs] at i5 e3
      obtain rfl : cl = 2 := by rw [e3.out, hv2]
      have HV := Lib.hid hv
      have HOV := Lib.hid hvo
      have HLE := Lib.hid hvl
      clear hvs hv2 hvo hvl hv e3 hcl
      obtain ⟨dv, hdv⟩ : ∃ dv, distV ls tx ty vs = dv := ⟨_, rfl⟩
      have HTB2 := Lib.hid (HT.out.below HB.out HT.out.lt)
      have HT1 := Lib.hid (fun (n : Kept w5) => keptCall (implTipOf ⟨xa, xl, xc⟩ ⟨ya, yl, yc⟩ ⟨za, zl, zc⟩ ⟨ca, 2, cc⟩ ls lo hi vs n.u (HTB2.out.below n.b HTB2.out.lt) (i1.next n.b) (i2.next n.b) (i3.next n.b) (i5.next n.b) (by simp only; omega) (by simp only; omega) (by simp only; omega) (by simp only; omega)))
      have HS1 := Lib.hid (fun (n : Kept w5) => keptCall (implSquaredDistance (tipX ls lo hi vs) (tipY ls lo hi vs) tx ty n.u))
      rw [tip_dist tx ty HOV.out, hdv] at HS1
      rw [hdv] at HLE
      obtain ⟨a0, a1, a2⟩ := P.kepts
      obtain ⟨q0, q1⟩ := Q.kepts
      clear hdv
      go_wp2
      refine wp_region_kept (by kernel_rfl) (by kernel_rfl) ?_
      repeat (go_big_quiet_step ((first | (go_at_call 33; with_reducible exact HT1.out _) | (go_at_call 21; with_reducible exact HS1.out _))))
      refine wpQuiet_nil ?_
      rintro wq ⟨⟨_, Bq⟩, rfl⟩
      replace i1 := i1.next Bq
      replace i2 := i2.next Bq
      replace i3 := i3.next Bq
      replace P := P.next Bq
      replace Q := Q.next Bq
      replace i5 := i5.next Bq
      replace HB := Lib.hid (below_call HB.out Bq)
      replace HMO := Lib.hid (HMO.out.below HB.out)
      clear a0 a1 a2 q0 q1 HT1 HS1 Bq HTB2
      have HOK := Lib.hid HV.out.1
      obtain rfl : yl = 2 := by have h1 := i2.1; rw [HOK.out.1.2.2.1, HOK.out.2.1] at h1; exact h1
      obtain rfl : zl = 2 := by have h1 := i3.1; rw [HOK.out.1.2.2.2.1, HOK.out.2.1] at h1; exact h1
      obtain ⟨yb, yo, rfl, ylt, yc2⟩ := i2.some (by omega)
      obtain ⟨zb, zo, rfl, zlt, zc2⟩ := i3.some (by omega)
      have HL0 := Lib.hid (HOK.out.1.2.2.2.2 0 (by rw [HOK.out.2.1]; omega))
      have HL1 := Lib.hid (HOK.out.1.2.2.2.2 1 (by rw [HOK.out.2.1]; omega))
      have HY0 := Lib.hid (yc2 0 (by omega))
      have HY1 := Lib.hid (yc2 1 (by omega))
      have HZ0 := Lib.hid (zc2 0 (by omega))
      have HZ1 := Lib.hid (zc2 1 (by omega))
      have HTQ := Lib.hid (HT.out.below HB.out HT.out.lt)
      clear yc2 zc2
      go_wp2
      go_loopw [9] (fun i wr => ∃ k : Nat, k ≤ 60 ∧ k % 2 = 0 ∧ i = .int .i64 (k : Int) ∧ Hid (Below wq.heap.size wq wr)) (fun i _ => 60 - (intOf i).toNat)
      case atStart => exact ⟨0, by omega, rfl, rfl, Lib.hid (Below.refl _ _)⟩
      case round =>
        obtain ⟨k, hk, hk2, rfl, HW⟩ := hrel
        replace hk2 := Lib.hid hk2
        by_cases hc : k + 1 < len' ∧ k < 60
        · obtain ⟨hc1, hc2⟩ := hc
          obtain ⟨mb, mo, ra, mlt, mcell⟩ : ∃ b off, a' = some ⟨b, off, none⟩ ∧ b < wq.heap.size ∧ ∀ i, i < len' → ∃ z : Int, 0 ≤ z ∧ z ≤ 255 ∧ wq.cell? ⟨b, off + i, none⟩ = some (.int .u8 z) := by
            rcases HMO.out.code len' (Nat.le_refl _) with h0 | ⟨b, off, e, lt, c⟩
            · omega
            · exact ⟨b, off, e, lt, c⟩
          subst ra
          obtain ⟨v0, v00, v01, m0⟩ := mcell k (by omega)
          obtain ⟨v1, v10, v11, m1⟩ := mcell (k + 1) hc1
          obtain ⟨l0, hl0⟩ : ∃ l0, lo.getD 0 0 = l0 := ⟨_, rfl⟩
          obtain ⟨l1, hl1⟩ : ∃ l1, lo.getD 1 0 = l1 := ⟨_, rfl⟩
          obtain ⟨h0, hh0⟩ : ∃ h0, hi.getD 0 0 = h0 := ⟨_, rfl⟩
          obtain ⟨h1, hh1⟩ : ∃ h1, hi.getD 1 0 = h1 := ⟨_, rfl⟩
          have y0 : wr.cell? ⟨yb, yo, none⟩ = some (.int .i64 (lo.getD 0 0)) := (HW.out.cell (p := ⟨yb, yo + 0, none⟩) ylt).trans HY0.out
          have y1 := (HW.out.cell (p := ⟨yb, yo + 1, none⟩) ylt).trans HY1.out
          have u0 : wr.cell? ⟨zb, zo, none⟩ = some (.int .i64 (hi.getD 0 0)) := (HW.out.cell (p := ⟨zb, zo + 0, none⟩) zlt).trans HZ0.out
          have u1 := (HW.out.cell (p := ⟨zb, zo + 1, none⟩) zlt).trans HZ1.out
          replace m0 := (HW.out.cell (p := ⟨mb, mo + k, none⟩) mlt).trans m0
          replace m1 := (HW.out.cell (p := ⟨mb, mo + (k + 1), none⟩) mlt).trans m1
          have k0 := HL0.out
          have k1 := HL1.out
          unfold okLink at k0 k1
          rw [hl0, hh0] at k0
          rw [hl1, hh1] at k1
          rw [hl0] at y0
          rw [hl1] at y1
          rw [hh0] at u0
          rw [hh1] at u1
          obtain ⟨p, hp⟩ : ∃ p, v0 % (h0 - l0 + 1) = p := ⟨_, rfl⟩
          obtain ⟨q, hq⟩ : ∃ q, v1 % (h1 - l1 + 1) = q := ⟨_, rfl⟩
          have p0 : 0 ≤ p := hp ▸ Int.emod_nonneg _ (by omega)
          have p1 : p < h0 - l0 + 1 := hp ▸ Int.emod_lt_of_pos _ (by omega)
          have q0 : 0 ≤ q := hq ▸ Int.emod_nonneg _ (by omega)
          have q1 : q < h1 - l1 + 1 := hq ▸ Int.emod_lt_of_pos _ (by omega)
          have tp : v0.tmod (h0 - l0 + 1) = p := by rw [Int.tmod_eq_emod_of_nonneg v00]; exact hp
          have tq : v1.tmod (h1 - l1 + 1) = q := by rw [Int.tmod_eq_emod_of_nonneg v10]; exact hq
          have HJ := Lib.hid (two_ok (p := l0 + p) (q := l1 + q) HOK.out (by omega) (by omega) (by omega) (by omega))
          have HD2 := Lib.hid (HLE.out _ HJ.out)
          obtain ⟨k00, k01, k02, k03, k04⟩ := k0
          obtain ⟨k10, k11, k12, k13, k14⟩ := k1
          have o0 : IntKind.i64.wrap v0 = v0 := IntWalk.i64_in _ (by omega)
          have o1 : IntKind.i64.wrap v1 = v1 := IntWalk.i64_in _ (by omega)
          have o2 : IntKind.i64.wrap (h0 - l0) = h0 - l0 := IntWalk.i64_in _ (by omega)
          have o3 : IntKind.i64.wrap (h0 - l0 + 1) = h0 - l0 + 1 := IntWalk.i64_in _ (by omega)
          have o4 : IntKind.i64.wrap (h1 - l1) = h1 - l1 := IntWalk.i64_in _ (by omega)
          have o5 : IntKind.i64.wrap (h1 - l1 + 1) = h1 - l1 + 1 := IntWalk.i64_in _ (by omega)
          have o6 : IntKind.i64.wrap (l0 + p) = l0 + p := IntWalk.i64_in _ (by omega)
          have o7 : IntKind.i64.wrap (l1 + q) = l1 + q := IntWalk.i64_in _ (by omega)
          have o8 : IntKind.i64.wrap ((k : Int) + 1) = (k : Int) + 1 := IntWalk.i64_in _ (by omega)
          have n0 : (h0 - l0 + 1 == 0) = false := by simp; omega
          have n1 : (h1 - l1 + 1 == 0) = false := by simp; omega
          have d0 : (0 : Int) ≤ (k : Int) := by omega
          have d1 : (k : Int) < (len' : Int) := by omega
          have d2 : (0 : Int) ≤ (k : Int) + 1 := by omega
          have d3 : (k : Int) + 1 < (len' : Int) := by omega
          have d4 : (k : Int) < 60 := by omega
          obtain ⟨_, r1, r2, r3, _, _, _⟩ := P.next HW.out
          have HPQ := Lib.hid (And.intro hp hq)
          have hne0 : ¬ h0 - l0 + 1 = 0 := by omega
          have hne1 : ¬ h1 - l1 + 1 = 0 := by omega
          clear hl0 hl1 hh0 hh1 mcell
          go_wp2
          refine wp_region_still_tail 43 (by kernel_rfl) (by kernel_rfl) ?_
          simp only [List.take_succ_cons, List.take_zero, List.drop_succ_cons, List.drop_zero]
          change wpStill _ _ wr.drew (fun a' => wpList _ _ _ _ a' wr.drew) _ _
          replace r2 : wr.drew.cell? _ = _ := r2
          replace r3 : wr.drew.cell? _ = _ := r3
          replace y0 : wr.drew.cell? _ = _ := y0
          replace y1 : wr.drew.cell? _ = _ := y1
          replace u0 : wr.drew.cell? _ = _ := u0
          replace u1 : wr.drew.cell? _ = _ := u1
          replace m0 : wr.drew.cell? _ = _ := m0
          replace m1 : wr.drew.cell? _ = _ := m1
          have HWd := Lib.hid HW.out.drew
          clear r1
          generalize wr.drew = w7 at *
          repeat still_step
          refine wpStill_nil ?_
          clear r2 r3 y0 y1 u0 u1 m0 m1 o0 o1 o2 o3 o4 o5 o6 o7 o8 n0 n1 hne0 hne1 tp tq hp hq
          have B8 := below_box w7 (.cells #[.int .i64 (l0 + p), .int .i64 (l1 + q)] 3)
          have HW8 := Lib.hid (below_call HWd.out B8)
          have i9 := ints_two w7 (l0 + p) (l1 + q) 3
          go_wp2
          obtain ⟨nb, hnb⟩ : ∃ nb, w7.heap.size = nb := ⟨_, rfl⟩
          generalize w7.alloc (.cells #[.int .i64 (l0 + p), .int .i64 (l1 + q)] 3) = w8 at *
          rw [hnb] at i9 ⊢
          clear hnb HWd B8
          have HTB8 := Lib.hid (HTQ.out.below HW8.out HTQ.out.lt)
          have j1 := i1.next HW8.out
          have j2 := i2.next HW8.out
          have j3 := i3.next HW8.out
          have HT1 := Lib.hid (fun (n : Kept w8) => keptCall (implTipOf ⟨xa, xl, xc⟩ ⟨some ⟨yb, yo, none⟩, 2, yc⟩ ⟨some ⟨zb, zo, none⟩, 2, zc⟩ ⟨some ⟨nb, 0, none⟩, 2, 2⟩ ls lo hi [l0 + p, l1 + q] n.u (HTB8.out.below n.b HTB8.out.lt) (j1.next n.b) (j2.next n.b) (j3.next n.b) (i9.next n.b) (by simp only; omega) (by simp only; omega) (by simp only; omega) (by simp only; omega)))
          have HS1 := Lib.hid (fun (n : Kept w8) => keptCall (implSquaredDistance (tipX ls lo hi [l0 + p, l1 + q]) (tipY ls lo hi [l0 + p, l1 + q]) tx ty n.u))
          rw [tip_dist tx ty HJ.out] at HS1
          have c9 : ¬ distV ls tx ty [l0 + p, l1 + q] < dv := by have := HD2.out; omega
          have c8 : decide (distV ls tx ty [l0 + p, l1 + q] < dv) = false := decide_eq_false c9
          obtain ⟨a0, a1, a2⟩ := (P.next HW8.out).kepts
          obtain ⟨q8, q9⟩ := (Q.next HW8.out).kepts
          clear j1 j2 j3 i9
          generalize distV ls tx ty [l0 + p, l1 + q] = dj at *
          generalize tipX ls lo hi [l0 + p, l1 + q] = bx at *
          generalize tipY ls lo hi [l0 + p, l1 + q] = by' at *
          refine wp_region_kept (by kernel_rfl) (by kernel_rfl) ?_
          repeat (go_big_quiet_step ((first | (go_at_call 33; with_reducible exact HT1.out _) | (go_at_call 21; with_reducible exact HS1.out _))))
          refine wpQuiet_nil ?_
          rintro w9 ⟨⟨_, B9⟩, rfl⟩
          have HW9 := Lib.hid (below_call HW8.out B9)
          clear B9 a0 a1 a2 q8 q9 HT1 HS1
          go_wp2
          go_roundw
          case rel => exact ⟨k + 2, by have := hk2.out; omega, by have := hk2.out; omega, by congr 1, HW9⟩
          case measure => simp [intOf]; omega
        · have hex : ¬ ((k : Int) + 1 < (len' : Int)) ∨ ((k : Int) + 1 < (len' : Int) ∧ ¬ ((k : Int) < 60)) := by omega
          have o8 : IntKind.i64.wrap ((k : Int) + 1) = (k : Int) + 1 := IntWalk.i64_in _ (by omega)
          replace i1 := i1.next HW.out
          replace i2 := i2.next HW.out
          replace i3 := i3.next HW.out
          replace i5 := i5.next HW.out
          replace P := P.next HW.out
          replace Q := Q.next HW.out
          replace HB := Lib.hid (below_call HB.out HW.out)
          have HTR := Lib.hid (HTQ.out.below HW.out HTQ.out.lt)
          have HLO := Lib.hid (low_ok HOK.out.1)
          have HTO := Lib.hid (tip_ok HLO.out)
          obtain ⟨us, husv, hu2, huo, hul⟩ := solve_two (tx := tipX ls lo hi lo) (ty := tipY ls lo hi lo) ⟨HOK.out, HTO.out⟩
          have HSA := Lib.hid (tip_same huo HLO.out (hul lo HLO.out))
          have HUS := Lib.hid husv
          have HU2 := Lib.hid hu2
          have HUO := Lib.hid huo
          clear hc husv hu2 huo hul HMO HY0 HY1 HZ0 HZ1 HL0 HL1 hk2
          obtain ⟨_, r1, r2, r3, _, _, _⟩ := id P
          rcases hex with hx | ⟨hx, hy⟩
          all_goals
            go_wp2_with fail
            refine (implTipOf ⟨xa, xl, xc⟩ ⟨some ⟨yb, yo, none⟩, 2, yc⟩ ⟨some ⟨zb, zo, none⟩, 2, zc⟩ ⟨some ⟨yb, yo, none⟩, 2, yc⟩ ls lo hi lo _ HTR.out i1 i2 i3 i2 (by simp only; omega) (by simp only; omega) (by simp only; omega) (by simp only; omega)).mono ?_
            rintro e w7 ⟨rfl, B7⟩
            obtain ⟨gx, hgx⟩ : ∃ gx, tipX ls lo hi lo = gx := ⟨_, rfl⟩
            obtain ⟨gy, hgy⟩ : ∃ gy, tipY ls lo hi lo = gy := ⟨_, rfl⟩
            rw [hgx, hgy] at HSA HUS HTO ⊢
            clear hgx hgy r1 r2 r3
            have B8 := below_call B7 (below_box w7 (.cells #[.int .i64 gx, .int .i64 gy] 35))
            have G := AtP.box w7 gx gy 35
            replace i1 := i1.next B8
            replace i2 := i2.next B8
            replace i3 := i3.next B8
            replace i5 := i5.next B8
            replace P := P.next B8
            replace HB := Lib.hid (below_call HB.out B8)
            replace HTR := Lib.hid (HTR.out.below B8 HTR.out.lt)
            obtain ⟨_, r1, r2, r3, _, _, _⟩ := id P
            obtain ⟨_, g1, g2⟩ := id G
            clear B7 B8
            go_wp2_with fail
            refine (implSolveArm ⟨xa, xl, xc⟩ ⟨some ⟨yb, yo, none⟩, 2, yc⟩ ⟨some ⟨zb, zo, none⟩, 2, zc⟩ ls lo hi gx gy _ HTR.out i1 i2 i3 (by simp only; omega) (by simp only; omega) (by simp only; omega)).mono ?_
            generalize w7.alloc (.cells #[.int .i64 gx, .int .i64 gy] 35) = w8 at *
            rw [HUS.out]
            rintro e w9 ⟨⟨fa, fl, fc⟩, rfl, O9, e9, B9⟩
            simp only at O9 e9
            obtain rfl : fl = 2 := by rw [e9, HU2.out]
            have i9 := O9.ints
            replace i1 := i1.next B9
            replace i2 := i2.next B9
            replace i3 := i3.next B9
            replace i5 := i5.next B9
            replace P := P.next B9
            replace G := G.next B9
            replace HB := Lib.hid (below_call HB.out B9)
            replace HTR := Lib.hid (HTR.out.below B9 HTR.out.lt)
            clear O9 e9 B9 r1 r2 r3 g1 g2
            have HJ1 := Lib.hid (fun (n : Kept w9) => keptCall (implJointsValid ⟨xa, xl, xc⟩ ⟨some ⟨yb, yo, none⟩, 2, yc⟩ ⟨some ⟨zb, zo, none⟩, 2, zc⟩ ⟨ca, 2, cc⟩ ls lo hi vs n.u (i1.next n.b) (i2.next n.b) (i3.next n.b) (i5.next n.b) (by simp only; omega) (by simp only; omega) (by simp only; omega) (by simp only; omega)))
            rw [decide_eq_true HOV.out] at HJ1
            have HJ2 := Lib.hid (fun (n : Kept w9) => keptCall (implJointsValid ⟨xa, xl, xc⟩ ⟨some ⟨yb, yo, none⟩, 2, yc⟩ ⟨some ⟨zb, zo, none⟩, 2, zc⟩ ⟨fa, 2, fc⟩ ls lo hi us n.u (i1.next n.b) (i2.next n.b) (i3.next n.b) (i9.next n.b) (by simp only; omega) (by simp only; omega) (by simp only; omega) (by simp only; omega)))
            rw [decide_eq_true HUO.out] at HJ2
            have HT1 := Lib.hid (fun (n : Kept w9) => keptCall (implTipOf ⟨xa, xl, xc⟩ ⟨some ⟨yb, yo, none⟩, 2, yc⟩ ⟨some ⟨zb, zo, none⟩, 2, zc⟩ ⟨fa, 2, fc⟩ ls lo hi us n.u (HTR.out.below n.b HTR.out.lt) (i1.next n.b) (i2.next n.b) (i3.next n.b) (i9.next n.b) (by simp only; omega) (by simp only; omega) (by simp only; omega) (by simp only; omega)))
            rw [HSA.out.1, HSA.out.2] at HT1
            have e7 : (gx == gx) = true := by simp
            have e8 : (gy == gy) = true := by simp
            obtain ⟨a0, a1, a2⟩ := P.kepts
            obtain ⟨g3, g4⟩ := G.kepts
            clear i1 i2 i3 i5 i9 P Q G HSA HUS HTO HOK HV HLE HOV HUO HLO
            go_wp2
            refine wp_region_kept (by kernel_rfl) (by kernel_rfl) ?_
            repeat (go_big_quiet_step ((first | (go_at_call 36; with_reducible exact HJ1.out _) | (go_at_call 36; with_reducible exact HJ2.out _) | (go_at_call 33; with_reducible exact HT1.out _))))
            refine wpQuiet_nil ?_
            rintro wz ⟨⟨_, Bz⟩, rfl⟩
            have HE := Lib.hid (below_call HB.out Bz)
            clear Bz
            go_wp2
            go_ret
            exact ⟨rfl, HE.out⟩
    · obtain rfl : cl = 0 := by
        have h1 := e3.out
        rw [solveV_out hv] at h1
        exact h1
      clear i1 i2 i3 i5 P Q hv
      go_wp2_with fail
      refine (alive _).mono ?_
      rintro e w' ⟨rfl, rfl⟩
      go_wp2
      go_ret
      exact ⟨rfl, HB.out⟩
  · clear h
    by_cases hlen1 : len ≤ 1048576
    · have hlen2 : 1048576 < len' := by omega
      go_enter Tryd.func7, Tryd.ntmps7
      go_wp2
      go_ret
      exact ⟨rfl, Below.refl _ _⟩
    · have hlen2 : 1048576 < len := by omega
      go_enter Tryd.func7, Tryd.ntmps7
      go_wp2
      go_ret
      exact ⟨rfl, Below.refl _ _⟩
end Go.Proofs.YtolkihibjabmhaaDoor
namespace Go.Proofs.YtolkihibjabmhaaDoor
open Go.RowKit
theorem walkFnSolveArm (w : World) (ht : TabAt w) (a : Option Addr) (len cap : Nat) (zs : List Int) (h : Bytes w a len cap zs) (a' : Option Addr) (len' cap' : Nat) (zs' : List Int) (h' : Bytes w a' len' cap' zs') :
    Calls Tryd.prog 7 #[.slice a len cap, .slice a' len' cap'] w fun e w' => e = .returned (.bool true) ∧ Below w.heap.size w w' := walkFnSolveArmD drawSolveArm w ht a len cap zs h a' len' cap' zs' h'
end Go.Proofs.YtolkihibjabmhaaDoor
