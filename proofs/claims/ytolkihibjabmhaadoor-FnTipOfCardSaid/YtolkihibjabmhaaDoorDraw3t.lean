/- What the law FnTipOf draws: an arm and angles for it. -/
import Derived.Test.YtolkihibjabmhaaDoorDraw3j
namespace Go.Proofs.YtolkihibjabmhaaDoor
set_option maxRecDepth 100000
open Go.RowKit
attribute [local go_sem ↓] Go.wp_at_zero Go.wp_at_succ
/-- A drawn arm and angles, in blocks of the draw's own. -/
def GotArmJF (w : World) (e : Ending) (w' : World) : Prop :=
  ∃ (x y z s : Sl) (ls lo hi js : List Int), e = .returned (.tuple #[av x y z, .slice s.a s.len s.cap]) ∧ IntsFrom w' w.heap.size x.a x.len ls ∧ IntsFrom w' w.heap.size y.a y.len lo ∧ IntsFrom w' w.heap.size z.a z.len hi ∧ IntsFrom w' w.heap.size s.a s.len js ∧ x.len ≤ 5 ∧ y.len ≤ 4 ∧ z.len ≤ 4 ∧ s.len ≤ 6 ∧ z.len ≤ z.cap ∧ Below w.heap.size w w'
set_option maxHeartbeats 1000000 in
theorem drawArmPointsF (w : World) (a : Option Addr) (len cap : Nat) (zs : List Int) (h : Bytes w a len cap zs) :
    Calls Tryd.prog 15 #[.slice a len cap] w (GotArmJF w) := by
  have hle := h.len_le
  have HB := Lib.hid (below_box w (.cells #[.slice none 0 0, .slice none 0 0, .slice none 0 0] 25))
  have R := AtA.box w (.slice none 0 0) (.slice none 0 0) (.slice none 0 0) 25
  go_enter Tryd.func15, Tryd.ntmps15
  go_wp2_with fail
  refine (open_codeB w.heap.size _ a len cap HB.out.size hle.1 (by have := hle.2; unfold maxLen at this; omega) (fun k hk => (h.code k hk).below fun x hx => HB.out.cell hx)).mono ?_
  generalize w.alloc (.cells #[.slice none 0 0, .slice none 0 0, .slice none 0 0] 25) = w0 at *
  rintro e w1 ⟨rfl, hr1, hb1⟩
  have hR := R.lt
  have R1 := R.next hb1
  have HB1 := Lib.hid (below_call HB.out hb1)
  clear hb1 R h hle
  go_wp2_with fail
  refine (pick _ _ _ 4 _ hr1 (by omega)).mono ?_
  rintro e w2 ⟨x, a1, b1, rfl, hr2, hg2, hs2⟩
  have b2 := b1 (by omega)
  have R2 := R1.kept hg2 (by simp; omega)
  have HB2 := Lib.hid (below_of' HB1.out hg2 (by omega))
  obtain ⟨m, hm⟩ : ∃ m : Nat, 1 + x = (m : Int) := ⟨(1 + x).toNat, by omega⟩
  have hrlt := hr2.lt
  clear b1 hs2 hg2 hr1 R1
  go_wp2_with fail
  refine (l20Arm _ _ _ m 14 _ hr2 (by omega) (by omega) (by omega) (by omega) (by omega)).mono ?_
  rintro e w3 ⟨⟨xa, xl, xc⟩, ⟨ya, yl, yc⟩, ⟨za, zl, zc⟩, ls, lo, hi, rfl, i1, i2, i3, lx, ly, lz, kx, ky, kz, sx, sy, sz, hr3, hg3⟩
  simp only at i1 i2 i3 lx ly lz kx ky kz
  have R3 := R2.kept hg3 (by simp; omega)
  have HB3 := Lib.hid (below_of' HB2.out hg3 (by omega))
  have ok : Hid (DOk w.heap.size w0.heap.size w.heap.size w3.heap.size ⟨xa, xl, xc⟩ ⟨ya, yl, yc⟩ ⟨za, zl, zc⟩ lo hi) := Lib.hid ⟨lx, ly, lz, sy, sz, hR, hr3.lt, by omega⟩
  have Bv := below_box w3 (.cells #[.slice xa xl xc, .slice ya yl yc, .slice za zl zc] 25)
  have S : DSt w w.heap.size (0 + 1 + 16) w0.heap.size w.heap.size w3.heap.size (w3.alloc (.cells #[.slice xa xl xc, .slice ya yl yc, .slice za zl zc] 25)) (.slice none 0 0) (.slice none 0 0) (.slice none 0 0) ⟨xa, xl, xc⟩ ⟨ya, yl, yc⟩ ⟨za, zl, zc⟩ ls lo hi :=
    ⟨hr3.alloc _, grown_of (below_call HB3.out Bv), R3.next Bv, AtA.box w3 _ _ _ _, (i1.down (by omega)).next Bv, (i2.down (by omega)).next Bv, (i3.down (by omega)).next Bv⟩
  have HB4 := Lib.hid (below_call HB3.out Bv)
  have hsz : w.heap.size < w3.heap.size := R3.lt
  have hv : w0.heap.size < w3.heap.size := hr3.lt
  clear i1 i2 i3 sx sy sz hr3 hg3 hr2 R2 hm Bv R3
  go_wp2
  generalize w3.alloc (.cells #[.slice xa xl xc, .slice ya yl yc, .slice za zl zc] 25) = w4 at *
  have k1 := S.drew
  have k2 := k1.put (Nat.le_refl _) (Nat.le_refl _) hR (by omega) (.slice xa xl xc) (.slice ya yl yc) (.slice za zl zc)
  have KR := Lib.hid (fun (u : World) (M : Nat) (rx ry rz : Value) (K : DSt w w.heap.size M w0.heap.size w.heap.size w3.heap.size u rx ry rz ⟨xa, xl, xc⟩ ⟨ya, yl, yc⟩ ⟨za, zl, zc⟩ ls lo hi) => And.intro K.var.c0 (And.intro K.var.c1 K.var.c2))
  have r1 := KR.out _ _ _ _ _ k1
  have r2 := KR.out _ _ _ _ _ k2
  obtain ⟨_, s0, s1, s2, y0, y1, y2⟩ := id k1.res
  go_region_held3 (fun u => u.cell? ⟨w3.heap.size, 0, none⟩ = some (.slice xa xl xc) ∧ u.cell? ⟨w3.heap.size, 1, none⟩ = some (.slice ya yl yc) ∧ u.cell? ⟨w3.heap.size, 2, none⟩ = some (.slice za zl zc)) (first | exact r1 | exact r2 | exact r3 | exact r4) (first
    | (go_at_call 55
       (with_reducible refine (jointsD w w.heap.size (0 + 1 + 16) w0.heap.size w.heap.size w3.heap.size 12 _ _ _ ⟨xa, xl, xc⟩ ⟨ya, yl, yc⟩ ⟨za, zl, zc⟩ ls lo hi _ (by first | exact k1 | exact k2) (by omega) (by omega) (by omega) ok.out).mono ?_)
       rintro e w5 ⟨⟨sa, sl, sc⟩, js, rfl, ij, hs, K5⟩
       simp only at ij hs
       have k4 := K5.put (Nat.le_refl _) (Nat.le_refl _) hR (by omega) (.slice xa xl xc) (.slice ya yl yc) (.slice za zl zc)
       have r3 := KR.out _ _ _ _ _ K5
       have r4 := KR.out _ _ _ _ _ k4
       obtain ⟨_, t0, t1, t2, u0, u1, u2⟩ := id K5.res)
    | fail)
  have hlt : w.heap.size < w4.heap.size := k1.res.lt
  have HI := Lib.hid ((((ij.off (c := w.heap.size) (o := 0) hlt (.slice xa xl xc)).off (c := w.heap.size) (o := 1) hlt (.slice ya yl yc)).off (c := w.heap.size) (o := 2) hlt (.slice za zl zc)).down (Nat.le_of_lt hlt))
  have HK := Lib.hid (And.intro (k4.ix.down (show w.heap.size ≤ w0.heap.size + 1 by omega)) (And.intro (k4.iy.down (show w.heap.size ≤ w0.heap.size + 1 by omega)) (And.intro (k4.iz.down (show w.heap.size ≤ w0.heap.size + 1 by omega)) ((Below.refl w.heap.size w).grown k4.gr (Nat.le_refl _) (fun q hq => by injection hq with hq; omega)))))
  clear ij k4 K5 k1 k2 r1 r2 r3 r4 S
  go_wp2
  exact bodyPost_ret (v := .tuple #[av ⟨xa, xl, xc⟩ ⟨ya, yl, yc⟩ ⟨za, zl, zc⟩, .slice sa sl sc]) (by simp [results, Tryd.results15, go_sem, t0, t1, t2]) rfl ⟨⟨xa, xl, xc⟩, ⟨ya, yl, yc⟩, ⟨za, zl, zc⟩, ⟨sa, sl, sc⟩, ls, lo, hi, js, rfl, HK.out.1, HK.out.2.1, HK.out.2.2.1, HI.out, lx, ly, lz, by simp only; omega, kz, HK.out.2.2.2⟩
theorem drawTipOf (w : World) (a : Option Addr) (len cap : Nat) (zs : List Int) (h : Bytes w a len cap zs) :
    Calls Tryd.prog 32 #[.slice a len cap] w (GotArmJ w) := by
  have HB := Lib.hid (below_box w (.cells #[.slice none 0 0, .slice none 0 0, .slice none 0 0] 25))
  have R := AtA.box w (.slice none 0 0) (.slice none 0 0) (.slice none 0 0) 25
  go_enter Tryd.func32, Tryd.ntmps32
  go_wp2_with fail
  refine (drawArmPointsF _ a len cap zs (h.below HB.out)).mono ?_
  generalize w.alloc (.cells #[.slice none 0 0, .slice none 0 0, .slice none 0 0] 25) = w0 at *
  rintro e w1 ⟨⟨xa, xl, xc⟩, ⟨ya, yl, yc⟩, ⟨za, zl, zc⟩, ⟨sa, sl, sc⟩, ls, lo, hi, js, rfl, i1, i2, i3, i4, lx, ly, lz, ls4, kz, B1⟩
  simp only at i1 i2 i3 i4 lx ly lz ls4 kz
  have hlt : w.heap.size < w0.heap.size := R.lt
  obtain ⟨_, r0, r1, r2, y0, y1, y2⟩ := R.next B1
  have HF := Lib.hid (fun a b c => And.intro ((((i1.off (c := w.heap.size) (o := 0) hlt a).off (c := w.heap.size) (o := 1) hlt b).off (c := w.heap.size) (o := 2) hlt c).ints) (And.intro ((((i2.off (c := w.heap.size) (o := 0) hlt a).off (c := w.heap.size) (o := 1) hlt b).off (c := w.heap.size) (o := 2) hlt c).ints) (And.intro ((((i3.off (c := w.heap.size) (o := 0) hlt a).off (c := w.heap.size) (o := 1) hlt b).off (c := w.heap.size) (o := 2) hlt c).ints) (And.intro ((((i4.off (c := w.heap.size) (o := 0) hlt a).off (c := w.heap.size) (o := 1) hlt b).off (c := w.heap.size) (o := 2) hlt c).ints) ((((below_call HB.out B1).setCell (p := ⟨w.heap.size, 0, none⟩) (Nat.le_refl _) a).setCell (p := ⟨w.heap.size, 1, none⟩) (Nat.le_refl _) b).setCell (p := ⟨w.heap.size, 2, none⟩) (Nat.le_refl _) c)))))
  clear i1 i2 i3 i4 B1 R h
  go_wp2
  exact bodyPost_ret (v := .tuple #[av ⟨xa, xl, xc⟩ ⟨ya, yl, yc⟩ ⟨za, zl, zc⟩, .slice sa sl sc]) (by simp [results, Tryd.results32, go_sem, r0, r1, r2]) rfl ⟨⟨xa, xl, xc⟩, ⟨ya, yl, yc⟩, ⟨za, zl, zc⟩, ⟨sa, sl, sc⟩, ls, lo, hi, js, rfl, (HF.out _ _ _).1, (HF.out _ _ _).2.1, (HF.out _ _ _).2.2.1, (HF.out _ _ _).2.2.2.1, lx, ly, lz, ls4, kz, (HF.out _ _ _).2.2.2.2⟩
end Go.Proofs.YtolkihibjabmhaaDoor
