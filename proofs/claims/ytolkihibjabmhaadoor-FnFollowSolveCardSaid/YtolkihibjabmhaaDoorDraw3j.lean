/- What the laws over arms draw: an arm and angles for it. -/
import Derived.Test.YtolkihibjabmhaaDoorDraw3
import Derived.Test.YtolkihibjabmhaaDoorDrawC
import Derived.Deep.RegionHeld3
import Derived.Outline
namespace Go.Proofs.YtolkihibjabmhaaDoor
set_option maxRecDepth 100000
open Go.RowKit
attribute [local go_sem ↓] Go.wp_at_zero Go.wp_at_succ
/-- A drawn arm and angles: the lists are short; nothing that was there has changed. -/
def GotArmJ (w : World) (e : Ending) (w' : World) : Prop :=
  ∃ (x y z s : Sl) (ls lo hi js : List Int), e = .returned (.tuple #[av x y z, .slice s.a s.len s.cap]) ∧ IntsAt w' x.a x.len ls ∧ IntsAt w' y.a y.len lo ∧ IntsAt w' z.a z.len hi ∧ IntsAt w' s.a s.len js ∧ x.len ≤ 5 ∧ y.len ≤ 4 ∧ z.len ≤ 4 ∧ s.len ≤ 6 ∧ z.len ≤ z.cap ∧ Below w.heap.size w w'
/-- What is there between the two draws: the reader, the result's box at R, the variable's at V, the arm's lists. -/
structure DSt (w0 : World) (B M r R V : Nat) (u : World) (rx ry rz : Value) (x y z : Sl) (ls lo hi : List Int) : Prop where
  rd : Rd B M u r
  gr : w0.grownBy u (some r)
  res : AtA u R rx ry rz
  var : AtA u V (.slice x.a x.len x.cap) (.slice y.a y.len y.cap) (.slice z.a z.len z.cap)
  ix : IntsFrom u (r + 1) x.a x.len ls
  iy : IntsFrom u (r + 1) y.a y.len lo
  iz : IntsFrom u (r + 1) z.a z.len hi
/-- The lengths and the ranges that the draw of angles wants. -/
structure DOk (B r R V : Nat) (x y z : Sl) (lo hi : List Int) : Prop where
  lx : x.len ≤ 5
  ly : y.len ≤ 4
  lz : z.len ≤ 4
  ty : Sm 2000 lo
  tz : Sm 2000 hi
  Rr : R < r
  rV : r < V
  Br : B ≤ r
/-- What opening a reader says, the code lying below B. -/
def OpenedB (B : Nat) (w : World) (e : Ending) (w' : World) : Prop :=
  e = .returned (.pointer (some ⟨w.heap.size, 0, none⟩)) ∧ Rd B 0 w' w.heap.size ∧ Below w.heap.size w w'
theorem openedB {B : Nat} {w : World} {a : Option Addr} {len cap t : Nat} (hc : Code B w a len) (hB : B ≤ w.heap.size) (hl : len ≤ 2000) :
    Rd B 0 (w.alloc (.cells #[.slice a len cap, .int .i64 0] t)) w.heap.size ∧ Below w.heap.size w (w.alloc (.cells #[.slice a len cap, .int .i64 0] t)) := by
  refine ⟨⟨hB, by simp, a, len, cap, 0, hl, Nat.le_refl _, ?_, ?_, ?_, ?_⟩, (Below.refl _ _).alloc (Nat.le_refl _) _⟩
  · simp
  · simp
  · exact World.frozen?_alloc_at _ _ _ _ rfl
  · exact hc.below fun x hx => World.cell?_alloc_lt _ _ _ (by omega)
theorem open_codeB (B : Nat) (w : World) (a : Option Addr) (len cap : Nat) (hB : B ≤ w.heap.size) (hl : len ≤ cap) (hm : cap ≤ 9223372036854775807) (h : ∀ k, k ≤ len → Code B w a k) :
    Calls Tryd.prog 52 #[.slice a len cap] w (OpenedB B w) := by
  by_cases h2 : 2000 < len
  · have HS := Lib.hid (openedB (cap := cap) (t := 106) (h 2000 (by omega)) hB (Nat.le_refl _))
    clear h
    go_enter Tryd.func52, Tryd.ntmps52
    go_wp2
    go_ret
    exact ⟨rfl, HS.out⟩
  · have HS := Lib.hid (openedB (cap := cap) (t := 106) (h len (Nat.le_refl _)) hB (by omega))
    clear h
    go_enter Tryd.func52, Tryd.ntmps52
    go_wp2
    go_ret
    exact ⟨rfl, HS.out⟩
theorem DSt.drew {w0 u : World} {B M r R V : Nat} {rx ry rz : Value} {x y z : Sl} {ls lo hi : List Int} (h : DSt w0 B M r R V u rx ry rz x y z ls lo hi) : DSt w0 B M r R V u.drew rx ry rz x y z ls lo hi :=
  ⟨h.rd.drew, only_drew h.gr, h.res.next (below_drew' u), h.var.next (below_drew' u), h.ix.next (below_drew' u), h.iy.next (below_drew' u), h.iz.next (below_drew' u)⟩
theorem DSt.grown {w0 u u' : World} {B M M' r R V : Nat} {rx ry rz : Value} {x y z : Sl} {ls lo hi : List Int} (h : DSt w0 B M r R V u rx ry rz x y z ls lo hi) (hr : Rd B M' u' r) (hg : u.grownBy u' (some r)) (h1 : R ≠ r) (h2 : V ≠ r) : DSt w0 B M' r R V u' rx ry rz x y z ls lo hi :=
  ⟨hr, h.gr.trans hg, h.res.kept hg (by simpa using h1), h.var.kept hg (by simpa using h2), h.ix.kept hg (fun k hk => by injection hk with hk; omega), h.iy.kept hg (fun k hk => by injection hk with hk; omega), h.iz.kept hg (fun k hk => by injection hk with hk; omega)⟩
theorem grown_of {w u : World} {r : Option Nat} (h : Below w.heap.size w u) : w.grownBy u r := ⟨h.os, h.tape, h.output, h.size, fun i hi _ => h.block i hi⟩
/-- The angles, drawn in the midst. -/
def DrawnD (w0 : World) (B M r R V : Nat) (rx ry rz : Value) (x y z : Sl) (ls lo hi : List Int) (u : World) (e : Ending) (u' : World) : Prop :=
  ∃ (s : Sl) (js : List Int), e = .returned (.slice s.a s.len s.cap) ∧ IntsFrom u' u.heap.size s.a s.len js ∧ s.len ≤ 5 ∧ DSt w0 B (M + 16) r R V u' rx ry rz x y z ls lo hi
theorem jointsD (w0 : World) (B M r R V : Nat) (n : Int) (rx ry rz : Value) (x y z : Sl) (ls lo hi : List Int) (u : World) (h : DSt w0 B M r R V u rx ry rz x y z ls lo hi) (hM : M ≤ 900000) (hn0 : 0 < n) (hn1 : n ≤ 1000000) (ok : DOk B r R V x y z lo hi) :
    Calls Tryd.prog 55 #[.pointer (some ⟨r, 0, none⟩), av x y z, .int .i64 n] u (DrawnD w0 B M r R V rx ry rz x y z ls lo hi u) :=
  (l20Joints B M r n x y z ls lo hi u h.rd hM hn0 hn1 h.ix h.iy h.iz ok.lx ok.ly ok.lz ok.ty ok.tz).mono fun e u' ⟨s, js, he, hi, hs, _, hr, hg⟩ => ⟨s, js, he, hi, hs, h.grown hr hg (by have := ok.Rr; omega) (by have := ok.rV; omega)⟩
theorem DSt.put {w0 u : World} {B M r R V : Nat} {rx ry rz : Value} {x y z : Sl} {ls lo hi : List Int} (h : DSt w0 B M r R V u rx ry rz x y z ls lo hi) (h0 : w0.heap.size ≤ R) (hB : B ≤ R) (hR : R < r) (hV : r < V) (a b c : Value) :
    DSt w0 B M r R V (((u.setCell ⟨R, 0, none⟩ a).setCell ⟨R, 1, none⟩ b).setCell ⟨R, 2, none⟩ c) a b c x y z ls lo hi :=
  ⟨((h.rd.set' (by omega) hB _).set' (by omega) hB _).set' (by omega) hB _, only_set' (only_set' (only_set' h.gr h0 _) h0 _) h0 _, ((h.res.put0 _).put1 _).put2 _, ((h.var.far (by omega) _).far (by omega) _).far (by omega) _,
    ((h.ix.off (by omega) _).off (by omega) _).off (by omega) _, ((h.iy.off (by omega) _).off (by omega) _).off (by omega) _, ((h.iz.off (by omega) _).off (by omega) _).off (by omega) _⟩
set_option maxHeartbeats 1000000 in
theorem drawArmPoints (w : World) (a : Option Addr) (len cap : Nat) (zs : List Int) (h : Bytes w a len cap zs) :
    Calls Tryd.prog 15 #[.slice a len cap] w (GotArmJ w) := by
  have hle := h.len_le
  have HB := Lib.hid (below_box w (.cells #[.slice none 0 0, .slice none 0 0, .slice none 0 0] 25))
  have R := AtA.box w (.slice none 0 0) (.slice none 0 0) (.slice none 0 0) 25
  go_enter Tryd.func15, Tryd.ntmps15
  go_wp2_with fail
  refine (open_codeB w.heap.size _ a len cap HB.out.size hle.1 (by have := hle.2; unfold maxLen at this; omega) (fun k hk => (h.code k hk).below fun x hx => HB.out.cell hx)).mono ?_
  generalize w.alloc (.cells #[.slice none 0 0, .slice none 0 0, .slice none 0 0] 25) = w0 at *
  rintro e w1 ⟨rfl, hr1, hb1⟩
  have hR := R.lt
  have R1 := R.next hb1
  have HB1 := Lib.hid (below_call HB.out hb1)
  clear hb1 R h hle
  go_wp2_with fail
  refine (pick _ _ _ 4 _ hr1 (by omega)).mono ?_
  rintro e w2 ⟨x, a1, b1, rfl, hr2, hg2, hs2⟩
  have b2 := b1 (by omega)
  have R2 := R1.kept hg2 (by simp; omega)
  have HB2 := Lib.hid (below_of' HB1.out hg2 (by omega))
  obtain ⟨m, hm⟩ : ∃ m : Nat, 1 + x = (m : Int) := ⟨(1 + x).toNat, by omega⟩
  have hrlt := hr2.lt
  clear b1 hs2 hg2 hr1 R1
  go_wp2_with fail
  refine (l20Arm _ _ _ m 14 _ hr2 (by omega) (by omega) (by omega) (by omega) (by omega)).mono ?_
  rintro e w3 ⟨⟨xa, xl, xc⟩, ⟨ya, yl, yc⟩, ⟨za, zl, zc⟩, ls, lo, hi, rfl, i1, i2, i3, lx, ly, lz, kx, ky, kz, sx, sy, sz, hr3, hg3⟩
  simp only at i1 i2 i3 lx ly lz kx ky kz
  have R3 := R2.kept hg3 (by simp; omega)
  have HB3 := Lib.hid (below_of' HB2.out hg3 (by omega))
  have ok : Hid (DOk w.heap.size w0.heap.size w.heap.size w3.heap.size ⟨xa, xl, xc⟩ ⟨ya, yl, yc⟩ ⟨za, zl, zc⟩ lo hi) := Lib.hid ⟨lx, ly, lz, sy, sz, hR, hr3.lt, by omega⟩
  have Bv := below_box w3 (.cells #[.slice xa xl xc, .slice ya yl yc, .slice za zl zc] 25)
  have S : DSt w w.heap.size (0 + 1 + 16) w0.heap.size w.heap.size w3.heap.size (w3.alloc (.cells #[.slice xa xl xc, .slice ya yl yc, .slice za zl zc] 25)) (.slice none 0 0) (.slice none 0 0) (.slice none 0 0) ⟨xa, xl, xc⟩ ⟨ya, yl, yc⟩ ⟨za, zl, zc⟩ ls lo hi :=
    ⟨hr3.alloc _, grown_of (below_call HB3.out Bv), R3.next Bv, AtA.box w3 _ _ _ _, (i1.down (by omega)).next Bv, (i2.down (by omega)).next Bv, (i3.down (by omega)).next Bv⟩
  have HB4 := Lib.hid (below_call HB3.out Bv)
  have hsz : w.heap.size < w3.heap.size := R3.lt
  have hv : w0.heap.size < w3.heap.size := hr3.lt
  clear i1 i2 i3 sx sy sz hr3 hg3 hr2 R2 hm Bv R3
  go_wp2
  generalize w3.alloc (.cells #[.slice xa xl xc, .slice ya yl yc, .slice za zl zc] 25) = w4 at *
  have k1 := S.drew
  have k2 := k1.put (Nat.le_refl _) (Nat.le_refl _) hR (by omega) (.slice xa xl xc) (.slice ya yl yc) (.slice za zl zc)
  have KR := Lib.hid (fun (u : World) (M : Nat) (rx ry rz : Value) (K : DSt w w.heap.size M w0.heap.size w.heap.size w3.heap.size u rx ry rz ⟨xa, xl, xc⟩ ⟨ya, yl, yc⟩ ⟨za, zl, zc⟩ ls lo hi) => And.intro K.var.c0 (And.intro K.var.c1 K.var.c2))
  have r1 := KR.out _ _ _ _ _ k1
  have r2 := KR.out _ _ _ _ _ k2
  obtain ⟨_, s0, s1, s2, y0, y1, y2⟩ := id k1.res
  go_region_held3 (fun u => u.cell? ⟨w3.heap.size, 0, none⟩ = some (.slice xa xl xc) ∧ u.cell? ⟨w3.heap.size, 1, none⟩ = some (.slice ya yl yc) ∧ u.cell? ⟨w3.heap.size, 2, none⟩ = some (.slice za zl zc)) (first | exact r1 | exact r2 | exact r3 | exact r4) (first
    | (go_at_call 55
       (with_reducible refine (jointsD w w.heap.size (0 + 1 + 16) w0.heap.size w.heap.size w3.heap.size 12 _ _ _ ⟨xa, xl, xc⟩ ⟨ya, yl, yc⟩ ⟨za, zl, zc⟩ ls lo hi _ (by first | exact k1 | exact k2) (by omega) (by omega) (by omega) ok.out).mono ?_)
       rintro e w5 ⟨⟨sa, sl, sc⟩, js, rfl, ij, hs, K5⟩
       simp only at ij hs
       have k4 := K5.put (Nat.le_refl _) (Nat.le_refl _) hR (by omega) (.slice xa xl xc) (.slice ya yl yc) (.slice za zl zc)
       have r3 := KR.out _ _ _ _ _ K5
       have r4 := KR.out _ _ _ _ _ k4
       obtain ⟨_, t0, t1, t2, u0, u1, u2⟩ := id K5.res)
    | fail)
  have hlt : w.heap.size < w4.heap.size := k1.res.lt
  have HI := Lib.hid (((ij.off (c := w.heap.size) (o := 0) hlt (.slice xa xl xc)).off (c := w.heap.size) (o := 1) hlt (.slice ya yl yc)).off (c := w.heap.size) (o := 2) hlt (.slice za zl zc)).ints
  have HK := Lib.hid (And.intro k4.ix.ints (And.intro k4.iy.ints (And.intro k4.iz.ints ((Below.refl w.heap.size w).grown k4.gr (Nat.le_refl _) (fun q hq => by injection hq with hq; omega)))))
  clear ij k4 K5 k1 k2 r1 r2 r3 r4 S
  go_wp2
  exact bodyPost_ret (v := .tuple #[av ⟨xa, xl, xc⟩ ⟨ya, yl, yc⟩ ⟨za, zl, zc⟩, .slice sa sl sc]) (by simp [results, Tryd.results15, go_sem, t0, t1, t2]) rfl ⟨⟨xa, xl, xc⟩, ⟨ya, yl, yc⟩, ⟨za, zl, zc⟩, ⟨sa, sl, sc⟩, ls, lo, hi, js, rfl, HK.out.1, HK.out.2.1, HK.out.2.2.1, HI.out, lx, ly, lz, by simp only; omega, kz, HK.out.2.2.2⟩
end Go.Proofs.YtolkihibjabmhaaDoor
