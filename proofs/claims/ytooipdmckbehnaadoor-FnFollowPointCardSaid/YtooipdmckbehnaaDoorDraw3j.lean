/- What the laws over arms draw: an arm and angles for it. -/
import Derived.Test.YtooipdmckbehnaaDoorDraw3
import Derived.Test.YtooipdmckbehnaaDoorDrawC
import Derived.Deep.RegionHeld3
import Derived.Outline
namespace Go.Proofs.YtooipdmckbehnaaDoor
set_option maxRecDepth 100000
open Go.RowKit
attribute [local go_sem ↓] Go.wp_at_zero Go.wp_at_succ
/-- A drawn arm and angles: the lists are short; nothing that was there has changed. -/
def GotArmJ (w : World) (e : Ending) (w' : World) : Prop :=
  ∃ (x y z s : Sl) (ls lo hi js : List Int), e = .returned (.tuple #[av x y z, .slice s.a s.len s.cap]) ∧ IntsAt w' x.a x.len ls ∧ IntsAt w' y.a y.len lo ∧ IntsAt w' z.a z.len hi ∧ IntsAt w' s.a s.len js ∧ x.len ≤ 5 ∧ y.len ≤ 4 ∧ z.len ≤ 4 ∧ s.len ≤ 6 ∧ z.len ≤ z.cap ∧ Below w.heap.size w w'
/-- What is there between the two draws: the reader, the result's box at R, the variable's at V, the arm's lists. -/
structure DSt (w0 : World) (B M r R V : Nat) (u : World) (rx ry rz : Value) (x y z : Sl) (ls lo hi : List Int) : Prop where
  rd : Rd B M u r
  gr : w0.grownBy u (some r)
  res : AtA u R rx ry rz
  var : AtA u V (.slice x.a x.len x.cap) (.slice y.a y.len y.cap) (.slice z.a z.len z.cap)
  ix : IntsFrom u (r + 1) x.a x.len ls
  iy : IntsFrom u (r + 1) y.a y.len lo
  iz : IntsFrom u (r + 1) z.a z.len hi
/-- The lengths and the ranges that the draw of angles wants. -/
structure DOk (B r R V : Nat) (x y z : Sl) (lo hi : List Int) : Prop where
  lx : x.len ≤ 5
  ly : y.len ≤ 4
  lz : z.len ≤ 4
  ty : Sm 2000 lo
  tz : Sm 2000 hi
  Rr : R < r
  rV : r < V
  Br : B ≤ r
/-- What opening a reader says, the code lying below B. -/
def OpenedB (B : Nat) (w : World) (e : Ending) (w' : World) : Prop :=
  e = .returned (.pointer (some ⟨w.heap.size, 0, none⟩)) ∧ Rd B 0 w' w.heap.size ∧ Below w.heap.size w w'
theorem openedB {B : Nat} {w : World} {a : Option Addr} {len cap t : Nat} (hc : Code B w a len) (hB : B ≤ w.heap.size) (hl : len ≤ 2000) :
    Rd B 0 (w.alloc (.cells #[.slice a len cap, .int .i64 0] t)) w.heap.size ∧ Below w.heap.size w (w.alloc (.cells #[.slice a len cap, .int .i64 0] t)) := by
  refine ⟨⟨hB, by simp, a, len, cap, 0, hl, Nat.le_refl _, ?_, ?_, ?_, ?_⟩, (Below.refl _ _).alloc (Nat.le_refl _) _⟩
  · simp
  · simp
  · exact World.frozen?_alloc_at _ _ _ _ rfl
  · exact hc.below fun x hx => World.cell?_alloc_lt _ _ _ (by omega)
theorem open_codeB (B : Nat) (w : World) (a : Option Addr) (len cap : Nat) (hB : B ≤ w.heap.size) (hl : len ≤ cap) (hm : cap ≤ 9223372036854775807) (h : ∀ k, k ≤ len → Code B w a k) :
    Calls Tryd.prog 16 #[.slice a len cap] w (OpenedB B w) := by
  by_cases h2 : 2000 < len
  · have HS := Lib.hid (openedB (cap := cap) (t := 80) (h 2000 (by omega)) hB (Nat.le_refl _))
    clear h
    go_enter Tryd.func16, Tryd.ntmps16
    go_wp2
    go_ret
    exact ⟨rfl, HS.out⟩
  · have HS := Lib.hid (openedB (cap := cap) (t := 80) (h len (Nat.le_refl _)) hB (by omega))
    clear h
    go_enter Tryd.func16, Tryd.ntmps16
    go_wp2
    go_ret
    exact ⟨rfl, HS.out⟩
theorem DSt.drew {w0 u : World} {B M r R V : Nat} {rx ry rz : Value} {x y z : Sl} {ls lo hi : List Int} (h : DSt w0 B M r R V u rx ry rz x y z ls lo hi) : DSt w0 B M r R V u.drew rx ry rz x y z ls lo hi :=
  ⟨h.rd.drew, only_drew h.gr, h.res.next (below_drew' u), h.var.next (below_drew' u), h.ix.next (below_drew' u), h.iy.next (below_drew' u), h.iz.next (below_drew' u)⟩
theorem DSt.grown {w0 u u' : World} {B M M' r R V : Nat} {rx ry rz : Value} {x y z : Sl} {ls lo hi : List Int} (h : DSt w0 B M r R V u rx ry rz x y z ls lo hi) (hr : Rd B M' u' r) (hg : u.grownBy u' (some r)) (h1 : R ≠ r) (h2 : V ≠ r) : DSt w0 B M' r R V u' rx ry rz x y z ls lo hi :=
  ⟨hr, h.gr.trans hg, h.res.kept hg (by simpa using h1), h.var.kept hg (by simpa using h2), h.ix.kept hg (fun k hk => by injection hk with hk; omega), h.iy.kept hg (fun k hk => by injection hk with hk; omega), h.iz.kept hg (fun k hk => by injection hk with hk; omega)⟩
theorem grown_of {w u : World} {r : Option Nat} (h : Below w.heap.size w u) : w.grownBy u r := ⟨h.os, h.tape, h.output, h.size, fun i hi _ => h.block i hi⟩
/-- The angles, drawn in the midst. -/
def DrawnD (w0 : World) (B M r R V : Nat) (rx ry rz : Value) (x y z : Sl) (ls lo hi : List Int) (u : World) (e : Ending) (u' : World) : Prop :=
  ∃ (s : Sl) (js : List Int), e = .returned (.slice s.a s.len s.cap) ∧ IntsFrom u' u.heap.size s.a s.len js ∧ s.len ≤ 5 ∧ DSt w0 B (M + 16) r R V u' rx ry rz x y z ls lo hi
theorem jointsD (w0 : World) (B M r R V : Nat) (n : Int) (rx ry rz : Value) (x y z : Sl) (ls lo hi : List Int) (u : World) (h : DSt w0 B M r R V u rx ry rz x y z ls lo hi) (hM : M ≤ 900000) (hn0 : 0 < n) (hn1 : n ≤ 1000000) (ok : DOk B r R V x y z lo hi) :
    Calls Tryd.prog 39 #[.pointer (some ⟨r, 0, none⟩), av x y z, .int .i64 n] u (DrawnD w0 B M r R V rx ry rz x y z ls lo hi u) :=
  (l20Joints B M r n x y z ls lo hi u h.rd hM hn0 hn1 h.ix h.iy h.iz ok.lx ok.ly ok.lz ok.ty ok.tz).mono fun e u' ⟨s, js, he, hi, hs, _, hr, hg⟩ => ⟨s, js, he, hi, hs, h.grown hr hg (by have := ok.Rr; omega) (by have := ok.rV; omega)⟩
theorem DSt.put {w0 u : World} {B M r R V : Nat} {rx ry rz : Value} {x y z : Sl} {ls lo hi : List Int} (h : DSt w0 B M r R V u rx ry rz x y z ls lo hi) (h0 : w0.heap.size ≤ R) (hB : B ≤ R) (hR : R < r) (hV : r < V) (a b c : Value) :
    DSt w0 B M r R V (((u.setCell ⟨R, 0, none⟩ a).setCell ⟨R, 1, none⟩ b).setCell ⟨R, 2, none⟩ c) a b c x y z ls lo hi :=
  ⟨((h.rd.set' (by omega) hB _).set' (by omega) hB _).set' (by omega) hB _, only_set' (only_set' (only_set' h.gr h0 _) h0 _) h0 _, ((h.res.put0 _).put1 _).put2 _, ((h.var.far (by omega) _).far (by omega) _).far (by omega) _,
    ((h.ix.off (by omega) _).off (by omega) _).off (by omega) _, ((h.iy.off (by omega) _).off (by omega) _).off (by omega) _, ((h.iz.off (by omega) _).off (by omega) _).off (by omega) _⟩
end Go.Proofs.YtooipdmckbehnaaDoor
