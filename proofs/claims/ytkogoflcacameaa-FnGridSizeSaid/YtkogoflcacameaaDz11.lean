/- What the laws on grids draw: an arm and a step. -/
import Derived.Test.YtkogoflcacameaaZbDbc
import Derived.Test.YtkogoflcacameaaZbInv
import Derived.Test.YtkogoflcacameaaDg11
import Derived.Deep.RegionHeld3
import Derived.Outline
namespace Go.Proofs.Ytkogoflcacameaa
set_option maxRecDepth 100000
open Go.RowKit
attribute [local go_sem ↓] Go.wp_at_zero Go.wp_at_succ
/-- A drawn arm's lists are short. -/
abbrev LenA (x y z : Sl) : Prop := x.len ≤ 5 ∧ y.len ≤ 4 ∧ z.len ≤ 4
/-- An arm's box, the result's box, the reader. -/
structure StZ (w : World) (M V : Nat) (u : World) (x y z : Sl) (ls lo hi : List Int) : Prop where
  rd : Rd w.heap.size M u (w.heap.size + 1)
  old : Below w.heap.size w u
  arm : AtA u V (.slice x.a x.len x.cap) (.slice y.a y.len y.cap) (.slice z.a z.len z.cap)
  res : AtA u w.heap.size (.slice none 0 0) (.slice none 0 0) (.slice none 0 0)
  i1 : IntsFrom u (w.heap.size + 1 + 1) x.a x.len ls
  i2 : IntsFrom u (w.heap.size + 1 + 1) y.a y.len lo
  i3 : IntsFrom u (w.heap.size + 1 + 1) z.a z.len hi
  lens : LenA x y z
  sml : Sm 2000 ls ∧ Sm 2000 lo ∧ Sm 2000 hi
  lt : w.heap.size + 1 < u.heap.size ∧ M ≤ 200 ∧ V ≠ w.heap.size + 1 ∧ w.heap.size ≤ V
  ne : w.heap.size ≠ V
section
variable {w u u' : World} {M M' V : Nat} {x y z : Sl} {ls lo hi : List Int}
theorem StZ.drew (h : StZ w M V u x y z ls lo hi) : StZ w M V u.drew x y z ls lo hi :=
  ⟨h.rd.drew, h.old.drew, h.arm.next (below_drew' u), h.res.next (below_drew' u), h.i1.next (below_drew' u), h.i2.next (below_drew' u), h.i3.next (below_drew' u), h.lens, h.sml, h.lt, h.ne⟩
theorem StZ.grown (h : StZ w M V u x y z ls lo hi) (hr : Rd w.heap.size (M + 1) u' (w.heap.size + 1)) (hg : u.grownBy u' (some (w.heap.size + 1))) : StZ w M V u x y z ls lo hi ∧ Rd w.heap.size (M + 1) u' (w.heap.size + 1) ∧ u.grownBy u' (some (w.heap.size + 1)) := ⟨h, hr, hg⟩
theorem StZ.fin (h : StZ w M V u x y z ls lo hi ∧ Rd w.heap.size (M + 1) u' (w.heap.size + 1) ∧ u.grownBy u' (some (w.heap.size + 1))) {p q r : Value} :
    ((IntsAt (((u'.setCell ⟨w.heap.size, 0, none⟩ p).setCell ⟨w.heap.size, 1, none⟩ q).setCell ⟨w.heap.size, 2, none⟩ r) x.a x.len ls ∧ IntsAt (((u'.setCell ⟨w.heap.size, 0, none⟩ p).setCell ⟨w.heap.size, 1, none⟩ q).setCell ⟨w.heap.size, 2, none⟩ r) y.a y.len lo ∧ IntsAt (((u'.setCell ⟨w.heap.size, 0, none⟩ p).setCell ⟨w.heap.size, 1, none⟩ q).setCell ⟨w.heap.size, 2, none⟩ r) z.a z.len hi) ∧ Sm 2000 ls ∧ Sm 2000 lo ∧ Sm 2000 hi) ∧
    Below w.heap.size w (((u'.setCell ⟨w.heap.size, 0, none⟩ p).setCell ⟨w.heap.size, 1, none⟩ q).setCell ⟨w.heap.size, 2, none⟩ r) := by
  obtain ⟨h, _, hg⟩ := h
  have f := fun {a : Option Addr} {n : Nat} {zs : List Int} (i : IntsFrom u (w.heap.size + 1 + 1) a n zs) => ((((i.kept hg (fun k hk => by injection hk with hk; omega)).off (c := w.heap.size) (o := 0) (by omega) p).off (c := w.heap.size) (o := 1) (by omega) q).off (c := w.heap.size) (o := 2) (by omega) r).ints
  exact ⟨⟨⟨f h.i1, f h.i2, f h.i3⟩, h.sml⟩, (((h.old.grown hg h.old.size (fun k hk => by injection hk with hk; omega)).setCell (p := ⟨w.heap.size, 0, none⟩) (Nat.le_refl _) p).setCell (p := ⟨w.heap.size, 1, none⟩) (Nat.le_refl _) q).setCell (p := ⟨w.heap.size, 2, none⟩) (Nat.le_refl _) r⟩
end
/-- What the draw of an arm and a step says. -/
def GotZ (w : World) (e : Ending) (w' : World) : Prop :=
  ∃ (x y z : Sl) (ls lo hi : List Int) (s : Int), e = .returned (.tuple #[av x y z, .int .i64 s]) ∧ ((IntsAt w' x.a x.len ls ∧ IntsAt w' y.a y.len lo ∧ IntsAt w' z.a z.len hi) ∧ Sm 2000 ls ∧ Sm 2000 lo ∧ Sm 2000 hi) ∧ LenA x y z ∧ (0 ≤ s ∧ s ≤ 361) ∧ Below w.heap.size w w'
set_option maxHeartbeats 8000000 in
theorem drawGridSize (w : World) (a : Option Addr) (len cap : Nat) (zs : List Int) (h : Bytes w a len cap zs) :
    Calls Try.prog 9 #[.slice a len cap] w (GotZ w) := by
  have HB := Lib.hid (below_box w (.cells #[.slice none 0 0, .slice none 0 0, .slice none 0 0] 25))
  have R0 := AtA.box w (.slice none 0 0) (.slice none 0 0) (.slice none 0 0) 25
  go_enter Try.func9, Try.ntmps9
  go_wp2_with fail
  refine (gopen w _ a len cap zs h HB.out (w.heap.size + 1) (by simp)).mono ?_
  rintro e w1 ⟨rfl, hr1, hb1⟩
  have R1 := R0.next hb1
  have H1 := below_call HB.out hb1
  have hlt1 := hr1.lt
  clear R0 HB hb1 h
  go_wp2_with fail
  refine (l20ArmT _ _ _ 2 9 _ hr1 (by omega) (by omega) (by omega) (by omega) (by omega)).mono ?_
  rintro e w3 ⟨⟨xa, xl, xc⟩, ⟨ya, yl, yc⟩, ⟨za, zl, zc⟩, ls, lo, hi, rfl, ⟨i1, i2, i3⟩, ⟨lx, ly, lz⟩, _, _, hsm, hr3, hg3⟩
  simp only at i1 i2 i3 lx ly lz
  have Bv := below_box w3 (.cells #[.slice xa xl xc, .slice ya yl yc, .slice za zl zc] 25)
  have hlt3 := hr3.lt
  have S4 : StZ w (0 + 16) w3.heap.size (w3.alloc (.cells #[.slice xa xl xc, .slice ya yl yc, .slice za zl zc] 25)) ⟨xa, xl, xc⟩ ⟨ya, yl, yc⟩ ⟨za, zl, zc⟩ ls lo hi :=
    ⟨hr3.alloc _, below_call (H1.grown hg3 H1.size (fun k hk => by injection hk with hk; omega)) Bv, AtA.box w3 _ _ _ _, (R1.kept hg3 (by simp)).next Bv, (i1.down (by omega)).next Bv, (i2.down (by omega)).next Bv, (i3.down (by omega)).next Bv, ⟨lx, ly, lz⟩, hsm, ⟨by simp; omega, by omega, by omega, by omega⟩, by omega⟩
  obtain ⟨V, hV⟩ : ∃ V, w3.heap.size = V := ⟨_, rfl⟩
  rw [hV] at S4
  clear R1 H1 hr1 i1 i2 i3 lx ly lz hsm hr3 hg3 Bv
  go_upto_region 3 with fail
  clear hV
  generalize w3.alloc (.cells #[.slice xa xl xc, .slice ya yl yc, .slice za zl zc] 25) = w4 at *
  have hr4 := S4.rd
  go_wp2_with fail
  refine (oddZ _ _ _ 9 _ hr4 (by omega) (by omega) (by omega)).mono ?_
  rintro e w5 ⟨b, rfl, hr5, hg5, -⟩
  have S5 : StZ w (0 + 16 + 1) V w5 ⟨xa, xl, xc⟩ ⟨ya, yl, yc⟩ ⟨za, zl, zc⟩ ls lo hi :=
    ⟨hr5, S4.old.grown hg5 S4.old.size (fun k hk => by injection hk with hk; omega), S4.arm.kept hg5 (by simpa using S4.lt.2.2.1), S4.res.kept hg5 (by simp), S4.i1.kept hg5 (fun k hk => by injection hk with hk; omega), S4.i2.kept hg5 (fun k hk => by injection hk with hk; omega), S4.i3.kept hg5 (fun k hk => by injection hk with hk; omega), S4.lens, S4.sml, ⟨hr5.lt, by omega, S4.lt.2.2⟩, S4.ne⟩
  clear S4 hr4 hr5 hg5
  cases b
  · have SZ := Lib.hid S5
    clear S5
    have P5 := SZ.out.arm.next (below_drew' w5)
    have O5 := SZ.out.res.next (below_drew' w5)
    have k5 := SZ.out.rd.drew
    have nRV := SZ.out.ne
    have hsz := SZ.out.lt
    have r1 : w5.drew.cell? ⟨V, 0, none⟩ = some (.slice xa xl xc) ∧ w5.drew.cell? ⟨V, 1, none⟩ = some (.slice ya yl yc) ∧ w5.drew.cell? ⟨V, 2, none⟩ = some (.slice za zl zc) := ⟨P5.c0, P5.c1, P5.c2⟩
    go_upto_region 5 with fail
    go_region_held3 (fun u => u.cell? ⟨V, 0, none⟩ = some (.slice xa xl xc) ∧ u.cell? ⟨V, 1, none⟩ = some (.slice ya yl yc) ∧ u.cell? ⟨V, 2, none⟩ = some (.slice za zl zc)) (first | exact r1 | exact r3 | exact r4) (first
      | (go_at_call 31
         (with_reducible refine (l20StepC _ _ _ _ k5 (by omega)).mono ?_)
         rintro e w9 ⟨st, st0, st1, rfl, hr9, hg9⟩
         have P6 := P5.kept hg9 (by simpa using hsz.2.2.1)
         have r3 : w9.cell? ⟨V, 0, none⟩ = some (.slice xa xl xc) ∧ w9.cell? ⟨V, 1, none⟩ = some (.slice ya yl yc) ∧ w9.cell? ⟨V, 2, none⟩ = some (.slice za zl zc) := ⟨P6.c0, P6.c1, P6.c2⟩
         have P7 := ((P6.far (c := w.heap.size) (o := 0) nRV (.slice xa xl xc)).far (c := w.heap.size) (o := 1) nRV (.slice ya yl yc)).far (c := w.heap.size) (o := 2) nRV (.slice za zl zc)
         have r4 := And.intro P7.c0 (And.intro P7.c1 P7.c2)
         obtain ⟨_, t0, t1, t2, u0, u1, u2⟩ := id (O5.kept hg9 (by simp)))
      | fail)
    have HF := Lib.hid (StZ.fin (SZ.out.drew.grown hr9 hg9) (p := .slice xa xl xc) (q := .slice ya yl yc) (r := .slice za zl zc))
    have HL := Lib.hid SZ.out.lens
    clear SZ P5 O5 k5 r1 r3 r4 P6 P7 hr9 hg9
    go_wp2
    exact bodyPost_ret (v := .tuple #[av ⟨xa, xl, xc⟩ ⟨ya, yl, yc⟩ ⟨za, zl, zc⟩, .int .i64 st]) (by simp [results, Try.results9, go_sem, t0, t1, t2]) rfl
      ⟨⟨xa, xl, xc⟩, ⟨ya, yl, yc⟩, ⟨za, zl, zc⟩, _, _, _, st, rfl, HF.out.1, HL.out, ⟨st0, st1⟩, HF.out.2⟩
  · have hr5 := S5.rd
    have HS5 := Lib.hid S5
    clear S5
    go_wp2_with fail
    refine (l20ArmT _ _ _ 3 0 _ hr5 (by omega) (by omega) (by omega) (by omega) (by omega)).mono ?_
    rintro e w7 ⟨⟨pa, pl, pc⟩, ⟨qa, ql, qc⟩, ⟨sa, sl, sc⟩, ls2, lo2, hi2, rfl, ⟨i1, i2, i3⟩, ⟨lx, ly, lz⟩, _, _, hsm, hr7, hg7⟩
    simp only at i1 i2 i3 lx ly lz
    have hV5 : V < w5.heap.size := HS5.out.arm.lt
    have hne := HS5.out.ne
    have hge : w.heap.size ≤ V := HS5.out.lt.2.2.2
    have A7 := HS5.out.arm.kept hg7 (by simpa using HS5.out.lt.2.2.1)
    have SZ : Hid (StZ w (0 + 16 + 1 + 16) V (((w7.setCell ⟨V, 0, none⟩ (.slice pa pl pc)).setCell ⟨V, 1, none⟩ (.slice qa ql qc)).setCell ⟨V, 2, none⟩ (.slice sa sl sc)) ⟨pa, pl, pc⟩ ⟨qa, ql, qc⟩ ⟨sa, sl, sc⟩ ls2 lo2 hi2) := Lib.hid
      ⟨((hr7.set HS5.out.lt.2.2.1 hge _).set HS5.out.lt.2.2.1 hge _).set HS5.out.lt.2.2.1 hge _, (((HS5.out.old.grown hg7 HS5.out.old.size (fun k hk => by injection hk with hk; omega)).setCell (p := ⟨V, 0, none⟩) hge _).setCell (p := ⟨V, 1, none⟩) hge _).setCell (p := ⟨V, 2, none⟩) hge _,
        ((A7.put0 _).put1 _).put2 _, (((HS5.out.res.kept hg7 (by simp)).far hne.symm _).far hne.symm _).far hne.symm _,
        (((i1.off hV5 _).off hV5 _).off hV5 _).down (by have := HS5.out.lt.1; omega), (((i2.off hV5 _).off hV5 _).off hV5 _).down (by have := HS5.out.lt.1; omega), (((i3.off hV5 _).off hV5 _).off hV5 _).down (by have := HS5.out.lt.1; omega), ⟨lx, ly, lz⟩, hsm,
        ⟨by have := hr7.lt; simpa [World.setCell] using this, by omega, HS5.out.lt.2.2⟩, hne⟩
    obtain ⟨_, c0, c1, c2, f0, f1, f2⟩ := id A7
    clear HS5 hr5 i1 i2 i3 lx ly lz hsm hr7 hg7 A7
    go_upto_region 5 with fail
    generalize ((w7.setCell ⟨V, 0, none⟩ (.slice pa pl pc)).setCell ⟨V, 1, none⟩ (.slice qa ql qc)).setCell ⟨V, 2, none⟩ (.slice sa sl sc) = w8 at *
    clear c0 c1 c2 f0 f1 f2
    have P5 := SZ.out.arm.next (below_drew' w8)
    have O5 := SZ.out.res.next (below_drew' w8)
    have k5 := SZ.out.rd.drew
    have nRV := SZ.out.ne
    have hsz := SZ.out.lt
    have r1 : w8.drew.cell? ⟨V, 0, none⟩ = some (.slice pa pl pc) ∧ w8.drew.cell? ⟨V, 1, none⟩ = some (.slice qa ql qc) ∧ w8.drew.cell? ⟨V, 2, none⟩ = some (.slice sa sl sc) := ⟨P5.c0, P5.c1, P5.c2⟩
    go_region_held3 (fun u => u.cell? ⟨V, 0, none⟩ = some (.slice pa pl pc) ∧ u.cell? ⟨V, 1, none⟩ = some (.slice qa ql qc) ∧ u.cell? ⟨V, 2, none⟩ = some (.slice sa sl sc)) (first | exact r1 | exact r3 | exact r4) (first
      | (go_at_call 31
         (with_reducible refine (l20StepC _ _ _ _ k5 (by omega)).mono ?_)
         rintro e w9 ⟨st, st0, st1, rfl, hr9, hg9⟩
         have P6 := P5.kept hg9 (by simpa using hsz.2.2.1)
         have r3 : w9.cell? ⟨V, 0, none⟩ = some (.slice pa pl pc) ∧ w9.cell? ⟨V, 1, none⟩ = some (.slice qa ql qc) ∧ w9.cell? ⟨V, 2, none⟩ = some (.slice sa sl sc) := ⟨P6.c0, P6.c1, P6.c2⟩
         have P7 := ((P6.far (c := w.heap.size) (o := 0) nRV (.slice pa pl pc)).far (c := w.heap.size) (o := 1) nRV (.slice qa ql qc)).far (c := w.heap.size) (o := 2) nRV (.slice sa sl sc)
         have r4 := And.intro P7.c0 (And.intro P7.c1 P7.c2)
         obtain ⟨_, t0, t1, t2, u0, u1, u2⟩ := id (O5.kept hg9 (by simp)))
      | fail)
    have HF := Lib.hid (StZ.fin (SZ.out.drew.grown hr9 hg9) (p := .slice pa pl pc) (q := .slice qa ql qc) (r := .slice sa sl sc))
    have HL := Lib.hid SZ.out.lens
    clear SZ P5 O5 k5 r1 r3 r4 P6 P7 hr9 hg9
    go_wp2
    exact bodyPost_ret (v := .tuple #[av ⟨pa, pl, pc⟩ ⟨qa, ql, qc⟩ ⟨sa, sl, sc⟩, .int .i64 st]) (by simp [results, Try.results9, go_sem, t0, t1, t2]) rfl
      ⟨⟨pa, pl, pc⟩, ⟨qa, ql, qc⟩, ⟨sa, sl, sc⟩, _, _, _, st, rfl, HF.out.1, HL.out, ⟨st0, st1⟩, HF.out.2⟩
end Go.Proofs.Ytkogoflcacameaa
