/- What the laws on free cells draw: an arm, a step and a scene. -/
import Derived.Test.YtkogoflcacameaaDoorDk10
import Derived.Test.YtkogoflcacameaaDoorZc11z
import Derived.Deep.DeepCutAuto
namespace Go.Proofs.YtkogoflcacameaaDoor
set_option maxRecDepth 100000
open Go.RowKit
attribute [local go_sem ↓] Go.wp_at_zero Go.wp_at_succ
theorem StZ.next11 {w u u' : World} {M V : Nat} {x y z : Sl} {ls lo hi : List Int} (h : StZ w M V u x y z ls lo hi) (hb : Below u.heap.size u u') : StZ w M V u' x y z ls lo hi :=
  have hg : u.grownBy u' none := ⟨hb.os, hb.tape, hb.output, hb.size, fun k hk _ => hb.block k hk⟩
  ⟨h.rd.kept hg (by simp) (fun k e => by cases e), below_call h.old hb, h.arm.next hb, h.res.next hb, h.i1.next hb, h.i2.next hb, h.i3.next hb, h.lens, h.sml, ⟨Nat.lt_of_lt_of_le h.lt.1 hb.size, h.lt.2⟩, h.ne⟩
theorem StZ.pick11 {w u u' : World} {M M' V : Nat} {x y z : Sl} {ls lo hi : List Int} (h : StZ w M V u x y z ls lo hi) (hr : Rd w.heap.size M' u' (w.heap.size + 1)) (hM : M' ≤ 200) (hg : u.grownBy u' (some (w.heap.size + 1))) : StZ w M' V u' x y z ls lo hi :=
  ⟨hr, h.old.grown hg h.old.size (fun k hk => by injection hk with hk; omega), h.arm.kept hg (by simpa using h.lt.2.2.1), h.res.kept hg (by simp), h.i1.kept hg (fun k hk => by injection hk with hk; omega), h.i2.kept hg (fun k hk => by injection hk with hk; omega), h.i3.kept hg (fun k hk => by injection hk with hk; omega), h.lens, h.sml, ⟨Nat.lt_of_lt_of_le h.lt.1 hg.size, hM, h.lt.2.2⟩, h.ne⟩
/-- What the draw of an arm, a step and a scene says. -/
def GotFS (w : World) (e : Ending) (w' : World) : Prop :=
  ∃ (x y z s : Sl) (ls lo hi : List Int) (st : Int) (pss : List (List P2)), e = .returned (.tuple #[av x y z, .int .i64 st, .slice s.a s.len s.cap]) ∧ (IntsAt w' x.a x.len ls ∧ IntsAt w' y.a y.len lo ∧ IntsAt w' z.a z.len hi ∧ PSS w' s.a s.len pss) ∧ (x.len ≤ 5 ∧ y.len ≤ 4 ∧ z.len ≤ 4 ∧ s.len ≤ 9) ∧ (0 ≤ st ∧ st ≤ 30) ∧ Below w.heap.size w w'
set_option maxHeartbeats 8000000 in
theorem drawFreeCells (w : World) (a : Option Addr) (len cap : Nat) (zs : List Int) (h : Bytes w a len cap zs) :
    Calls Tryd.prog 5 #[.slice a len cap] w (GotFS w) := by
  have HB := Lib.hid (below_box w (.cells #[.slice none 0 0, .slice none 0 0, .slice none 0 0] 25))
  have R0 := AtA.box w (.slice none 0 0) (.slice none 0 0) (.slice none 0 0) 25
  go_enter Tryd.func5, Tryd.ntmps5
  go_wp2_with fail
  refine (gopen w _ a len cap zs h HB.out (w.heap.size + 1) (by simp)).mono ?_
  rintro e w1 ⟨rfl, hr1, hb1⟩
  have R1 := R0.next hb1
  have H1 := below_call HB.out hb1
  have hlt1 := hr1.lt
  clear R0 HB hb1 h
  go_wp2_with fail
  refine (l20ArmT _ _ _ 2 14 _ hr1 (by omega) (by omega) (by omega) (by omega) (by omega)).mono ?_
  rintro e w3 ⟨⟨xa, xl, xc⟩, ⟨ya, yl, yc⟩, ⟨za, zl, zc⟩, ls, lo, hi, rfl, ⟨i1, i2, i3⟩, ⟨lx, ly, lz⟩, _, _, hsm, hr3, hg3⟩
  simp only at i1 i2 i3 lx ly lz
  have Bv := below_box w3 (.cells #[.slice xa xl xc, .slice ya yl yc, .slice za zl zc] 25)
  have hlt3 := hr3.lt
  have S4 : StZ w (0 + 16) w3.heap.size (w3.alloc (.cells #[.slice xa xl xc, .slice ya yl yc, .slice za zl zc] 25)) ⟨xa, xl, xc⟩ ⟨ya, yl, yc⟩ ⟨za, zl, zc⟩ ls lo hi :=
    ⟨hr3.alloc _, below_call (H1.grown hg3 H1.size (fun k hk => by injection hk with hk; omega)) Bv, AtA.box w3 _ _ _ _, (R1.kept hg3 (by simp)).next Bv, (i1.down (by omega)).next Bv, (i2.down (by omega)).next Bv, (i3.down (by omega)).next Bv, ⟨lx, ly, lz⟩, hsm, ⟨by simp; omega, by omega, by omega, by omega⟩, by omega⟩
  obtain ⟨V, hV⟩ : ∃ V, w3.heap.size = V := ⟨_, rfl⟩
  rw [hV] at S4
  clear R1 H1 hr1 i1 i2 i3 lx ly lz hsm hr3 hg3 Bv
  go_upto_region 3 with fail
  clear hV
  generalize w3.alloc (.cells #[.slice xa xl xc, .slice ya yl yc, .slice za zl zc] 25) = w4 at *
  have HS4 := Lib.hid S4
  clear S4
  go_cut [7] from 12 to 19 (fun v wx => ∃ st : Int, v = .int .i64 st ∧ 0 ≤ st ∧ st ≤ 30 ∧ Hid (StZ w (0 + 16 + 1) V wx ⟨xa, xl, xc⟩ ⟨ya, yl, yc⟩ ⟨za, zl, zc⟩ ls lo hi))
  case first =>
    have S5 := (HS4.out.next11 (below_box w4 (.cells #[.int .i64 10, .int .i64 15, .int .i64 30, .int .i64 0] 3))).next11 (below_box _ (.cells #[.int .i64 0, .int .i64 1, .int .i64 1, .int .i64 2, .int .i64 2, .int .i64 3] 3))
    have hlt := HS4.out.rd.lt
    have hr5 := S5.rd
    have HS5 := Lib.hid S5
    clear S5 HS4
    go_wp2_with fail
    refine (pick _ _ _ 6 _ hr5 (by omega)).mono ?_
    rintro e w5 ⟨x5, a5, b5, rfl, hr6, hg5, -⟩
    have c5 := b5 (by omega)
    have f1 := fun o => hg5.cell_far ⟨w4.heap.size + 1, o, none⟩ (by simp) (by simp; omega)
    have f0 := fun o => hg5.cell_far ⟨w4.heap.size, o, none⟩ (by simp; omega) (by simp; omega)
    have S6 := Lib.hid (HS5.out.pick11 hr6 (by omega) hg5)
    clear hr5 hr6 hg5 HS5 b5
    have hx : x5 = 0 ∨ x5 = 1 ∨ x5 = 2 ∨ x5 = 3 ∨ x5 = 4 ∨ x5 = 5 := by omega
    clear a5 c5
    rcases hx with rfl | rfl | rfl | rfl | rfl | rfl
    all_goals
      go_wp2_with fail
      go_meet
      refine ⟨_, rfl, ?_, ?_, S6⟩ <;> omega
  case rest =>
    obtain ⟨st, rfl, st0, st1, SZ⟩ := hcut
    clear HS4
    have P5 := SZ.out.arm.next (below_drew' wc)
    have O5 := Lib.hid (SZ.out.res.next (below_drew' wc))
    have k5 := SZ.out.rd.drew
    have nRV := SZ.out.ne
    have hsz := SZ.out.lt
    have hs5 : w.heap.size + 1 < wc.drew.heap.size := hsz.1
    have nV1r : V ≠ w.heap.size + 1 := hsz.2.2.1
    have r1 : wc.drew.cell? ⟨V, 0, none⟩ = some (.slice xa xl xc) ∧ wc.drew.cell? ⟨V, 1, none⟩ = some (.slice ya yl yc) ∧ wc.drew.cell? ⟨V, 2, none⟩ = some (.slice za zl zc) := ⟨P5.c0, P5.c1, P5.c2⟩
    go_upto_region 4 with fail
    go_region_held3 (fun u => u.cell? ⟨V, 0, none⟩ = some (.slice xa xl xc) ∧ u.cell? ⟨V, 1, none⟩ = some (.slice ya yl yc) ∧ u.cell? ⟨V, 2, none⟩ = some (.slice za zl zc)) (first | exact r1 | exact r3 | exact r4) (first
      | (go_at_call 26
         (with_reducible refine (l20Scene _ _ _ 14 _ k5 (by omega) (by omega) (by omega)).mono ?_)
         rintro e w6 ⟨⟨sa, sl, sc⟩, ss, pss, rfl, hn, S6⟩
         have P6 := P5.kept S6.gr (by simpa using nV1r)
         have r3 : w6.cell? ⟨V, 0, none⟩ = some (.slice xa xl xc) ∧ w6.cell? ⟨V, 1, none⟩ = some (.slice ya yl yc) ∧ w6.cell? ⟨V, 2, none⟩ = some (.slice za zl zc) := ⟨P6.c0, P6.c1, P6.c2⟩
         have P7 := ((P6.far (c := w.heap.size) (o := 0) nRV (.slice xa xl xc)).far (c := w.heap.size) (o := 1) nRV (.slice ya yl yc)).far (c := w.heap.size) (o := 2) nRV (.slice za zl zc)
         have r4 := And.intro P7.c0 (And.intro P7.c1 P7.c2)
         obtain ⟨_, t0, t1, t2, u0, u1, u2⟩ := id (O5.out.kept S6.gr (by simp)))
      | fail)
    have hrs : ∀ k ∈ [w.heap.size], k < w.heap.size + 1 := by simp
    have HL := Lib.hid SZ.out.lens
    have D5 := SZ.out.old.drew
    have H6 := Lib.hid (D5.grown S6.gr D5.size (fun k hk => by injection hk with hk; omega))
    have G7 := Lib.hid ((GSt.start (rs := [w.heap.size]) S6.rd H6.out).set3 (k := w.heap.size) (by simp) (Nat.le_refl _) (by omega) (.slice xa xl xc) (.slice ya yl yc) (.slice za zl zc))
    have kept := fun {z : Option Addr} {n : Nat} {zs : List Int} (i : IntsFrom wc (w.heap.size + 1 + 1) z n zs) => (G7.out.ints10 ((i.next (below_drew' wc)).kept S6.gr (fun k hk => by injection hk with hk; omega)) hrs).ints
    have HF := Lib.hid (And.intro (kept SZ.out.i1) (And.intro (kept SZ.out.i2) (And.intro (kept SZ.out.i3) (G7.out.pss9 (s := ⟨sa, sl, sc⟩) S6 (fun k hk => ⟨by omega, by simp; omega⟩)).pss)))
    have HO := Lib.hid G7.out.old
    have hl9 : sl ≤ 9 := by have := S6.cap10.2; omega
    clear kept S6 r1 r3 r4 P5 P6 P7 k5 G7 D5 H6 O5 SZ
    go_wp2
    exact bodyPost_ret (v := .tuple #[av ⟨xa, xl, xc⟩ ⟨ya, yl, yc⟩ ⟨za, zl, zc⟩, .int .i64 st, .slice sa sl sc]) (by simp [results, Tryd.results5, go_sem, t0, t1, t2]) rfl
      ⟨⟨xa, xl, xc⟩, ⟨ya, yl, yc⟩, ⟨za, zl, zc⟩, ⟨sa, sl, sc⟩, ls, lo, hi, st, pss, rfl, HF.out, ⟨HL.out.1, HL.out.2.1, HL.out.2.2, hl9⟩, ⟨st0, st1⟩, HO.out⟩
end Go.Proofs.YtkogoflcacameaaDoor
