/- What DrawArmClear draws: an arm, angles and a scene. -/
import Derived.Test.YtcifokihellcdaaDoorDk10
namespace Go.Proofs.YtcifokihellcdaaDoor
set_option maxRecDepth 100000
open Go.RowKit
attribute [local go_sem ↓] Go.wp_at_zero Go.wp_at_succ
set_option maxHeartbeats 8000000 in
theorem drawArmClear (w : World) (a : Option Addr) (len cap : Nat) (zs : List Int) (h : Bytes w a len cap zs) :
    Calls Tryd.prog 9 #[.slice a len cap] w (GotAS w) := by
  have HB := Lib.hid (below_box w (.cells #[.slice none 0 0, .slice none 0 0, .slice none 0 0] 25))
  have R0 := AtA.box w (.slice none 0 0) (.slice none 0 0) (.slice none 0 0) 25
  go_enter Tryd.func9, Tryd.ntmps9
  go_wp2_with fail
  refine (gopen w _ a len cap zs h HB.out (w.heap.size + 1) (by simp)).mono ?_
  rintro e w1 ⟨rfl, hr1, hb1⟩
  have R1' := Lib.hid (R0.next hb1)
  have H1 := Lib.hid (below_call HB.out hb1)
  clear R0 HB hb1 h
  go_wp2_with fail
  refine (pick _ _ _ 4 _ hr1 (by omega)).mono ?_
  rintro e w2 ⟨q, a1, b1, rfl, hr2, hg2, hs2⟩
  have b2 := b1 (by omega)
  obtain ⟨m, hm⟩ : ∃ m : Nat, 1 + q = (m : Int) := ⟨(1 + q).toNat, by omega⟩
  have hlt2 := hr2.lt
  clear b1 hs2 hr1
  go_wp2_with fail
  refine (l20ArmT _ _ _ m 14 _ hr2 (by omega) (by omega) (by omega) (by omega) (by omega)).mono ?_
  rintro e w3 ⟨⟨xa, xl, xc⟩, ⟨ya, yl, yc⟩, ⟨za, zl, zc⟩, ls, lo, hi, rfl, ⟨i1, i2, i3⟩, ⟨lx, ly, lz⟩, _, _, ⟨_, sy, sz⟩, hr3, hg3⟩
  simp only at i1 i2 i3 lx ly lz
  have hg := hg2.trans hg3
  have H3 := Lib.hid (H1.out.grown hg H1.out.size (fun k hk => by injection hk with hk; omega))
  have Bv := below_box w3 (.cells #[.slice xa xl xc, .slice ya yl yc, .slice za zl zc] 25)
  have O3 := Lib.hid ((R1'.out.kept hg (by simp)).next Bv)
  have hlt3 := hr3.lt
  have P3 := AtA.box w3 (.slice xa xl xc) (.slice ya yl yc) (.slice za zl zc) 25
  have hr4 := hr3.alloc (.cells #[.slice xa xl xc, .slice ya yl yc, .slice za zl zc] 25)
  have H4 := Lib.hid (below_call H3.out Bv)
  have I3 := Lib.hid (And.intro ((i1.down (base' := w.heap.size + 1 + 1) (by omega)).next Bv) (And.intro ((i2.down (base' := w.heap.size + 1 + 1) (by omega)).next Bv) ((i3.down (base' := w.heap.size + 1 + 1) (by omega)).next Bv)))
  obtain ⟨V1, hV1⟩ : ∃ V1, w3.heap.size = V1 := ⟨_, rfl⟩
  rw [hV1] at P3 hlt3
  clear i1 i2 i3 hr2 hg2 hg3 hr3 hg H1 H3 R1' Bv
  go_upto_region 3 with fail
  clear hV1 hm
  generalize w3.alloc (.cells #[.slice xa xl xc, .slice ya yl yc, .slice za zl zc] 25) = w4 at *
  have G4 := Lib.hid (GSt.start (rs := [w.heap.size]) hr4 H4.out)
  have hrs : ∀ k ∈ [w.heap.size], k < w.heap.size + 1 := by simp
  have nV1r : V1 ≠ w.heap.size + 1 := by omega
  have nV1s : V1 ∉ [w.heap.size] := by simp; omega
  have nRV : w.heap.size ≠ V1 := by omega
  have hs4 : w.heap.size + 1 < w4.heap.size := by have := P3.lt; omega
  have hPV4 := Lib.hid P3
  obtain ⟨_, k0, k1, k2, _, _, _⟩ := id P3
  go_wp2_with fail
  refine (l20Joints _ _ _ 14 ⟨xa, xl, xc⟩ ⟨ya, yl, yc⟩ ⟨za, zl, zc⟩ ls lo hi _ G4.out.rd (by omega) (by omega) (by omega) I3.out.1 I3.out.2.1 I3.out.2.2 lx ly lz sy sz).mono ?_
  rintro e w5 ⟨⟨ja, jl, jc⟩, js, rfl, ij, lj, _, hr5, hg5⟩
  simp only at ij lj
  have G5 := Lib.hid (G4.out.grown hr5 hg5)
  have O5 := Lib.hid ((O3.out.kept hg5 (by simp)).next (below_drew' w5))
  have J5 := Lib.hid ((ij.down (base' := w.heap.size + 1 + 1) (by omega)).next (below_drew' w5))
  have P5 := (G5.out.ata hPV4.out nV1r nV1s).next (below_drew' w5)
  have I5 := Lib.hid (And.intro ((G5.out.ints10 I3.out.1 hrs).next (below_drew' w5)) (And.intro ((G5.out.ints10 I3.out.2.1 hrs).next (below_drew' w5)) ((G5.out.ints10 I3.out.2.2 hrs).next (below_drew' w5))))
  have D5 := Lib.hid G5.out.drew
  have hs5 : w.heap.size + 1 < w5.drew.heap.size := D5.out.rd.lt
  have k5 := D5.out.rd
  clear k0 k1 k2 ij hr5 hg5 P3 O3 G4 G5 I3 hPV4 hr4 H4
  go_upto_region 4 with fail
  have r1 : w5.drew.cell? ⟨V1, 0, none⟩ = some (.slice xa xl xc) ∧ w5.drew.cell? ⟨V1, 1, none⟩ = some (.slice ya yl yc) ∧ w5.drew.cell? ⟨V1, 2, none⟩ = some (.slice za zl zc) := ⟨P5.c0, P5.c1, P5.c2⟩
  go_region_held3 (fun u => u.cell? ⟨V1, 0, none⟩ = some (.slice xa xl xc) ∧ u.cell? ⟨V1, 1, none⟩ = some (.slice ya yl yc) ∧ u.cell? ⟨V1, 2, none⟩ = some (.slice za zl zc)) (first | exact r1 | exact r3 | exact r4) (first
    | (go_at_call 38
       (with_reducible refine (l20Scene _ _ _ 14 _ k5 (by omega) (by omega) (by omega)).mono ?_)
       rintro e w6 ⟨⟨sa, sl, sc⟩, ss, pss, rfl, hn, S6⟩
       have P6 := P5.kept S6.gr (by simpa using nV1r)
       have r3 : w6.cell? ⟨V1, 0, none⟩ = some (.slice xa xl xc) ∧ w6.cell? ⟨V1, 1, none⟩ = some (.slice ya yl yc) ∧ w6.cell? ⟨V1, 2, none⟩ = some (.slice za zl zc) := ⟨P6.c0, P6.c1, P6.c2⟩
       have P7 := ((P6.far (c := w.heap.size) (o := 0) nRV (.slice xa xl xc)).far (c := w.heap.size) (o := 1) nRV (.slice ya yl yc)).far (c := w.heap.size) (o := 2) nRV (.slice za zl zc)
       have r4 := And.intro P7.c0 (And.intro P7.c1 P7.c2)
       obtain ⟨_, t0, t1, t2, u0, u1, u2⟩ := id (O5.out.kept S6.gr (by simp)))
    | fail)
  have HS6 := Lib.hid S6
  have HCAP := Lib.hid S6.cap10.1
  have H6 := Lib.hid (D5.out.old.grown S6.gr D5.out.old.size (fun k hk => by injection hk with hk; omega))
  have G7 := Lib.hid ((GSt.start (rs := [w.heap.size]) S6.rd H6.out).set3 (k := w.heap.size) (by simp) (Nat.le_refl _) (by omega) (.slice xa xl xc) (.slice ya yl yc) (.slice za zl zc))
  have kept := fun {z : Option Addr} {n : Nat} {zs : List Int} (i : IntsFrom w5.drew (w.heap.size + 1 + 1) z n zs) => (G7.out.ints10 (i.kept S6.gr (fun k hk => by injection hk with hk; omega)) hrs).ints
  have HF := Lib.hid (And.intro (kept I5.out.1) (And.intro (kept I5.out.2.1) (And.intro (kept I5.out.2.2) (And.intro (kept J5.out) (G7.out.pss9 (s := ⟨sa, sl, sc⟩) S6 (fun k hk => ⟨by omega, by simp; omega⟩)).pss))))
  have HO := Lib.hid G7.out.old
  have hl9 : sl ≤ 9 := by have := S6.cap10.2; omega
  clear kept S6 r1 r3 r4 P5 P6 P7 k5 HS6 G7 D5 H6 I5 J5 O5
  go_wp2
  exact bodyPost_ret (v := .tuple #[av ⟨xa, xl, xc⟩ ⟨ya, yl, yc⟩ ⟨za, zl, zc⟩, .slice ja jl jc, .slice sa sl sc]) (by simp [results, Tryd.results9, go_sem, t0, t1, t2]) rfl
    ⟨⟨xa, xl, xc⟩, ⟨ya, yl, yc⟩, ⟨za, zl, zc⟩, ⟨ja, jl, jc⟩, ⟨sa, sl, sc⟩, ls, lo, hi, js, pss, rfl, HF.out, ⟨lx, ly, lz, by simp only; omega, hl9⟩, HCAP.out, HO.out⟩
end Go.Proofs.YtcifokihellcdaaDoor
