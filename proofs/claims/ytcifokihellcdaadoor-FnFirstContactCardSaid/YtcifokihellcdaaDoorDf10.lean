/- What DrawFirstContact draws: an arm, rows of angles and a scene. -/
import Derived.Test.YtcifokihellcdaaDoorDk10
namespace Go.Proofs.YtcifokihellcdaaDoor
set_option maxRecDepth 100000
open Go.RowKit
attribute [local go_sem ↓] Go.wp_at_zero Go.wp_at_succ
set_option maxHeartbeats 8000000 in
theorem drawFirstContact (w : World) (a : Option Addr) (len cap : Nat) (zs : List Int) (h : Bytes w a len cap zs) :
    Calls Tryd.prog 19 #[.slice a len cap] w (GotRS w) := by
  obtain ⟨i0, hi0, hz0, hz1, hz2⟩ := info_parts infoSlI
  have HB := Lib.hid (below_box w (.cells #[.slice none 0 0, .slice none 0 0, .slice none 0 0] 25))
  have R0 := AtA.box w (.slice none 0 0) (.slice none 0 0) (.slice none 0 0) 25
  go_enter Tryd.func19, Tryd.ntmps19
  go_wp2_with fail
  refine (gopen w _ a len cap zs h HB.out (w.heap.size + 1) (by simp)).mono ?_
  rintro e w1 ⟨rfl, hr1, hb1⟩
  have R1' := Lib.hid (R0.next hb1)
  have H1 := Lib.hid (below_call HB.out hb1)
  clear R0 HB hb1 h
  go_wp2_with fail
  refine (pick _ _ _ 3 _ hr1 (by omega)).mono ?_
  rintro e w2 ⟨q, a1, b1, rfl, hr2, hg2, hs2⟩
  have b2 := b1 (by omega)
  obtain ⟨m, hm⟩ : ∃ m : Nat, 1 + q = (m : Int) := ⟨(1 + q).toNat, by omega⟩
  have hlt2 := hr2.lt
  clear b1 hs2 hr1
  go_wp2_with fail
  refine (l20ArmT _ _ _ m 14 _ hr2 (by omega) (by omega) (by omega) (by omega) (by omega)).mono ?_
  rintro e w3 ⟨⟨xa, xl, xc⟩, ⟨ya, yl, yc⟩, ⟨za, zl, zc⟩, ls, lo, hi, rfl, ⟨i1, i2, i3⟩, ⟨lx, ly, lz⟩, _, _, ⟨_, sy, sz⟩, hr3, hg3⟩
  simp only at i1 i2 i3 lx ly lz
  have hg := hg2.trans hg3
  have H3 := Lib.hid (H1.out.grown hg H1.out.size (fun k hk => by injection hk with hk; omega))
  have Bv := below_box w3 (.cells #[.slice xa xl xc, .slice ya yl yc, .slice za zl zc] 25)
  have O3 := Lib.hid ((R1'.out.kept hg (by simp)).next Bv)
  have hlt3 := hr3.lt
  have P3 := AtA.box w3 (.slice xa xl xc) (.slice ya yl yc) (.slice za zl zc) 25
  have hr4 := hr3.alloc (.cells #[.slice xa xl xc, .slice ya yl yc, .slice za zl zc] 25)
  have H4 := Lib.hid (below_call H3.out Bv)
  have I3 := Lib.hid (And.intro ((i1.down (base' := w.heap.size + 1 + 1) (by omega)).next Bv) (And.intro ((i2.down (base' := w.heap.size + 1 + 1) (by omega)).next Bv) ((i3.down (base' := w.heap.size + 1 + 1) (by omega)).next Bv)))
  obtain ⟨V1, hV1⟩ : ∃ V1, w3.heap.size = V1 := ⟨_, rfl⟩
  rw [hV1] at P3 hlt3
  clear i1 i2 i3 hr2 hg2 hg3 hr3 hg H1 H3 R1' Bv
  go_upto_region 3 with fail
  clear hV1 hm
  generalize w3.alloc (.cells #[.slice xa xl xc, .slice ya yl yc, .slice za zl zc] 25) = w4 at *
  have G4 := Lib.hid (GSt.start (rs := [w.heap.size]) hr4 H4.out)
  have hrs : ∀ k ∈ [w.heap.size], k < w.heap.size + 1 := by simp
  have nV1r : V1 ≠ w.heap.size + 1 := by omega
  have nV1s : V1 ∉ [w.heap.size] := by simp; omega
  have nRV : w.heap.size ≠ V1 := by omega
  have hs4 : w.heap.size + 1 < w4.heap.size := by have := P3.lt; omega
  have hPV4 := Lib.hid P3
  have hr4' := G4.out.rd
  have hrlt : w.heap.size + 1 < w4.heap.size := hs4
  have hBW : w.heap.size ≤ w4.heap.size := by omega
  have S0 := Lib.hid (RS.new hr4' (World.grownBy.refl w4 (some (w.heap.size + 1))) (Nat.le_refl _) 23 rfl)
  clear P3 hr4
  go_wp2_with fail
  refine (pick _ _ _ 6 _ S0.out.rd (by omega)).mono ?_
  rintro e w5 ⟨x1, a5, b5, rfl, hr5, hg5, hs5⟩
  have c5 := b5 (by omega)
  have S5 := Lib.hid (S0.out.pick hr5 hg5 hrlt)
  obtain ⟨n, rfl⟩ : ∃ n : Nat, x1 = (n : Int) := ⟨x1.toNat, by omega⟩
  have hn5 : n ≤ 5 := by omega
  have HL : Hid (LoopR w4 w.heap.size (0 + 1 + 16 + 1) (w.heap.size + 1) n n (.slice (some ⟨w4.heap.size, 0, none⟩) 0 0) w5) := Lib.hid ⟨[], [], by simp, S5.out⟩
  clear b5 hr5 hg5 hs5 S0 S5 hr4'
  go_wp2
  go_loopw [7, 8] (fun v i wr => ∃ k : Nat, k ≤ n ∧ i = .int .i64 (k : Int) ∧ Hid (LoopR w4 w.heap.size (0 + 1 + 16 + 1) (w.heap.size + 1) n k v wr)) (fun _ i _ => (intOf i).toNat)
  case atStart => exact ⟨n, Nat.le_refl _, rfl, HL⟩
  case round =>
    obtain ⟨k, hk, rfl, HS⟩ := hrel
    clear HL
    obtain ⟨ss, rows, hps, S⟩ := HS.out
    have hlen : rows.length ≤ 5 := by omega
    have P := hPV4.out.kept S.gr (by simpa using nV1r)
    have HI := Lib.hid (And.intro (I3.out.1.kept S.gr (fun k hk => by injection hk with hk; omega)) (And.intro (I3.out.2.1.kept S.gr (fun k hk => by injection hk with hk; omega)) (I3.out.2.2.kept S.gr (fun k hk => by injection hk with hk; omega))))
    by_cases hlt : 0 < k
    · have j1 : (0 : Int) < (k : Int) := by omega
      obtain ⟨_, k0, k1, k2, _, _, _⟩ := id P
      go_wp2_with fail
      refine (l20Joints _ _ _ 14 ⟨xa, xl, xc⟩ ⟨ya, yl, yc⟩ ⟨za, zl, zc⟩ ls lo hi _ S.rd (by omega) (by omega) (by omega) HI.out.1 HI.out.2.1 HI.out.2.2 lx ly lz sy sz).mono ?_
      rintro e w6 ⟨s, js, rfl, ij, lj, _, hr6, hg6⟩
      have S6' := Lib.hid (S.pick hr6 hg6 hrlt)
      have HQ' := Lib.hid (RowI.of (ob := Value.ownBlock u7) ij lj S.gr.size (fun q hq => (World.ownsRow.lt S.row q hq).2))
      clear S HS ij hr6 hg6 k0 k1 k2 P HI
      have S6 := Lib.hid (S6'.out.alloc (.cells #[slQ s] 23))
      have Q6 := Lib.hid (HQ'.out.grow (row := none) ⟨(below_box w6 (.cells #[slQ s] 23)).os, (below_box w6 (.cells #[slQ s] 23)).tape, (below_box w6 (.cells #[slQ s] 23)).output, (below_box w6 (.cells #[slQ s] 23)).size, fun k hk _ => (below_box w6 (.cells #[slQ s] 23)).block k hk⟩ (fun b e => by cases e))
      have HN := Lib.hid (one_new9 w6 (slQ s) 23)
      have HW := Lib.hid S6.out.gr.size
      clear S6' HQ'
      unfold slQ at S6 Q6 HN
      go_wp2_with (at_builtin; refine wpList_append_lies _ rfl (.tmp 23) (.tmp 27) 39 rfl w4.heap.size 23 i0 (.slice none 0 0) 1 24 Tryd.underlying39 hi0 hz0 hz1 hz2 rfl (by decide) _ rows.length (ss.map slQ) rfl S6.out.row ⟨w6.heap.size, 0, none⟩ 1 1 [.slice s.a s.len s.cap] rfl rfl HN.out (by intro u hu; simp at hu; subst hu; rfl) (by omega) (by unfold maxLen; omega) (by omega) HW.out _ rfl ?_; intro g cap6 w7 own7 grow7 at7 ltg7; have HA7 := Lib.hid (And.intro own7 (And.intro grow7 at7)); clear own7 grow7 at7 ltg7)
      have HR := Lib.hid (S6.out.app hrlt hBW Q6.out HA7.out.1 HA7.out.2.1 HA7.out.2.2)
      clear HA7 S6 Q6
      go_roundw
      case rel => exact ⟨k - 1, by omega, by congr 1; omega, Lib.hid ⟨_, _, by simp; omega, HR.out.mono (by simp; omega)⟩⟩
      case measure => simp [intOf]; omega
    · obtain rfl : k = 0 := by omega
      obtain ⟨⟨ra, rl, rc⟩, hrv, hrl⟩ := S.sl10
      simp only at hrv hrl
      subst hrv
      have hr6 : rl ≤ 6 := by omega
      clear hrl
      have HSR := Lib.hid (S.mono (show 0 + 1 + 16 + 1 + 16 * rows.length ≤ 200 by omega)).drew
      have P5 := P.next (below_drew' wr)
      have O5 := Lib.hid ((O3.out.kept S.gr (by simp)).next (below_drew' wr))
      have I5 := Lib.hid (And.intro (HI.out.1.next (below_drew' wr)) (And.intro (HI.out.2.1.next (below_drew' wr)) (HI.out.2.2.next (below_drew' wr))))
      have D5 := Lib.hid (below_call (H4.out.grown S.gr H4.out.size (fun k hk => by injection hk with hk; omega)) (below_drew' wr))
      have hs5 : w.heap.size + 1 < wr.drew.heap.size := HSR.out.rd.lt
      have k5 := HSR.out.rd
      clear S HS HI P hps
      go_upto_region 8 with fail
      have r1 : wr.drew.cell? ⟨V1, 0, none⟩ = some (.slice xa xl xc) ∧ wr.drew.cell? ⟨V1, 1, none⟩ = some (.slice ya yl yc) ∧ wr.drew.cell? ⟨V1, 2, none⟩ = some (.slice za zl zc) := ⟨P5.c0, P5.c1, P5.c2⟩
      go_region_held3 (fun u => u.cell? ⟨V1, 0, none⟩ = some (.slice xa xl xc) ∧ u.cell? ⟨V1, 1, none⟩ = some (.slice ya yl yc) ∧ u.cell? ⟨V1, 2, none⟩ = some (.slice za zl zc)) (first | exact r1 | exact r3 | exact r4) (first
        | (go_at_call 38
           (with_reducible refine (l20Scene _ _ _ 14 _ k5 (by omega) (by omega) (by omega)).mono ?_)
           rintro e w6 ⟨⟨sa, sl, sc⟩, ss2, pss, rfl, hn, S6⟩
           have P6 := P5.kept S6.gr (by simpa using nV1r)
           have r3 : w6.cell? ⟨V1, 0, none⟩ = some (.slice xa xl xc) ∧ w6.cell? ⟨V1, 1, none⟩ = some (.slice ya yl yc) ∧ w6.cell? ⟨V1, 2, none⟩ = some (.slice za zl zc) := ⟨P6.c0, P6.c1, P6.c2⟩
           have P7 := ((P6.far (c := w.heap.size) (o := 0) nRV (.slice xa xl xc)).far (c := w.heap.size) (o := 1) nRV (.slice ya yl yc)).far (c := w.heap.size) (o := 2) nRV (.slice za zl zc)
           have r4 := And.intro P7.c0 (And.intro P7.c1 P7.c2)
           obtain ⟨_, t0, t1, t2, u0, u1, u2⟩ := id (O5.out.kept S6.gr (by simp)))
        | fail)
      have HCAP := Lib.hid S6.cap10.1
      have H6 := Lib.hid (D5.out.grown S6.gr D5.out.size (fun k hk => by injection hk with hk; omega))
      have G7 := Lib.hid ((GSt.start (rs := [w.heap.size]) S6.rd H6.out).set3 (k := w.heap.size) (by simp) (Nat.le_refl _) (by omega) (.slice xa xl xc) (.slice ya yl yc) (.slice za zl zc))
      have kept := fun {z : Option Addr} {n : Nat} {zs : List Int} (i : IntsFrom wr.drew (w.heap.size + 1 + 1) z n zs) => (G7.out.ints10 (i.kept S6.gr (fun k hk => by injection hk with hk; omega)) hrs).ints
      have HRW := Lib.hid (HSR.out.pick S6.rd S6.gr hrlt)
      have HF := Lib.hid (And.intro (kept I5.out.1) (And.intro (kept I5.out.2.1) (And.intro (kept I5.out.2.2) (And.intro (G7.out.rows10 (s := ⟨ra, rl, rc⟩) HRW.out (fun k hk => ⟨by omega, by simp; omega⟩)) (G7.out.pss9 (s := ⟨sa, sl, sc⟩) S6 (fun k hk => ⟨by omega, by simp; omega⟩)).pss))))
      have HO := Lib.hid G7.out.old
      have hl9 : sl ≤ 9 := by have := S6.cap10.2; omega
      clear kept S6 r1 r3 r4 P5 P6 P7 k5 G7 D5 H6 I5 O5 HRW HSR
      go_wp2
      exact bodyPost_ret (v := .tuple #[av ⟨xa, xl, xc⟩ ⟨ya, yl, yc⟩ ⟨za, zl, zc⟩, .slice ra rl rc, .slice sa sl sc]) (by simp [results, Tryd.results19, go_sem, t0, t1, t2]) rfl
        ⟨⟨xa, xl, xc⟩, ⟨ya, yl, yc⟩, ⟨za, zl, zc⟩, ⟨ra, rl, rc⟩, ⟨sa, sl, sc⟩, ls, lo, hi, rows, pss, rfl, HF.out, ⟨lx, ly, lz, hr6, hl9⟩, HCAP.out, HO.out⟩
end Go.Proofs.YtcifokihellcdaaDoor
