/- What the law on valid motions draws, and its walk. -/
import Derived.Test.YtcamnkoiddighaaLb5
import Derived.Deep.RegionWith
import Derived.Deep.DrawnRows
namespace Go.Proofs.Ytcamnkoiddighaa
set_option maxRecDepth 100000
open Go.RowKit
attribute [local go_sem ↓] Go.wp_at_zero Go.wp_at_succ

/-- What lies between two draws: the reader, the list, and all that lay before. -/
structure PvSt (w : World) (M : Nat) (u : World) (v : Value) (zs : List Int) : Prop where
  rd : Rd w.heap.size M u w.heap.size
  ow : OwnI u (w.heap.size + 1) v zs
  be : Below w.heap.size w u
theorem PvSt.drew {w u : World} {M : Nat} {v : Value} {zs : List Int} (h : PvSt w M u v zs) : PvSt w M u.drew v zs := ⟨h.rd.drew, h.ow.next (below_drew' u), h.be.drew⟩
theorem PvSt.pick {w u u' : World} {M : Nat} {v : Value} {zs : List Int} (h : PvSt w M u v zs) (hr : Rd w.heap.size (M + 1) u' w.heap.size) (hg : u.grownBy u' (some w.heap.size)) : PvSt w (M + 1) u' v zs :=
  ⟨hr, h.ow.row hg (h.ow.past (by omega)), below_got h.be hg⟩
theorem PvSt.cell {w u : World} {M g sl sc j : Nat} {ys : List Int} (h : PvSt w M u (.slice (some ⟨g, 0, none⟩) sl sc) ys) (hs : sl = ys.length) (hj : j < ys.length) : u.cell? ⟨g, j, none⟩ = some (.int .i64 (ys.getD j 0)) ∧ u.frozen? ⟨g, j, none⟩ = false := by
  subst hs
  have c := World.ownsRow.cellAt h.ow j (by omega)
  rw [vals, List.getElem?_map, List.getElem?_eq_getElem hj, Option.map_some] at c
  refine ⟨?_, World.ownsRow.frozenAt h.ow j⟩
  rw [List.getD_eq_getElem?_getD, List.getElem?_eq_getElem hj]
  exact c
theorem PvSt.put {w u : World} {M g sl sc j : Nat} {ys : List Int} (h : PvSt w M u (.slice (some ⟨g, 0, none⟩) sl sc) ys) (hs : sl = ys.length) (z : Int) : OwnI (u.setCell ⟨g, j, none⟩ (.int .i64 z)) (w.heap.size + 1) (.slice (some ⟨g, 0, none⟩) sl sc) (ys.set j z) ∧ Below w.heap.size w (u.setCell ⟨g, j, none⟩ (.int .i64 z)) := by
  subst hs
  have s := World.ownsRow.stored h.ow j (.int .i64 z)
  rw [vals_set] at s
  refine ⟨?_, h.be.setCell (p := ⟨g, j, none⟩) (by have := (World.ownsRow.lt h.ow g rfl).1; show w.heap.size ≤ g; omega) _⟩
  unfold OwnI
  rw [List.length_set]
  exact s.1
/-- What a pick says between two draws. -/
def PickedV (w : World) (M : Nat) (n : Int) (v : Value) (zs : List Int) (e : Ending) (u' : World) : Prop :=
  ∃ x : Int, 0 ≤ x ∧ (1 ≤ n → x < n) ∧ e = .returned (.int .i64 x) ∧ PvSt w (M + 1) u' v zs
theorem pickV (w : World) (M : Nat) (n : Int) (v : Value) (zs : List Int) (u : World) (h : PvSt w M u v zs) (hM : M ≤ 1000000) :
    Calls Try.prog 36 #[.pointer (some ⟨w.heap.size, 0, none⟩), .int .i64 n] u (PickedV w M n v zs) :=
  (pick w.heap.size M w.heap.size n u h.rd hM).mono fun _ _ ⟨x, h0, h1, h2, h3, h4, _⟩ => ⟨x, h0, h1, h2, h.pick h3 h4⟩
/-- What drawing a list of speeds, a limit and an acceleration says. -/
def GotV (w : World) (e : Ending) (w' : World) : Prop :=
  ∃ (s : Sl) (zs : List Int) (t a : Int), 0 ≤ t ∧ t ≤ 201 ∧ 0 ≤ a ∧ a ≤ 51 ∧ e = .returned (.tuple #[.slice s.a s.len s.cap, .int .i64 t, .int .i64 a]) ∧ s.len = zs.length ∧ zs.length ≤ 5000 ∧ OwnI w' (w.heap.size + 1) (.slice s.a s.len s.cap) zs ∧ Below w.heap.size w w'
theorem rd_next {B M r : Nat} {w w' : World} (h : Rd B M w r) (hb : Below w.heap.size w w') : Rd B M w' r :=
  h.kept (row := none) ⟨hb.os, hb.tape, hb.output, hb.size, fun k hk _ => hb.block k hk⟩ (by simp) (fun k e => by cases e)
set_option maxHeartbeats 8000000 in
theorem drawProfileValid (w : World) (a : Option Addr) (len cap : Nat) (zs : List Int) (h : Bytes w a len cap zs) :
    Calls Try.prog 29 #[.slice a len cap] w (GotV w) := by
  go_enter Try.func29, Try.ntmps29
  go_wp2_with fail
  refine (open_code w a len cap zs h).mono ?_
  rintro e w1 ⟨rfl, hr1, hb1, hs1⟩
  have HS1 := Lib.hid hs1
  clear hs1
  go_wp2_with fail
  refine (pick _ _ _ _ _ hr1 (by omega)).mono ?_
  rintro e w2 ⟨d, d0, b2, rfl, hr2, hg2, hs2⟩
  have d1 := b2 (by omega)
  have HS2 := Lib.hid hs2
  clear b2 hs2
  go_wp2_with fail
  refine (l20Top _ _ _ _ _ hr2 (by omega) (by omega) (by omega)).mono ?_
  rintro e w3 ⟨t, t0, t1, rfl, hr3, hg3⟩
  go_wp2_with fail
  refine (l20Rise _ _ _ _ _ hr3 (by omega) (by omega) (by omega)).mono ?_
  rintro e w4 ⟨c, c0, c1, rfl, hr4, hg4⟩
  have HB4 := Lib.hid (below_got hb1 ((hg2.trans hg3).trans hg4))
  have HR4 := Lib.hid hr4
  clear hr1 hr2 hr3 hr4 hg2 hg3 hg4 hb1 HS1 HS2 h
  obtain ⟨t', ht'⟩ : ∃ t', max 1 (min 200 t) = t' := ⟨_, rfl⟩
  obtain ⟨c', hc'⟩ : ∃ c', max 1 (min 50 c) = c' := ⟨_, rfl⟩
  have HM := Lib.hid (show okMove d t' c' from ⟨⟨by omega, by omega⟩, ⟨by omega, by omega⟩, by omega, by omega⟩)
  have HT := Lib.hid ht'
  have HC := Lib.hid hc'
  clear ht' hc'
  have HCALL := Lib.hid (fun (x y : Int) (hx : max 1 (min 200 t) = x) (hy : max 1 (min 50 c) = y) => show Calls Try.prog 24 #[.int .i64 d, .int .i64 x, .int .i64 y] w4 (RowOf (profL t' c' 0 d) w4) by
    rw [← hx, ← hy, HT.out, HC.out]; exact specProfIn d t' c' w4 HM.out)
  have HLN := Lib.hid (prof_len t' c' 0 d HM.out.2.1.1 HM.out.2.2.1 (by omega) d0)
  have tc : t < 1 ∨ (1 ≤ t ∧ t ≤ 200) ∨ 200 < t := by omega
  have cc : c < 1 ∨ (1 ≤ c ∧ c ≤ 50) ∨ 50 < c := by omega
  rcases tc with tc | ⟨tc1, tc2⟩ | tc <;> rcases cc with cc | ⟨cc1, cc2⟩ | cc
  all_goals go_wp2_with fail
  all_goals
    refine (HCALL.out _ _ (by omega) (by omega)).mono ?_
    rintro e w5 ⟨⟨sa, sl, sc⟩, rfl, s5, O5, B5⟩
    have hsl : sl ≤ 199 := by have h1 := HLN.out; simp only at s5; omega
    have HSt := Lib.hid (show PvSt w (0 + 1 + 3 + 3) w5 (.slice sa sl sc) (profL t' c' 0 d) from ⟨rd_next HR4.out B5, O5.mono (by have h1 := HR4.out.lt; omega), below_call HB4.out B5⟩)
    have HSL := Lib.hid (show sl = (profL t' c' 0 d).length from s5)
    clear s5 O5 B5
    have HYB := Lib.hid (fun (j : Nat) (hj : j < (profL t' c' 0 d).length) => show 1 ≤ (profL t' c' 0 d).getD j 0 ∧ (profL t' c' 0 d).getD j 0 ≤ 200 by have h1 := profV_bd d t' c' j; rw [profV_in HM.out] at h1; exact h1 hj)
    generalize profL t' c' 0 d = ys at *
    by_cases hpos : 0 < sl
    · have hpi : (0 : Int) < (sl : Int) := by omega
      go_wp2_with fail
      refine (pickV w _ 2 _ ys _ HSt.out (by omega)).mono ?_
      rintro e w6 ⟨x6, p0, p1, rfl, S6⟩
      have HS6 := Lib.hid S6
      clear S6 HSt
      cases h6 : x6 == 0 with
      | false =>
        go_wp2
        go_ret3
        exact ⟨⟨sa, sl, sc⟩, ys, t, c, by omega, by omega, by omega, by omega, rfl, HSL.out, by rw [← HSL.out]; omega, HS6.out.ow, HS6.out.be⟩
      | true =>
        go_wp2_with fail
        refine (pickV w _ (sl : Int) _ ys _ HS6.out (by omega)).mono ?_
        rintro e w7 ⟨x7, p2, p3, rfl, S7⟩
        have p4 := p3 (by omega)
        obtain ⟨j, hj⟩ : ∃ j : Nat, x7 = (j : Int) := ⟨x7.toNat, by omega⟩
        subst hj
        have hjl : j < sl := by omega
        have jn : j < ys.length := by rw [← HSL.out]; exact hjl
        have j1 : (0 : Int) ≤ (j : Int) := by omega
        have j2 : (j : Int) < (sl : Int) := by omega
        obtain ⟨g, gc, hge, hg1, hg2⟩ := S7.ow.at (by omega)
        simp only [Value.slice.injEq] at hge
        obtain ⟨rfl, hge2, rfl⟩ := hge
        obtain ⟨z, hz⟩ : ∃ z, ys.getD j 0 = z := ⟨_, rfl⟩
        have zb := HYB.out j jn
        rw [hz] at zb
        obtain ⟨zb1, zb2⟩ := zb
        have HCE := Lib.hid (fun (u : World) (M : Nat) (S : PvSt w M u (.slice (some ⟨g, 0, none⟩) sl sc) ys) => hz ▸ S.cell HSL.out jn)
        have HPU := Lib.hid (fun (u : World) (M : Nat) (S : PvSt w M u (.slice (some ⟨g, 0, none⟩) sl sc) ys) (y : Int) => S.put (j := j) HSL.out y)
        have S7d := S7.drew
        obtain ⟨c7, f7⟩ := HCE.out _ _ S7d
        have HLY := Lib.hid (show ∀ y, (ys.set j y).length ≤ 5000 ∧ sl = (ys.set j y).length from fun y => by rw [List.length_set, ← HSL.out]; exact ⟨by omega, rfl⟩)
        have HB := Lib.hid (And.intro (And.intro t0 t1) (And.intro c0 c1))
        clear hz HYB HCALL HLN HM HT HC HS6 HSL jn S7 p3 hg1 hg2 hge2 HB4 HR4
        go_wp2
        go_region_with (first
          | (go_at_call 36
             refine (pickV w _ 5 _ ys _ (by repeat (first | (with_reducible assumption) | (with_reducible apply PvSt.drew))) (by omega)).mono ?_
             rintro e w8 ⟨x8, e0, e1, rfl, S8⟩
             have e2 := e1 (by omega)
             obtain ⟨c8, f8⟩ := HCE.out _ _ S8
             have o1 : IntKind.i64.wrap (z + x8) = z + x8 := IntWalk.i64_in _ (by omega)
             have o2 : IntKind.i64.wrap (z + x8 - 2) = z + x8 - 2 := IntWalk.i64_in _ (by omega)
             have HF := Lib.hid (HPU.out _ _ S8 (z + x8 - 2))
             clear e1)
          | fail)
        all_goals
          go_wp2
          go_ret3
          exact ⟨⟨some ⟨g, 0, none⟩, sl, sc⟩, ys.set j (z + x8 - 2), t, c, HB.out.1.1, HB.out.1.2, HB.out.2.1, HB.out.2.2, rfl, (HLY.out _).2, (HLY.out _).1, HF.out.1, HF.out.2⟩
    · obtain rfl : sl = 0 := by omega
      go_wp2
      go_ret3
      exact ⟨⟨sa, 0, sc⟩, ys, t, c, by omega, by omega, by omega, by omega, rfl, HSL.out, by rw [← HSL.out]; omega, HSt.out.ow, HSt.out.be⟩
end Go.Proofs.Ytcamnkoiddighaa
