/- The walk of the law on cells' angles. -/
import Derived.Test.YtkogoflcacameaaDy11
import Derived.Test.YtkogoflcacameaaGs11
import Derived.Test.YtkogoflcacameaaZbChn
import Derived.Deep.RegionHeld3
namespace Go.Proofs.Ytkogoflcacameaa
set_option maxRecDepth 100000
open Go.RowKit
attribute [local go_sem ↓] Go.wp_at_zero Go.wp_at_succ
theorem keepY {w u : World} {V c bx ox b_y oy : Nat} {x y z p q r s : Value} (h : Below w.heap.size w u) (A : AtA w V x y z) (hc : c < w.heap.size) (h0 : w.cell? ⟨c, 0, none⟩ = some p) (h1 : w.cell? ⟨c, 1, none⟩ = some q) (hx : bx < w.heap.size) (h2 : w.cell? ⟨bx, ox, none⟩ = some r) (hy : b_y < w.heap.size) (h3 : w.cell? ⟨b_y, oy, none⟩ = some s) :
    u.cell? ⟨V, 0, none⟩ = some x ∧ u.cell? ⟨V, 1, none⟩ = some y ∧ u.cell? ⟨V, 2, none⟩ = some z ∧ u.cell? ⟨c, 0, none⟩ = some p ∧ u.cell? ⟨c, 1, none⟩ = some q ∧ u.cell? ⟨bx, ox, none⟩ = some r ∧ u.cell? ⟨b_y, oy, none⟩ = some s :=
  ⟨(A.next h).c0, (A.next h).c1, (A.next h).c2, (h.cell (p := ⟨c, 0, none⟩) hc).trans h0, (h.cell (p := ⟨c, 1, none⟩) hc).trans h1, (h.cell (p := ⟨bx, ox, none⟩) hx).trans h2, (h.cell (p := ⟨b_y, oy, none⟩) hy).trans h3⟩
set_option maxHeartbeats 8000000 in
theorem walkFnCellJoints (w : World) (a : Option Addr) (len cap : Nat) (zs : List Int) (h : Bytes w a len cap zs) :
    Calls Try.prog 4 #[.slice a len cap] w fun e w' => e = .returned (.bool true) ∧ Below w.heap.size w w' := by
  have hle := h.len_le
  obtain ⟨hl, hm⟩ := hle
  unfold maxLen at hm
  by_cases hbig : 1048576 < len
  · go_enter Try.func4, Try.ntmps4
    go_wp2
    go_ret
    exact ⟨rfl, Below.refl _ _⟩
  · go_enter Try.func4, Try.ntmps4
    go_wp2_with fail
    refine (drawCellJoints w a len cap zs h).mono ?_
    rintro e w1 ⟨⟨xa, xl, xc⟩, ⟨ya, yl, yc⟩, ⟨za, zl, zc⟩, ls, lo, hi, s, ⟨cx, cy⟩, rfl, ⟨i1, i2, i3⟩, ⟨lx, ly, lz⟩, ⟨s0, s1⟩, hc, hB⟩
    simp only at i1 i2 i3 lx ly lz hc
    have B2 := below_box2 w1 (.cells #[.slice xa xl xc, .slice ya yl yc, .slice za zl zc] 25) (.cells #[.int .i64 cx, .int .i64 cy] 33)
    have P2 := (AtA.box w1 (.slice xa xl xc) (.slice ya yl yc) (.slice za zl zc) 25).next (below_box _ (.cells #[.int .i64 cx, .int .i64 cy] 33))
    have Q2 := AtP.box (w1.alloc (.cells #[.slice xa xl xc, .slice ya yl yc, .slice za zl zc] 25)) cx cy 33
    rw [show (w1.alloc (.cells #[.slice xa xl xc, .slice ya yl yc, .slice za zl zc] 25)).heap.size = w1.heap.size + 1 by simp] at Q2
    have HB2 := Lib.hid (below_call hB B2)
    have I2 := Lib.hid (And.intro (i1.next B2) (And.intro (i2.next B2) (i3.next B2)))
    have HI := Lib.hid (fun (w : World) (c : C2) (I : IntsAt w xa xl ls ∧ IntsAt w ya yl lo ∧ IntsAt w za zl hi) => implCellJoints ⟨xa, xl, xc⟩ ⟨ya, yl, yc⟩ ⟨za, zl, zc⟩ ls lo hi s c w I.1 I.2.1 I.2.2 (by show xl ≤ _; omega) (by show yl ≤ _; omega) (by show zl ≤ _; omega))
    have HS := Lib.hid (fun (w : World) (I : IntsAt w xa xl ls ∧ IntsAt w ya yl lo ∧ IntsAt w za zl hi) => specCellJoints ⟨xa, xl, xc⟩ ⟨ya, yl, yc⟩ ⟨za, zl, zc⟩ ls lo hi s (cx, cy) w I.1 I.2.1 I.2.2 (by show xl ≤ _; omega) (by show yl ≤ _; omega) (by show zl ≤ _; omega) (by show _ ≤ cx ∧ cx ≤ _; omega) (by show _ ≤ cy ∧ cy ≤ _; omega))
    have HJ := Lib.hid (fun (w : World) (j : Sl) (js : List Int) (I : IntsAt w xa xl ls ∧ IntsAt w ya yl lo ∧ IntsAt w za zl hi) (hj : IntsAt w j.a j.len js) (hjl : j.len ≤ 9223372036854775807) => implJointsValid ⟨xa, xl, xc⟩ ⟨ya, yl, yc⟩ ⟨za, zl, zc⟩ j ls lo hi js w I.1 I.2.1 I.2.2 hj (by show xl ≤ _; omega) (by show yl ≤ _; omega) (by show zl ≤ _; omega) hjl)
    obtain ⟨V, hV⟩ : ∃ V, w1.heap.size = V := ⟨_, rfl⟩
    rw [hV] at P2 Q2
    clear i1 i2 i3 hB B2 h
    go_upto_region 4 with fail
    clear hV
    generalize (w1.alloc (.cells #[.slice xa xl xc, .slice ya yl yc, .slice za zl zc] 25)).alloc (.cells #[.int .i64 cx, .int .i64 cy] 33) = w2 at *
    obtain ⟨_, c0, c1, c2, _, _, _⟩ := id P2
    obtain ⟨_, c3, c4⟩ := id Q2
    have HI2 := Lib.hid (HI.out w2 (cx, cy) I2.out)
    go_wp2_with fail
    refine HI2.out.mono ?_
    rintro e w3 ⟨⟨ja, jl, jc⟩, rfl, hjl, O3, B3⟩
    simp only at hjl O3
    have P3 := P2.next B3
    have Q3 := Q2.next B3
    have I3 := Lib.hid (And.intro (I2.out.1.next B3) (And.intro (I2.out.2.1.next B3) (I2.out.2.2.next B3)))
    have HB3 := Lib.hid (below_call HB2.out B3)
    have HS3 := Lib.hid (HS.out w3 I3.out)
    have HO3 := Lib.hid O3.ints
    have HJL := Lib.hid hjl
    clear c0 c1 c2 c3 c4 P2 Q2 I2 HB2 HI2 HS B3 O3 hjl
    obtain ⟨_, c0, c1, c2, _, _, _⟩ := id P3
    obtain ⟨_, c3, c4⟩ := id Q3
    go_wp2_with fail
    refine HS3.out.mono ?_
    rintro e w4 ⟨⟨ka, kl, kc⟩, rfl, hkl, O4, B4⟩
    simp only at hkl O4
    have P4 := P3.next B4
    have Q4 := Q3.next B4
    have I4 := Lib.hid (And.intro (I3.out.1.next B4) (And.intro (I3.out.2.1.next B4) (I3.out.2.2.next B4)))
    have HB4 := Lib.hid (below_call HB3.out B4)
    have HO4 := Lib.hid (HO3.out.next B4)
    have hj2 : jl ≤ 2 := by
      have := HJL.out
      by_cases q : okCell ls lo hi s (cx, cy)
      · rw [jointsV_in q] at this; rw [this]; exact Nat.le_refl _
      · rw [jointsV_out q] at this; rw [this]; exact Nat.zero_le _
    have HSI := Lib.hid (sameInts ja ka jl kl jc kc (jointsV ls lo hi s (cx, cy)) w4 HO4.out O4.ints (by omega))
    clear c0 c1 c2 c3 c4 P3 Q3 I3 HB3 HS3 HO3 B4 O4 hkl
    go_wp2_with fail
    refine HSI.out.mono ?_
    rintro e w5 ⟨rfl, B5⟩
    have P5 := P4.next B5
    have Q5 := Q4.next B5
    have I5 := And.intro (I4.out.1.next B5) (And.intro (I4.out.2.1.next B5) (I4.out.2.2.next B5))
    have HB5 := Lib.hid (below_call HB4.out B5)
    have O5 := HO4.out.next B5
    clear P4 Q4 I4 HB4 HSI HO4 B5
    by_cases hk : okCell ls lo hi s (cx, cy)
    · have hjl2 : jl = 2 := by have := HJL.out; rw [jointsV_in hk] at this; exact this
      rw [jointsV_in hk] at O5
      subst hjl2
      have hz := cell_zero hk.1
      have hok := cell_okJoints hk
      have hlo2 : lo.length = 2 := by rw [hk.1.1.2.2.1, hk.1.2.1]
      have hyl : yl = 2 := by rw [I5.2.1.1, hlo2]
      subst hyl
      obtain ⟨bx, ox, rfl, ltx, cxx⟩ := O5.some (by omega)
      obtain ⟨b_y, oy, rfl, lty, cyy⟩ := I5.2.1.some (by omega)
      have d0 : w5.cell? ⟨bx, ox, none⟩ = some (.int .i64 (lo.getD 0 0 + cx * s)) := cxx 0 (by omega)
      have d1 : w5.cell? ⟨b_y, oy, none⟩ = some (.int .i64 (lo.getD 0 0)) := cyy 0 (by omega)
      have hsp := arm_span hk.1.1 (k := 0) (by have := hk.1.2.1; omega)
      have hj0 := hok.2.2 0 (by show 0 < 2; omega)
      change lo.getD 0 0 ≤ lo.getD 0 0 + cx * s ∧ lo.getD 0 0 + cx * s ≤ hi.getD 0 0 at hj0
      obtain ⟨m, hm'⟩ : ∃ m, cx * s = m := ⟨_, rfl⟩
      have o1 : IntKind.i64.wrap (cx * s) = m := by rw [hm']; exact IntWalk.i64_in _ (by omega)
      rw [hm'] at d0 hj0
      generalize hl0 : lo.getD 0 0 = l0 at d0 d1 hj0 hsp
      have o2 : IntKind.i64.wrap (l0 + m) = l0 + m := IntWalk.i64_in _ (by omega)
      have e1 : (l0 + m == l0 + m) = true := by simp
      have g0 : Below w5.heap.size w5 w5 := Below.refl _ _
      have HC := Lib.hid (fun (u : World) (hu : Below w5.heap.size w5 u) => show Calls Try.prog 14 #[av ⟨xa, xl, xc⟩ ⟨some ⟨b_y, oy, none⟩, 2, yc⟩ ⟨za, zl, zc⟩, .int .i64 s, pt 0 0] u fun e u' => ∃ t : Sl, e = .returned (.slice t.a t.len t.cap) ∧ Hid (IntsAt u' t.a t.len lo) ∧ Below w5.heap.size w5 u' from
        (HI.out u (0, 0) ⟨I5.1.next hu, I5.2.1.next hu, I5.2.2.next hu⟩).mono fun e u' ⟨t, he, hl, ho, hb⟩ => ⟨t, he, Lib.hid (by
          have := ho.ints
          rwa [jointsV_in hz.1, hz.2] at this), below_call hu hb⟩)
      have HV := Lib.hid (fun (u : World) (hu : Below w5.heap.size w5 u) => show Calls Try.prog 17 #[av ⟨xa, xl, xc⟩ ⟨some ⟨b_y, oy, none⟩, 2, yc⟩ ⟨za, zl, zc⟩, .slice (some ⟨bx, ox, none⟩) 2 jc] u fun e u' => e = .returned (.bool true) ∧ Below w5.heap.size w5 u' from
        (HJ.out u ⟨some ⟨bx, ox, none⟩, 2, jc⟩ _ ⟨I5.1.next hu, I5.2.1.next hu, I5.2.2.next hu⟩ (O5.next hu) (by show 2 ≤ _; omega)).mono fun e u' ⟨he, hb⟩ => ⟨by rw [he, decide_eq_true hok], below_call hu hb⟩)
      have HE := Lib.hid (fun (u : World) (hu : Below w5.heap.size w5 u) (ta : Option Addr) (tl tc : Nat) (ht : Hid (IntsAt u ta tl lo)) => show Calls Try.prog 15 #[.slice ta tl tc, .slice (some ⟨b_y, oy, none⟩) 2 yc] u fun e u' => e = .returned (.bool true) ∧ Below w5.heap.size w5 u' from
        (sameInts ta (some ⟨b_y, oy, none⟩) tl 2 tc yc lo u ht.out (I5.2.1.next hu) (by rw [ht.out.1, hlo2]; omega)).mono fun e u' ⟨he, hb⟩ => ⟨he, below_call hu hb⟩)
      have KP := P5
      have KQ0 := Q5.c0
      have KQ1 := Q5.c1
      have KQ := Q5.lt
      clear hk hz hok hlo2 cxx cyy hsp hj0 hm' hl0 HI HJ I5 O5 P5 Q5 HJL
      go_wp2_with fail
      go_region_held3 (fun u => u.cell? ⟨V, 0, none⟩ = some (.slice xa xl xc) ∧ u.cell? ⟨V, 1, none⟩ = some (.slice (some ⟨b_y, oy, none⟩) 2 yc) ∧ u.cell? ⟨V, 2, none⟩ = some (.slice za zl zc) ∧ u.cell? ⟨V + 1, 0, none⟩ = some (.int .i64 cx) ∧ u.cell? ⟨V + 1, 1, none⟩ = some (.int .i64 cy) ∧ u.cell? ⟨bx, ox, none⟩ = some (.int .i64 (l0 + m)) ∧ u.cell? ⟨b_y, oy, none⟩ = some (.int .i64 l0)) (exact keepY (by repeat (first | (with_reducible assumption) | (with_reducible apply Below.drew))) KP KQ KQ0 KQ1 ltx d0 lty d1) (first
        | (go_at_call 17
           (with_reducible refine (HV.out _ (by repeat (first | (with_reducible assumption) | (with_reducible apply Below.drew)))).mono ?_)
           rintro e w6 ⟨rfl, K6⟩)
        | (go_at_call 14
           (with_reducible refine (HC.out _ (by repeat (first | (with_reducible assumption) | (with_reducible apply Below.drew)))).mono ?_)
           rintro e w7 ⟨⟨ta, tl, tc⟩, rfl, HT7, K7⟩)
        | (go_at_call 15
           (with_reducible refine (HE.out _ (by repeat (first | (with_reducible assumption) | (with_reducible apply Below.drew))) _ _ _ HT7).mono ?_)
           rintro e w8 ⟨rfl, K8⟩))
      go_wp2
      go_ret
      exact ⟨rfl, below_call HB5.out K8⟩
    · have hj0 : jl = 0 := by have := HJL.out; rw [jointsV_out hk] at this; exact this
      subst hj0
      clear hk P5 Q5 I5 O5
      go_wp2_with fail
      refine (alive _).mono ?_
      rintro e w' ⟨rfl, rfl⟩
      go_wp2
      go_ret
      exact ⟨rfl, HB5.out⟩
end Go.Proofs.Ytkogoflcacameaa
