/- The walk of the law FnTipOf: it returns true at every code. -/
import Derived.Test.YtolkihibjabmhaaDoorDraw3t
import Derived.Test.YtolkihibjabmhaaDoorWArmPoints
import Derived.Test.YtolkihibjabmhaaDoorKept
import Derived.Outline
import Derived.Deep.RegionWith
import Derived.Deep.DeepCutAuto
namespace Go.Proofs.YtolkihibjabmhaaDoor
set_option maxRecDepth 100000
open Go.RowKit
attribute [local go_sem ↓] Go.wp_at_zero Go.wp_at_succ
theorem specTipOfR (x y z j : Sl) (ls lo hi js : List Int) (w0 w : World) (hw : Below w0.heap.size w0 w) (hx : IntsAt w0 x.a x.len ls) (hy : IntsAt w0 y.a y.len lo) (hz : IntsAt w0 z.a z.len hi) (hj : IntsAt w0 j.a j.len js) (bx : x.len ≤ 9223372036854775807) (b_y : y.len ≤ 9223372036854775807) (bz : z.len ≤ 9223372036854775807) (bj : j.len ≤ 9223372036854775807) :
    Calls Tryd.prog 34 #[av x y z, .slice j.a j.len j.cap] w fun e w' => e = .returned (pt (tipX ls lo hi js) (tipY ls lo hi js)) ∧ Below w0.heap.size w0 w' :=
  (specTipOf x y z j ls lo hi js w (hx.next hw) (hy.next hw) (hz.next hw) (hj.next hw) bx b_y bz bj).mono fun _ _ ⟨he, hb⟩ => ⟨he, below_call hw hb⟩
theorem implTipOfR (x y z j : Sl) (ls lo hi js : List Int) (w0 w : World) (hw : Below w0.heap.size w0 w) (ht : TabAt w0) (hx : IntsAt w0 x.a x.len ls) (hy : IntsAt w0 y.a y.len lo) (hz : IntsAt w0 z.a z.len hi) (hj : IntsAt w0 j.a j.len js) (bx : x.len ≤ 9223372036854775807) (b_y : y.len ≤ 9223372036854775807) (bz : z.len ≤ 9223372036854775807) (bj : j.len ≤ 9223372036854775807) :
    Calls Tryd.prog 33 #[av x y z, .slice j.a j.len j.cap] w fun e w' => e = .returned (pt (tipX ls lo hi js) (tipY ls lo hi js)) ∧ Below w0.heap.size w0 w' :=
  (implTipOf x y z j ls lo hi js w (ht.below hw ht.lt) (hx.next hw) (hy.next hw) (hz.next hw) (hj.next hw) bx b_y bz bj).mono fun _ _ ⟨he, hb⟩ => ⟨he, below_call hw hb⟩
theorem implJointsValidR (x y z j : Sl) (ls lo hi js : List Int) (w0 w : World) (hw : Below w0.heap.size w0 w) (hx : IntsAt w0 x.a x.len ls) (hy : IntsAt w0 y.a y.len lo) (hz : IntsAt w0 z.a z.len hi) (hj : IntsAt w0 j.a j.len js) (bx : x.len ≤ 9223372036854775807) (b_y : y.len ≤ 9223372036854775807) (bz : z.len ≤ 9223372036854775807) (bj : j.len ≤ 9223372036854775807) :
    Calls Tryd.prog 36 #[av x y z, .slice j.a j.len j.cap] w fun e w' => e = .returned (.bool (decide (okJoints ls lo hi js))) ∧ Below w0.heap.size w0 w' :=
  (implJointsValid x y z j ls lo hi js w (hx.next hw) (hy.next hw) (hz.next hw) (hj.next hw) bx b_y bz bj).mono fun _ _ ⟨he, hb⟩ => ⟨he, below_call hw hb⟩
theorem keepT {w u : World} {b p : Nat} {x y z : Value} {s t : Int} (h : Below w.heap.size w u) (A : AtA w b x y z) (B : AtP w p s t) :
    u.cell? ⟨p, 0, none⟩ = some (.int .i64 s) ∧ u.cell? ⟨p, 1, none⟩ = some (.int .i64 t) ∧ u.cell? ⟨b, 0, none⟩ = some x ∧ u.cell? ⟨b, 1, none⟩ = some y ∧ u.cell? ⟨b, 2, none⟩ = some z :=
  ⟨(B.next h).c0, (B.next h).c1, (A.next h).c0, (A.next h).c1, (A.next h).c2⟩
theorem keepT4 {w u : World} {b p g i : Nat} {x y z q r : Value} {s t : Int} (h : Below w.heap.size w u) (A : AtA w b x y z) (B : AtP w p s t) (hg : g < w.heap.size) (h0 : w.cell? ⟨g, i, none⟩ = some q) (h1 : w.cell? ⟨g, i + 1, none⟩ = some r) :
    (u.cell? ⟨p, 0, none⟩ = some (.int .i64 s) ∧ u.cell? ⟨p, 1, none⟩ = some (.int .i64 t) ∧ u.cell? ⟨b, 0, none⟩ = some x ∧ u.cell? ⟨b, 1, none⟩ = some y ∧ u.cell? ⟨b, 2, none⟩ = some z) ∧ (u.cell? ⟨g, i, none⟩ = some q ∧ u.cell? ⟨g, i + 1, none⟩ = some r) :=
  ⟨keepT h A B, keep2 h hg h0 h1⟩
/-- The tip is within the reach. -/
theorem tip_far {ls lo hi js : List Int} (h : okJoints ls lo hi js) : 0 ≤ farV ls ∧ farV ls ≤ 2000 ∧ sqV 0 0 (tipX ls lo hi js) (tipY ls lo hi js) ≤ (farV ls + (ls.length : Int)) * (farV ls + (ls.length : Int)) := by
  have b := pt_bd ls js (len_bd h.1) ls.length (Nat.le_refl _)
  have f := pt_far ls js (len_bd h.1) ls.length (Nat.le_refl _)
  have g := sumN_bd ls (len_bd h.1) ls.length (Nat.le_refl _)
  have n2 := h.1.2.1
  rw [(tip_in h).1, (tip_in h).2, sqV_in ⟨⟨by omega, by omega, by omega, by omega⟩, ⟨by omega, by omega, by omega, by omega⟩⟩]
  unfold farV
  refine ⟨by omega, by omega, ?_⟩
  rw [show ptX ls js ls.length - 0 = ptX ls js ls.length by omega, show ptY ls js ls.length - 0 = ptY ls js ls.length by omega]
  exact f
theorem tip_stretched {ls lo hi : List Int} {n : Nat} (h : okJoints ls lo hi (List.replicate n 0)) : tipX ls lo hi (List.replicate n 0) = farV ls ∧ tipY ls lo hi (List.replicate n 0) = 0 := by
  rw [(tip_in h).1, (tip_in h).2]
  exact pt_zero ls (len_bd h.1) n ls.length (Nat.le_refl _)
set_option maxHeartbeats 16000000 in
set_option maxRecDepth 100000 in
theorem walkFnTipOf (w : World) (ht : TabAt w) (a : Option Addr) (len cap : Nat) (zs : List Int) (h : Bytes w a len cap zs) :
    Calls Tryd.prog 5 #[.slice a len cap] w fun e w' => e = .returned (.bool true) ∧ Below w.heap.size w w' := by
  obtain ⟨i0, hi0, hz0, hz1, hz2⟩ := info_parts infoInt
  have hle := h.len_le
  obtain ⟨hl, hm⟩ := hle
  unfold maxLen at hm
  have HT := Lib.hid ht
  clear ht
  by_cases hlen : len ≤ 1048576
  · go_enter Tryd.func5, Tryd.ntmps5
    go_wp2_with fail
    refine (drawTipOf w a len cap zs h).mono ?_
    rintro e w1 ⟨⟨xa, xl, xc⟩, ⟨ya, yl, yc⟩, ⟨za, zl, zc⟩, ⟨sa, sl, sc⟩, ls, lo, hi, js, rfl, i1, i2, i3, i4, lx, ly, lz, ls4, kz, B1⟩
    simp only at i1 i2 i3 i4 lx ly lz ls4 kz
    have P := AtA.box w1 (.slice xa xl xc) (.slice ya yl yc) (.slice za zl zc) 25
    have Bx := below_box w1 (.cells #[.slice xa xl xc, .slice ya yl yc, .slice za zl zc] 25)
    replace i1 := i1.next Bx
    replace i2 := i2.next Bx
    replace i3 := i3.next Bx
    replace i4 := i4.next Bx
    have HB := Lib.hid (below_call B1 Bx)
    clear B1 Bx h
    by_cases hv : okJoints ls lo hi js
    · obtain ⟨tx, htx⟩ : ∃ tx, tipX ls lo hi js = tx := ⟨_, rfl⟩
      obtain ⟨ty, hty⟩ : ∃ ty, tipY ls lo hi js = ty := ⟨_, rfl⟩
      have HX := Lib.hid htx
      have HY := Lib.hid hty
      clear htx hty
      go_wp2_with fail
      refine (implTipOf ⟨xa, xl, xc⟩ ⟨ya, yl, yc⟩ ⟨za, zl, zc⟩ ⟨sa, sl, sc⟩ ls lo hi js _ (HT.out.below HB.out HT.out.lt) i1 i2 i3 i4 (by simp only; omega) (by simp only; omega) (by simp only; omega) (by simp only; omega)).mono ?_
      generalize w1.alloc (.cells #[.slice xa xl xc, .slice ya yl yc, .slice za zl zc] 25) = w2 at *
      rw [HX.out, HY.out]
      rintro e w3 ⟨rfl, B3⟩
      replace i1 := i1.next B3
      replace i2 := i2.next B3
      replace i3 := i3.next B3
      replace i4 := i4.next B3
      replace P := P.next B3
      replace HB := Lib.hid (below_call HB.out B3)
      clear B3
      have Q := AtP.box w3 tx ty 35
      have Bq := below_box w3 (.cells #[.int .i64 tx, .int .i64 ty] 35)
      replace i1 := i1.next Bq
      replace i2 := i2.next Bq
      replace i3 := i3.next Bq
      replace i4 := i4.next Bq
      replace P := P.next Bq
      replace HB := Lib.hid (below_call HB.out Bq)
      clear Bq
      have e0 : (tx == tx) = true := by simp
      have e1 : (ty == ty) = true := by simp
      go_wp2
      generalize w3.alloc (.cells #[.int .i64 tx, .int .i64 ty] 35) = w4 at *
      have gg : Below w4.heap.size w4 w4 := Below.refl _ _
      have HSP := Lib.hid (fun (u : World) (hu : Below w4.heap.size w4 u) => specTipOfR ⟨xa, xl, xc⟩ ⟨ya, yl, yc⟩ ⟨za, zl, zc⟩ ⟨sa, sl, sc⟩ ls lo hi js w4 u hu i1 i2 i3 i4 (by simp only; omega) (by simp only; omega) (by simp only; omega) (by simp only; omega))
      rw [HX.out, HY.out] at HSP
      go_region_held3 (fun u => u.cell? ⟨w3.heap.size, 0, none⟩ = some (.int .i64 tx) ∧ u.cell? ⟨w3.heap.size, 1, none⟩ = some (.int .i64 ty) ∧ u.cell? ⟨w1.heap.size, 0, none⟩ = some (.slice xa xl xc) ∧ u.cell? ⟨w1.heap.size, 1, none⟩ = some (.slice ya yl yc) ∧ u.cell? ⟨w1.heap.size, 2, none⟩ = some (.slice za zl zc)) (exact keepT (by repeat (first | (with_reducible assumption) | (with_reducible apply Below.drew))) P Q) (first
        | (go_at_call 34
           refine (HSP.out _ (by repeat (first | (with_reducible assumption) | (with_reducible apply Below.drew)))).mono ?_
           rintro e w5 ⟨rfl, B5⟩)
        | fail)
      replace i1 := i1.next B5
      replace i2 := i2.next B5
      replace i3 := i3.next B5
      replace i4 := i4.next B5
      replace P := P.next B5
      replace Q := Q.next B5
      replace HB := Lib.hid (below_call HB.out B5)
      clear B5 gg HSP
      obtain ⟨_, p1, p2, p3, _, _, _⟩ := id P
      go_wp2_with fail
      refine (implArmPoints ⟨xa, xl, xc⟩ ⟨ya, yl, yc⟩ ⟨za, zl, zc⟩ ⟨sa, sl, sc⟩ ls lo hi js _ (HT.out.below HB.out HT.out.lt) i1 i2 i3 i4 (by simp only; omega) (by simp only; omega) (by simp only; omega) (by simp only; omega)).mono ?_
      rintro e w6 ⟨⟨ca, cl, cc⟩, rfl, O6, e6, B6⟩
      simp only at O6 e6
      replace e6 := Lib.hid e6
      replace i1 := i1.next B6
      replace i2 := i2.next B6
      replace i3 := i3.next B6
      replace i4 := i4.next B6
      replace P := P.next B6
      replace Q := Q.next B6
      replace HB := Lib.hid (below_call HB.out B6)
      clear B6 p1 p2 p3
      have n1 := hv.1.1
      have n2 := hv.1.2.1
      rw [pointsV_in hv] at O6 e6
      rw [ptsL_len] at e6
      have HTA := Lib.hid (tip_at hv)
      obtain ⟨b5, rfl, lt5, c5⟩ := O6.ints.some (by rw [e6.out]; omega)
      obtain ⟨c50, c51⟩ := c5 ls.length (by rw [e6.out]; omega)
      rw [HTA.out, HX.out, HY.out] at c50 c51
      simp only at c50 c51
      obtain rfl : cl = ls.length + 1 := e6.out
      obtain ⟨f1, f2, f3⟩ := tip_far hv
      rw [HX.out, HY.out] at f3
      have HF := Lib.hid (show reachF ls lo hi = farV ls by unfold reachF; rw [if_pos hv.1])
      have HZ := Lib.hid (fun n (h : okJoints ls lo hi (List.replicate n 0)) => tip_stretched h)
      have E4 := Lib.hid (show sl = ls.length by rw [i4.1]; exact hv.2.1)
      obtain ⟨_, p1, p2, p3, _, _, _⟩ := id P
      have e2 : (((ls.length + 1 : Nat) : Int) == 0) = false := by simp; omega
      have e3 : ((ls.length : Int) + 1 == 0) = false := by simp; omega
      go_wp2_with fail
      refine (implReachOf' ⟨xa, xl, xc⟩ ⟨ya, yl, yc⟩ ⟨za, zl, zc⟩ ls lo hi _ i1 i2 i3 (by simp only; omega) (by simp only; omega) (by simp only; omega)).mono ?_
      rw [HF.out]
      rintro e w7 ⟨rfl, B7⟩
      replace i1 := i1.next B7
      replace i2 := i2.next B7
      replace i3 := i3.next B7
      replace i4 := i4.next B7
      replace P := P.next B7
      replace Q := Q.next B7
      replace HB := Lib.hid (below_call HB.out B7)
      replace c50 := (B7.cell (p := ⟨b5, ls.length * 2, none⟩) lt5).trans c50
      replace c51 := (B7.cell (p := ⟨b5, ls.length * 2 + 1, none⟩) lt5).trans c51
      replace lt5 := Nat.lt_of_lt_of_le lt5 B7.size
      clear B7 p1 p2 p3 O6 c5 e6 HTA HF
      have HMZ := Lib.hid ((made_zero sl fun _ => 0).trans (part_zero _ _))
      go_upto_region 12 with (at_make; refine wpList_make_full _ rfl _ _ 23 rfl w7.heap.size 3 i0 (.int .i64 0) 1 Tryd.underlying23 hi0 hz0 hz1 .i64 .i64 _ _ sl rfl rfl rfl rfl (by rw [hz2]; omega) (by unfold maxLen; omega) (Nat.le_refl _) ?_; intro w8 own8 grow8)
      have B8 : Below w7.heap.size w7 w8 := (Below.refl _ _).grown grow8 (Nat.le_refl _) (fun k hk => by cases hk)
      have O8 : OwnI w8 w7.heap.size (.slice (some ⟨w7.heap.size, 0, none⟩) sl sl) (List.replicate sl 0) := by
        unfold OwnI
        rw [List.length_replicate, ← HMZ.out]
        exact own8
      replace i1 := i1.next B8
      replace i2 := i2.next B8
      replace i3 := i3.next B8
      replace i4 := i4.next B8
      replace P := P.next B8
      replace Q := Q.next B8
      replace HB := Lib.hid (below_call HB.out B8)
      replace c50 := (B8.cell (p := ⟨b5, ls.length * 2, none⟩) lt5).trans c50
      replace c51 := (B8.cell (p := ⟨b5, ls.length * 2 + 1, none⟩) lt5).trans c51
      replace lt5 := Nat.lt_of_lt_of_le lt5 B8.size
      have i7 := O8.ints
      have HTB := Lib.hid (HT.out.below HB.out HT.out.lt)
      clear own8 grow8 B8 O8 HMZ hv
      obtain rfl : ls.length = sl := E4.out.symm
      generalize ls.length = n at *
      generalize farV ls = fr at *
      generalize hdv : sqV 0 0 tx ty = dv at *
      have HDV := Lib.hid hdv
      clear hdv E4
      have m1 := mul_bd (A := 2004) (B := 2004) (show (-2004 : Int) ≤ fr + (n : Int) by omega) (show fr + (n : Int) ≤ 2004 by omega) (show (-2004 : Int) ≤ fr + (n : Int) by omega) (show fr + (n : Int) ≤ 2004 by omega)
      have f4 : decide (dv ≤ (fr + (n : Int)) * (fr + (n : Int))) = true := decide_eq_true f3
      have j1 : (0 : Int) ≤ (n : Int) := by omega
      have j2 : (n : Int) < ((n + 1 : Nat) : Int) := by omega
      have j3 : (n : Int) < (n : Int) + 1 := by omega
      have o1 : IntKind.i64.wrap (fr + (n : Int)) = fr + (n : Int) := IntWalk.i64_in _ (by omega)
      have o2 : IntKind.i64.wrap ((fr + (n : Int)) * (fr + (n : Int))) = (fr + (n : Int)) * (fr + (n : Int)) := IntWalk.i64_in _ (by omega)
      have o3 : IntKind.i64.wrap ((n : Int) + 1 - 1) = (n : Int) := by rw [show (n : Int) + 1 - 1 = (n : Int) by omega]; exact IntWalk.i64_in _ (by omega)
      have o4 : IntKind.i64.wrap (n : Int) = (n : Int) := IntWalk.i64_in _ (by omega)
      have e7 : (fr == fr) = true := by simp
      have gg : Below w8.heap.size w8 w8 := Below.refl _ _
      have HSQ := Lib.hid (fun (n : Kept w8) => keptCall (implSquaredDistance 0 0 tx ty n.u))
      rw [HDV.out] at HSQ
      have HJV := Lib.hid (fun (k : Kept w8) => keptCall (implJointsValid ⟨xa, xl, xc⟩ ⟨ya, yl, yc⟩ ⟨za, zl, zc⟩ ⟨some ⟨w7.heap.size, 0, none⟩, n, n⟩ ls lo hi (List.replicate n 0) k.u (i1.next k.b) (i2.next k.b) (i3.next k.b) (i7.next k.b) (by simp only; omega) (by simp only; omega) (by simp only; omega) (by simp only; omega)))
      have HTP := Lib.hid (fun (k : Kept w8) => keptCall (implTipOf ⟨xa, xl, xc⟩ ⟨ya, yl, yc⟩ ⟨za, zl, zc⟩ ⟨some ⟨w7.heap.size, 0, none⟩, n, n⟩ ls lo hi (List.replicate n 0) k.u (HTB.out.below k.b HTB.out.lt) (i1.next k.b) (i2.next k.b) (i3.next k.b) (i7.next k.b) (by simp only; omega) (by simp only; omega) (by simp only; omega) (by simp only; omega)))
      obtain ⟨a0, a1, a2⟩ := P.kepts
      obtain ⟨q0, q1⟩ := Q.kepts
      have c0 := keptCell lt5 c50
      have c1 := keptCell lt5 c51
      clear i1 i2 i3 i4 i7 P Q c50 c51 gg HTB
      by_cases hz : okJoints ls lo hi (List.replicate n 0)
      · rw [(HZ.out n hz).1, (HZ.out n hz).2] at HTP
        rw [decide_eq_true hz] at HJV
        refine wp_region_kept (by kernel_rfl) (by kernel_rfl) ?_
        repeat (go_big_quiet_step ((first
          | (go_at_call 21; exact HSQ.out _)
          | (go_at_call 36; exact HJV.out _)
          | (go_at_call 33; exact HTP.out _))))
        refine wpQuiet_nil ?_
        rintro _ ⟨⟨wq, Bq⟩, rfl⟩
        have HE := Lib.hid (below_call HB.out Bq)
        go_wp2
        go_ret
        exact ⟨rfl, HE.out⟩
      · rw [decide_eq_false hz] at HJV
        refine wp_region_kept (by kernel_rfl) (by kernel_rfl) ?_
        repeat (go_big_quiet_step ((first
          | (go_at_call 21; exact HSQ.out _)
          | (go_at_call 36; exact HJV.out _)
          | (go_at_call 33; exact HTP.out _))))
        refine wpQuiet_nil ?_
        rintro _ ⟨⟨wq, Bq⟩, rfl⟩
        have HE := Lib.hid (below_call HB.out Bq)
        go_wp2
        go_ret
        exact ⟨rfl, HE.out⟩
    · go_wp2_with fail
      refine (implTipOf ⟨xa, xl, xc⟩ ⟨ya, yl, yc⟩ ⟨za, zl, zc⟩ ⟨sa, sl, sc⟩ ls lo hi js _ (HT.out.below HB.out HT.out.lt) i1 i2 i3 i4 (by simp only; omega) (by simp only; omega) (by simp only; omega) (by simp only; omega)).mono ?_
      generalize w1.alloc (.cells #[.slice xa xl xc, .slice ya yl yc, .slice za zl zc] 25) = w2 at *
      rw [(tip_out hv).1, (tip_out hv).2]
      rintro e w3 ⟨rfl, B3⟩
      replace i1 := i1.next B3
      replace i2 := i2.next B3
      replace i3 := i3.next B3
      replace i4 := i4.next B3
      replace P := P.next B3
      replace HB := Lib.hid (below_call HB.out B3)
      clear B3
      have Q := AtP.box w3 0 0 35
      have Bq := below_box w3 (.cells #[.int .i64 0, .int .i64 0] 35)
      replace i1 := i1.next Bq
      replace i2 := i2.next Bq
      replace i3 := i3.next Bq
      replace i4 := i4.next Bq
      replace P := P.next Bq
      replace HB := Lib.hid (below_call HB.out Bq)
      clear Bq
      have e0 : (0 == 0) = true := by simp
      have e1 : (0 == 0) = true := by simp
      go_wp2
      generalize w3.alloc (.cells #[.int .i64 0, .int .i64 0] 35) = w4 at *
      have gg : Below w4.heap.size w4 w4 := Below.refl _ _
      have HSP := Lib.hid (fun (u : World) (hu : Below w4.heap.size w4 u) => specTipOfR ⟨xa, xl, xc⟩ ⟨ya, yl, yc⟩ ⟨za, zl, zc⟩ ⟨sa, sl, sc⟩ ls lo hi js w4 u hu i1 i2 i3 i4 (by simp only; omega) (by simp only; omega) (by simp only; omega) (by simp only; omega))
      rw [(tip_out hv).1, (tip_out hv).2] at HSP
      go_region_held3 (fun u => u.cell? ⟨w3.heap.size, 0, none⟩ = some (.int .i64 0) ∧ u.cell? ⟨w3.heap.size, 1, none⟩ = some (.int .i64 0) ∧ u.cell? ⟨w1.heap.size, 0, none⟩ = some (.slice xa xl xc) ∧ u.cell? ⟨w1.heap.size, 1, none⟩ = some (.slice ya yl yc) ∧ u.cell? ⟨w1.heap.size, 2, none⟩ = some (.slice za zl zc)) (exact keepT (by repeat (first | (with_reducible assumption) | (with_reducible apply Below.drew))) P Q) (first
        | (go_at_call 34
           refine (HSP.out _ (by repeat (first | (with_reducible assumption) | (with_reducible apply Below.drew)))).mono ?_
           rintro e w5 ⟨rfl, B5⟩)
        | fail)
      replace i1 := i1.next B5
      replace i2 := i2.next B5
      replace i3 := i3.next B5
      replace i4 := i4.next B5
      replace P := P.next B5
      replace Q := Q.next B5
      replace HB := Lib.hid (below_call HB.out B5)
      clear B5 gg HSP
      obtain ⟨_, p1, p2, p3, _, _, _⟩ := id P
      go_wp2_with fail
      refine (implArmPoints ⟨xa, xl, xc⟩ ⟨ya, yl, yc⟩ ⟨za, zl, zc⟩ ⟨sa, sl, sc⟩ ls lo hi js _ (HT.out.below HB.out HT.out.lt) i1 i2 i3 i4 (by simp only; omega) (by simp only; omega) (by simp only; omega) (by simp only; omega)).mono ?_
      rintro e w6 ⟨⟨ca, cl, cc⟩, rfl, O6, e6, B6⟩
      simp only at O6 e6
      replace e6 := Lib.hid e6
      replace i1 := i1.next B6
      replace i2 := i2.next B6
      replace i3 := i3.next B6
      replace i4 := i4.next B6
      replace P := P.next B6
      replace Q := Q.next B6
      replace HB := Lib.hid (below_call HB.out B6)
      clear B6 p1 p2 p3
      obtain rfl : cl = 0 := by rw [e6.out, pointsV_out hv]; rfl
      obtain ⟨_, t1, t2⟩ := id Q
      clear i1 i2 i3 i4 O6 P Q hv
      go_wp2_with fail
      refine (alive _).mono ?_
      rintro e w' ⟨rfl, rfl⟩
      go_wp2
      go_ret
      exact ⟨rfl, HB.out⟩
  · clear h
    go_enter Tryd.func5, Tryd.ntmps5
    go_wp2
    go_ret
    exact ⟨rfl, Below.refl _ _⟩
end Go.Proofs.YtolkihibjabmhaaDoor
