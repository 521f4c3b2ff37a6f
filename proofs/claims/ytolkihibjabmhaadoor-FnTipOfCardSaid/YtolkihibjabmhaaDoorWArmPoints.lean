/- The walk of the law FnArmPoints: it returns true at every code. -/
import Derived.Test.YtolkihibjabmhaaDoorDraw3j
import Derived.Test.YtolkihibjabmhaaDoorPRow5
import Derived.Outline
namespace Go.Proofs.YtolkihibjabmhaaDoor
set_option maxRecDepth 100000
open Go.RowKit
attribute [local go_sem ↓] Go.wp_at_zero Go.wp_at_succ
theorem sqPt {ls lo hi js : List Int} (h : okJoints ls lo hi js) (k : Nat) (hk : k < ls.length) :
    (ls.getD k 0 - 1) * (ls.getD k 0 - 1) ≤ sqV (ptX ls js k) (ptY ls js k) (ptX ls js (k + 1)) (ptY ls js (k + 1)) ∧ sqV (ptX ls js k) (ptY ls js k) (ptX ls js (k + 1)) (ptY ls js (k + 1)) ≤ (ls.getD k 0 + 1) * (ls.getD k 0 + 1) := by
  obtain ⟨l1, l2⟩ := len_bd h.1 k hk
  have b1 := pt_bd ls js (len_bd h.1) k (by omega)
  have b2 := pt_bd ls js (len_bd h.1) (k + 1) (by omega)
  have n2 := h.1.2.1
  have v := vec_len (sumN js (k + 1)) l1 l2
  rw [sqV_in ⟨⟨by omega, by omega, by omega, by omega⟩, ⟨by omega, by omega, by omega, by omega⟩⟩]
  have e1 : ptX ls js (k + 1) - ptX ls js k = rotX (ls.getD k 0) 0 (sumN js (k + 1)) := by simp only [ptX]; omega
  have e2 : ptY ls js (k + 1) - ptY ls js k = rotY (ls.getD k 0) 0 (sumN js (k + 1)) := by simp only [ptY]; omega
  rw [e1, e2]
  exact v
theorem sq_small {l : Int} (h1 : 1 ≤ l) (h2 : l ≤ 500) : 0 ≤ (l - 1) * (l - 1) ∧ (l - 1) * (l - 1) ≤ 251001 ∧ 0 ≤ (l + 1) * (l + 1) ∧ (l + 1) * (l + 1) ≤ 251001 := by
  have a := mul_bd (A := 501) (B := 501) (show (-501 : Int) ≤ l - 1 by omega) (show l - 1 ≤ 501 by omega) (show (-501 : Int) ≤ l - 1 by omega) (show l - 1 ≤ 501 by omega)
  have b := mul_bd (A := 501) (B := 501) (show (-501 : Int) ≤ l + 1 by omega) (show l + 1 ≤ 501 by omega) (show (-501 : Int) ≤ l + 1 by omega) (show l + 1 ≤ 501 by omega)
  exact ⟨sq_nn _, by omega, sq_nn _, by omega⟩
theorem keep2 {w u : World} {b i : Nat} {x y : Value} (h : Below w.heap.size w u) (hb : b < w.heap.size) (h0 : w.cell? ⟨b, i, none⟩ = some x) (h1 : w.cell? ⟨b, i + 1, none⟩ = some y) : u.cell? ⟨b, i, none⟩ = some x ∧ u.cell? ⟨b, i + 1, none⟩ = some y :=
  ⟨(h.cell (p := ⟨b, i, none⟩) hb).trans h0, (h.cell (p := ⟨b, i + 1, none⟩) hb).trans h1⟩
theorem sqR (ax ay bx b_y : Int) (w0 w : World) (hw : Below w0.heap.size w0 w) :
    Calls Tryd.prog 21 #[pt ax ay, pt bx b_y] w fun e w' => e = .returned (.int .i64 (sqV ax ay bx b_y)) ∧ Below w0.heap.size w0 w' :=
  (implSquaredDistance ax ay bx b_y w).mono fun _ _ ⟨he, hb⟩ => ⟨he, below_call hw hb⟩
set_option maxHeartbeats 2000000 in
set_option maxRecDepth 100000 in
theorem walkFnArmPoints (w : World) (ht : TabAt w) (a : Option Addr) (len cap : Nat) (zs : List Int) (h : Bytes w a len cap zs) :
    Calls Tryd.prog 3 #[.slice a len cap] w fun e w' => e = .returned (.bool true) ∧ Below w.heap.size w w' := by
  have hle := h.len_le
  obtain ⟨hl, hm⟩ := hle
  unfold maxLen at hm
  have HT := Lib.hid ht
  clear ht
  by_cases hlen : len ≤ 1048576
  · go_enter Tryd.func3, Tryd.ntmps3
    go_wp2_with fail
    refine (drawArmPoints w a len cap zs h).mono ?_
    rintro e w1 ⟨⟨xa, xl, xc⟩, ⟨ya, yl, yc⟩, ⟨za, zl, zc⟩, ⟨sa, sl, sc⟩, ls, lo, hi, js, rfl, i1, i2, i3, i4, lx, ly, lz, ls4, kz, B1⟩
    simp only at i1 i2 i3 i4 lx ly lz ls4 kz
    have P := AtA.box w1 (.slice xa xl xc) (.slice ya yl yc) (.slice za zl zc) 25
    have Bx := below_box w1 (.cells #[.slice xa xl xc, .slice ya yl yc, .slice za zl zc] 25)
    replace i1 := i1.next Bx
    replace i2 := i2.next Bx
    replace i3 := i3.next Bx
    replace i4 := i4.next Bx
    have HB := Lib.hid (below_call B1 Bx)
    clear B1 Bx h
    go_wp2_with fail
    refine (implArmPoints ⟨xa, xl, xc⟩ ⟨ya, yl, yc⟩ ⟨za, zl, zc⟩ ⟨sa, sl, sc⟩ ls lo hi js _ (HT.out.below HB.out HT.out.lt) i1 i2 i3 i4 (by simp only; omega) (by simp only; omega) (by simp only; omega) (by simp only; omega)).mono ?_
    generalize w1.alloc (.cells #[.slice xa xl xc, .slice ya yl yc, .slice za zl zc] 25) = w2 at *
    rintro e w3 ⟨⟨ca, cl, cc⟩, rfl, O3, e3, B3⟩
    replace i1 := i1.next B3
    replace i2 := i2.next B3
    replace i3 := i3.next B3
    replace i4 := i4.next B3
    replace P := P.next B3
    replace HB := Lib.hid (below_call HB.out B3)
    simp only at O3 e3
    have i5 := O3.ints
    replace e3 := Lib.hid e3
    clear O3
    clear B3
    obtain ⟨_, p1, p2, p3, _, _, _⟩ := id P
    go_wp2_with fail
    refine (specArmPoints ⟨xa, xl, xc⟩ ⟨ya, yl, yc⟩ ⟨za, zl, zc⟩ ⟨sa, sl, sc⟩ ls lo hi js _ i1 i2 i3 i4 (by simp only; omega) (by simp only; omega) (by simp only; omega) (by simp only; omega)).mono ?_
    rintro e w4 ⟨⟨da, dl, dc⟩, rfl, O4, e4, B4⟩
    replace i1 := i1.next B4
    replace i2 := i2.next B4
    replace i3 := i3.next B4
    replace i4 := i4.next B4
    replace i5 := i5.next B4
    replace P := P.next B4
    replace HB := Lib.hid (below_call HB.out B4)
    simp only at O4 e4
    obtain rfl : cl = dl := by rw [e3.out, e4]
    have i6 := O4.ints
    clear O4 e4
    clear B4 p1 p2 p3
    have hcl : cl ≤ 5 := by rw [e3.out]; exact pointsV_len ls lo hi js
    go_wp2_with fail
    refine (samePoints ca da cl cl cc dc (pointsV ls lo hi js) _ i5 i6 (by omega)).mono ?_
    rintro e w5 ⟨rfl, B5⟩
    replace i1 := i1.next B5
    replace i2 := i2.next B5
    replace i3 := i3.next B5
    replace i4 := i4.next B5
    replace i5 := i5.next B5
    replace P := P.next B5
    replace HB := Lib.hid (below_call HB.out B5)
    clear B5 i6
    by_cases hv : okJoints ls lo hi js
    · have HV := Lib.hid hv
      have n1 := hv.1.1
      have n2 := hv.1.2.1
      rw [pointsV_in hv] at i5 e3
      rw [ptsL_len] at e3
      have HM1 := Lib.hid i1.1
      have HLB := Lib.hid (fun k (hk : k < ls.length) => len_bd hv.1 k hk)
      have HSQ := Lib.hid (fun k (hk : k < ls.length) => sqPt hv k hk)
      have HPT := Lib.hid (fun k (hk : k ≤ ls.length) => ptsL_at ls js k hk)
      obtain ⟨b5, rfl, lt5, c5⟩ := i5.some (by rw [e3.out]; omega)
      obtain ⟨b1, o1, rfl, lt1, c1⟩ := i1.some (by rw [HM1.out]; omega)
      obtain rfl : xl = ls.length := HM1.out
      obtain rfl : cl = ls.length + 1 := e3.out
      have HC5 := Lib.hid c5
      have HC1 := Lib.hid c1
      have h00 := (c5 0 (by omega))
      rw [ptsL_at ls js 0 (by omega)] at h00
      simp only [ptX, ptY] at h00
      obtain ⟨h01, h02⟩ := h00
      rw [Nat.zero_mul] at h01
      rw [Nat.zero_mul, Nat.zero_add] at h02
      have H00 := Lib.hid (And.intro h01 h02)
      generalize ls.length = n at *
      have e1 : (((n + 1 : Nat) : Int) == 0) = false := by simp; omega
      have e2 : ((n : Int) + 1 == 0) = false := by simp; omega
      have e5 : ((n : Int) + 1 == (n : Int) + 1) = true := by simp
      clear i1 i2 i3 i4 i5 c5 c1 hv e3 HM1 h01 h02
      have hPlt := P.lt
      go_wp2
      go_loopw [6] (fun i wr => ∃ k : Nat, k ≤ n ∧ i = .int .i64 (k : Int) ∧ Hid (Below w5.heap.size w5 wr)) (fun i _ => n - (intOf i).toNat)
      case atStart => exact ⟨0, Nat.zero_le _, rfl, Lib.hid (Below.refl _ _)⟩
      case round =>
        obtain ⟨k, hk, rfl, HW⟩ := hrel
        obtain ⟨_, a0, a1, a2, _, _, _⟩ := P.next HW.out
        by_cases hlt : k < n
        · have d1 : wr.cell? ⟨b1, o1 + k, none⟩ = _ := (HW.out.cell (p := ⟨b1, o1 + k, none⟩) lt1).trans (HC1.out k hlt)
          have d2 : wr.cell? ⟨b5, k * 2, none⟩ = _ := (HW.out.cell (p := ⟨b5, k * 2, none⟩) lt5).trans (HC5.out k (by omega)).1
          have d3 : wr.cell? ⟨b5, k * 2 + 1, none⟩ = _ := (HW.out.cell (p := ⟨b5, k * 2 + 1, none⟩) lt5).trans (HC5.out k (by omega)).2
          have d4 : wr.cell? ⟨b5, (k + 1) * 2, none⟩ = _ := (HW.out.cell (p := ⟨b5, (k + 1) * 2, none⟩) lt5).trans (HC5.out (k + 1) (by omega)).1
          have d5 : wr.cell? ⟨b5, (k + 1) * 2 + 1, none⟩ = _ := (HW.out.cell (p := ⟨b5, (k + 1) * 2 + 1, none⟩) lt5).trans (HC5.out (k + 1) (by omega)).2
          rw [HPT.out k (by omega)] at d2 d3
          rw [HPT.out (k + 1) (by omega)] at d4 d5
          simp only at d2 d3 d4 d5
          obtain ⟨l1, l2⟩ := HLB.out k hlt
          obtain ⟨s1, s2⟩ := HSQ.out k hlt
          obtain ⟨m1, m2, m3, m4⟩ := sq_small l1 l2
          have HSV := Lib.hid (fun (x y : Int) => (rfl : sqV x y x y = sqV x y x y))
          generalize ls.getD k 0 = l at *
          generalize ptX ls js k = px at *
          generalize ptY ls js k = py at *
          generalize ptX ls js (k + 1) = qx at *
          generalize ptY ls js (k + 1) = qy at *
          have kk : b5 < wr.heap.size := Nat.lt_of_lt_of_le lt5 HW.out.size
          have j1 : (0 : Int) ≤ (k : Int) := by omega
          have j2 : (k : Int) < (n : Int) := by omega
          have j3 : (k : Int) < (n : Int) + 1 := by omega
          have j4 : (0 : Int) ≤ (k : Int) + 1 := by omega
          have j5 : (k : Int) + 1 < (n : Int) + 1 := by omega
          have j6 : ((k : Int) + 1).toNat = k + 1 := by omega
          clear HSV
          go_wp2
          have o9 : IntKind.i64.wrap ((k : Int) + 1) = (k : Int) + 1 := IntWalk.i64_in _ (by omega)
          have gg : Below wr.heap.size wr wr := Below.refl _ _
          go_region_held3 (fun u => (u.cell? ⟨b5, k * 2, none⟩ = some (.int .i64 px) ∧ u.cell? ⟨b5, k * 2 + 1, none⟩ = some (.int .i64 py)) ∧ (u.cell? ⟨b5, (k + 1) * 2, none⟩ = some (.int .i64 qx) ∧ u.cell? ⟨b5, (k + 1) * 2 + 1, none⟩ = some (.int .i64 qy))) (exact ⟨keep2 (by repeat (first | (with_reducible assumption) | (with_reducible apply Below.drew))) kk d2 d3, keep2 (by repeat (first | (with_reducible assumption) | (with_reducible apply Below.drew))) kk d4 d5⟩) (first
            | (go_at_call 21
               (with_reducible refine (sqR px py qx qy wr _ (by repeat (first | (with_reducible assumption) | (with_reducible apply Below.drew)))).mono ?_)
               rintro e w7 ⟨rfl, K7⟩)
            | fail)
          clear o9
          generalize sqV px py qx qy = dv at *
          have HW7 := Lib.hid (below_call HW.out K7)
          go_wp2
          go_roundw
          case rel => exact ⟨k + 1, by omega, by congr 1, HW7⟩
          case measure => simp [intOf]; omega
        · obtain rfl : k = n := by omega
          have z1 : wr.cell? ⟨b5, 0, none⟩ = _ := (HW.out.cell (p := ⟨b5, 0, none⟩) lt5).trans H00.out.1
          have z2 : wr.cell? ⟨b5, 1, none⟩ = _ := (HW.out.cell (p := ⟨b5, 1, none⟩) lt5).trans H00.out.2
          have HE := Lib.hid (below_call HB.out HW.out)
          go_wp2
          go_ret
          exact ⟨rfl, HE.out⟩
    · obtain rfl : cl = 0 := by rw [e3.out, pointsV_out hv]; rfl
      obtain ⟨_, p1, p2, p3, _, _, _⟩ := id P
      go_wp2_with fail
      refine (specJointsValid ⟨xa, xl, xc⟩ ⟨ya, yl, yc⟩ ⟨za, zl, zc⟩ ⟨sa, sl, sc⟩ ls lo hi js _ i1 i2 i3 i4 (by simp only; omega) (by simp only; omega) (by simp only; omega) (by simp only; omega)).mono ?_
      rw [decide_eq_false hv]
      rintro e w6 ⟨rfl, B6⟩
      replace P := P.next B6
      replace HB := Lib.hid (below_call HB.out B6)
      clear B6 p1 p2 p3
      clear i1 i2 i3 i4 i5 P hv
      go_wp2_with fail
      refine (alive _).mono ?_
      rintro e w' ⟨rfl, rfl⟩
      go_wp2
      go_ret
      exact ⟨rfl, HB.out⟩
  · clear h
    go_enter Tryd.func3, Tryd.ntmps3
    go_wp2
    go_ret
    exact ⟨rfl, Below.refl _ _⟩
end Go.Proofs.YtolkihibjabmhaaDoor
