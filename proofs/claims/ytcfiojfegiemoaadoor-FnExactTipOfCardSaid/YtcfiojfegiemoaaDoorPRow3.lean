/- The points of an arm: the program's and the document's. -/
import Derived.Test.YtcfiojfegiemoaaDoorPRow2
import Derived.Test.YtcfiojfegiemoaaDoorNum3
import Derived.Test.YtcfiojfegiemoaaDoorRot
import Derived.Test.YtcfiojfegiemoaaDoorChain4
import Derived.Outline
namespace Go.Proofs.YtcfiojfegiemoaaDoor
open Go.RowKit
attribute [local go_sem ↓] Go.wp_at_zero Go.wp_at_succ
/-- The points of an arm with valid angles. -/
def ptsL (ls js : List Int) : List (Int × Int) := (List.range (ls.length + 1)).map fun (k : Nat) => (ptX ls js k, ptY ls js k)
theorem ptsL_len (ls js : List Int) : (ptsL ls js).length = ls.length + 1 := by simp [ptsL]
theorem ptsL_at (ls js : List Int) (k : Nat) (h : k ≤ ls.length) : (ptsL ls js).getD k (0, 0) = (ptX ls js k, ptY ls js k) := by
  unfold ptsL; rw [List.getD_eq_getElem?_getD, List.getElem?_map, List.getElem?_range (by omega)]; rfl
/-- The points of an arm: none where there can't be any. -/
def pointsV (ls lo hi js : List Int) : List (Int × Int) := if okJoints ls lo hi js then ptsL ls js else []
theorem pointsV_in {ls lo hi js : List Int} (h : okJoints ls lo hi js) : pointsV ls lo hi js = ptsL ls js := by unfold pointsV; rw [if_pos h]
theorem pointsV_out {ls lo hi js : List Int} (h : ¬ okJoints ls lo hi js) : pointsV ls lo hi js = [] := by unfold pointsV; rw [if_neg h]
theorem pointsV_len (ls lo hi js : List Int) : (pointsV ls lo hi js).length ≤ 5 := by
  by_cases h : okJoints ls lo hi js
  · rw [pointsV_in h, ptsL_len]; have := h.1.2.1; omega
  · rw [pointsV_out h]; simp
theorem dir_bd {ls lo hi js : List Int} (h : okJoints ls lo hi js) (k : Nat) (hk : k ≤ js.length) : -(180 * (k : Int)) ≤ sumN js k ∧ sumN js k ≤ 180 * (k : Int) := by
  induction k with
  | zero => simp [sumN]
  | succ k ih =>
    have h0 := ih (by omega)
    have h1 := h.2.2 k (by omega)
    have h2 := h.1.2.2.2.2 k (by have := h.2.1; omega)
    unfold okLink at h2
    simp only [sumN]
    omega
theorem len_bd {ls lo hi : List Int} (h : okArm ls lo hi) : ∀ k, k < ls.length → 1 ≤ ls.getD k 0 ∧ ls.getD k 0 ≤ 500 := fun k hk => ⟨(h.2.2.2.2 k hk).1, (h.2.2.2.2 k hk).2.1⟩
theorem vector (l o h d : Int) (w : World) (ht : TabAt w) (hd1 : -9223372036854775808 ≤ d) (hd2 : d ≤ 9223372036854775807) :
    Calls Tryd.prog 51 #[lk l o h, .int .i64 d] w fun e w' => e = .returned (pt (rotX l 0 d) (rotY l 0 d)) ∧ Below w.heap.size w w' := by
  have HB := Lib.hid (below_box2 w (.cells #[.int .i64 l, .int .i64 o, .int .i64 h] 66) (.cells #[.int .i64 0, .int .i64 0] 35))
  have HR := OwnP.box (w.alloc (.cells #[.int .i64 l, .int .i64 o, .int .i64 h] 66)) 0 0 35
  rw [show (w.alloc (.cells #[.int .i64 l, .int .i64 o, .int .i64 h] 66)).heap.size = w.heap.size + 1 by simp] at HR
  have T := ht.below HB.out ht.lt
  have H0 := Lib.hid (show w.heap.size ≤ w.heap.size + 1 by omega)
  clear ht
  go_enter Tryd.func51, Tryd.ntmps51
  go_wp2_with fail
  refine (implRotatePoint l 0 d _ T hd1 hd2).mono ?_
  rintro e w2 ⟨rfl, B2⟩
  obtain ⟨⟨v7, v8, v9⟩, z1, z2⟩ := HR.next B2
  have HB2 := Lib.hid (below_call HB.out B2)
  clear B2 HR T
  go_wp2
  exact bodyPost_ret (v := pt (rotX l 0 d) (rotY l 0 d)) (by simp [results, Tryd.results51, go_sem, v8, v9]) rfl ⟨rfl, below_set HB2.out H0.out _ _⟩
theorem vectorR (l o h d : Int) (w0 w : World) (hw : Below w0.heap.size w0 w) (ht : TabAt w0) (hd1 : -9223372036854775808 ≤ d) (hd2 : d ≤ 9223372036854775807) :
    Calls Tryd.prog 51 #[lk l o h, .int .i64 d] w fun e w' => e = .returned (pt (rotX l 0 d) (rotY l 0 d)) ∧ Below w0.heap.size w0 w' :=
  (vector l o h d w (ht.below hw ht.lt) hd1 hd2).mono fun _ _ ⟨he, hb⟩ => ⟨he, below_call hw hb⟩
theorem plusR (px py qx qy : Int) (w0 w : World) (hw : Below w0.heap.size w0 w) (h1 : -10000 ≤ px) (h2 : px ≤ 10000) (h3 : -10000 ≤ py) (h4 : py ≤ 10000) (h5 : -10000 ≤ qx) (h6 : qx ≤ 10000) (h7 : -10000 ≤ qy) (h8 : qy ≤ 10000) :
    Calls Tryd.prog 50 #[pt px py, pt qx qy] w fun e w' => e = .returned (pt (px + qx) (py + qy)) ∧ Below w0.heap.size w0 w' :=
  (plusP px py qx qy w h1 h2 h3 h4 h5 h6 h7 h8).mono fun _ _ ⟨he, hb⟩ => ⟨he, below_call hw hb⟩
theorem keepV {w u : World} {b g i : Nat} {x y z p q : Value} (h : Below w.heap.size w u) (hb : b < w.heap.size) (hg : g < w.heap.size) (h0 : w.cell? ⟨b, 0, none⟩ = some x) (h1 : w.cell? ⟨b, 1, none⟩ = some y) (h2 : w.cell? ⟨b, 2, none⟩ = some z) (h3 : w.cell? ⟨g, i, none⟩ = some p) (h4 : w.cell? ⟨g, i + 1, none⟩ = some q) :
    u.cell? ⟨b, 0, none⟩ = some x ∧ u.cell? ⟨b, 1, none⟩ = some y ∧ u.cell? ⟨b, 2, none⟩ = some z ∧ u.cell? ⟨g, i, none⟩ = some p ∧ u.cell? ⟨g, i + 1, none⟩ = some q :=
  ⟨(h.cell (p := ⟨b, 0, none⟩) hb).trans h0, (h.cell (p := ⟨b, 1, none⟩) hb).trans h1, (h.cell (p := ⟨b, 2, none⟩) hb).trans h2, (h.cell (p := ⟨g, i, none⟩) hg).trans h3, (h.cell (p := ⟨g, i + 1, none⟩) hg).trans h4⟩
theorem keepVS {w u : World} {b g i j : Nat} {x y z p q r s : Value} (h : Below w.heap.size w u) (hn : g ≠ b) (hj : i + 1 < j) (hb : b < w.heap.size) (hg : g < w.heap.size) (h0 : w.cell? ⟨b, 0, none⟩ = some x) (h1 : w.cell? ⟨b, 1, none⟩ = some y) (h2 : w.cell? ⟨b, 2, none⟩ = some z) (h3 : w.cell? ⟨g, i, none⟩ = some p) (h4 : w.cell? ⟨g, i + 1, none⟩ = some q) :
    ((u.setCell ⟨g, j, none⟩ r).setCell ⟨g, j + 1, none⟩ s).cell? ⟨b, 0, none⟩ = some x ∧ ((u.setCell ⟨g, j, none⟩ r).setCell ⟨g, j + 1, none⟩ s).cell? ⟨b, 1, none⟩ = some y ∧ ((u.setCell ⟨g, j, none⟩ r).setCell ⟨g, j + 1, none⟩ s).cell? ⟨b, 2, none⟩ = some z ∧ ((u.setCell ⟨g, j, none⟩ r).setCell ⟨g, j + 1, none⟩ s).cell? ⟨g, i, none⟩ = some p ∧ ((u.setCell ⟨g, j, none⟩ r).setCell ⟨g, j + 1, none⟩ s).cell? ⟨g, i + 1, none⟩ = some q := by
  have k := keepV h hb hg h0 h1 h2 h3 h4
  have f : ∀ o, ((u.setCell ⟨g, j, none⟩ r).setCell ⟨g, j + 1, none⟩ s).cell? ⟨b, o, none⟩ = u.cell? ⟨b, o, none⟩ := fun o => (World.cell?_setCell_far _ _ _ _ hn).trans (World.cell?_setCell_far _ _ _ _ hn)
  have f' : ∀ o, o < j → ((u.setCell ⟨g, j, none⟩ r).setCell ⟨g, j + 1, none⟩ s).cell? ⟨g, o, none⟩ = u.cell? ⟨g, o, none⟩ := fun o ho => (World.cell?_setCell_other _ _ _ _ (by simp <;> omega)).trans (World.cell?_setCell_other _ _ _ _ (by simp <;> omega))
  exact ⟨(f 0).trans k.1, (f 1).trans k.2.1, (f 2).trans k.2.2.1, (f' i (by omega)).trans k.2.2.2.1, (f' (i + 1) hj).trans k.2.2.2.2⟩
theorem infoPoint : (Tryd.prog.info? 35).map (fun i => (i.zero, i.size, i.bytes)) = some (some (pt 0 0), 2, 16) := by kernel_rfl
theorem made_pts (f : Nat → Int) (n : Nat) (h0 : f 0 = 0) (h1 : f 1 = 0) : (madeCells (pt 0 0).cells (n * 2)).toList = cpart f (fun _ => 0) (n * 2) 2 := by
  unfold cpart madeCells
  show (Array.map _ (Array.range (n * 2))).toList = _
  rw [Array.toList_map, Array.toList_range]
  apply List.map_congr_left
  intro j _
  have hm : j % 2 = 0 ∨ j % 2 = 1 := by omega
  have e : (if j < 2 then f j else 0) = 0 := by
    split
    · have hj : j = 0 ∨ j = 1 := by omega
      rcases hj with rfl | rfl
      · exact h0
      · exact h1
    · rfl
  rw [e]
  show (#[Value.int .i64 0, Value.int .i64 0] : Array Value)[j % 2]! = _
  rcases hm with h | h <;> rw [h] <;> simp
set_option maxHeartbeats 2000000 in
theorem pointsC (b cap : Nat) (j : Sl) (ls lo hi js : List Int) (w : World) (ht : TabAt w) (hc : ChainAt w b ls.length ls lo hi) (hok : okJoints ls lo hi js) (hj : IntsAt w j.a j.len js) :
    Calls Tryd.prog 36 #[.slice (some ⟨b, 0, none⟩) ls.length cap, .slice j.a j.len j.cap] w fun e w' => ∃ v, e = .returned v ∧ OwnPt w' w.heap.size v (ptsL ls js) ∧ Below w.heap.size w w' := by
  obtain ⟨i0, hi0, hz0, hz1, hz2⟩ := info_parts infoPoint
  obtain ⟨ja, jl, jc⟩ := j
  simp only at *
  have m4 := hj.1
  have n1 := hok.1.1
  have n2 := hok.1.2.1
  have e4 := hok.2.1
  have HJ := Lib.hid (fun k hk => dir_bd hok k hk)
  have HPB := Lib.hid (fun k hk => pt_bd ls js (len_bd hok.1) k hk)
  have HVB := Lib.hid (fun k hk => len_bd hok.1 k hk)
  have HM := Lib.hid (made_pts (cz (ptsL ls js)) (ls.length + 1) (by have := cz0 (ptsL ls js) 0; rw [ptsL_at ls js 0 (by omega)] at this; exact this) (by have := cz1 (ptsL ls js) 0; rw [ptsL_at ls js 0 (by omega)] at this; exact this))
  have HZ := Lib.hid (fun k (hk : k ≤ ls.length) => And.intro ((cz0 (ptsL ls js) k).trans (by rw [ptsL_at ls js k hk])) ((cz1 (ptsL ls js) k).trans (by rw [ptsL_at ls js k hk])))
  have HPS := Lib.hid (fun m => cpart_set (cz (ptsL ls js)) (fun _ => 0) ((ls.length + 1) * 2) m)
  have HFIN := Lib.hid (show cpart (cz (ptsL ls js)) (fun _ => 0) ((ls.length + 1) * 2) ((ls.length + 1) * 2) = pvals (ptsL ls js) by have h := pvals_cpart (ptsL ls js) (fun _ => 0); rw [ptsL_len] at h; exact h.symm)
  have HLEN := Lib.hid (ptsL_len ls js)
  obtain ⟨b4, o4, rfl, lt4, c4⟩ := hj.some (by omega)
  have HC4 := Lib.hid c4
  have HC := Lib.hid hc
  have HT := Lib.hid ht
  rw [m4, e4] at *
  generalize ls.length = n at *
  clear m4 e4 hok hc hj ht c4
  go_enter Tryd.func36, Tryd.ntmps36
  go_wp2_with (first
    | (at_make; refine wpList_make_full _ rfl _ _ 28 rfl w.heap.size 35 i0 (pt 0 0) 2 Tryd.underlying28 hi0 hz0 hz1 .i64 .i64 _ _ (n + 1) rfl rfl (by omega) (by omega) (by rw [hz2]; omega) (by unfold maxLen; omega) (Nat.le_refl _) ?_; intro w1 own1 grow1))
  have own2 : w1.ownsRow w.heap.size 35 2 (.slice (some ⟨w.heap.size, 0, none⟩) (n + 1) (n + 1)) (n + 1) (cpart (cz (ptsL ls js)) (fun _ => 0) ((n + 1) * 2) ((0 + 1) * 2)) := by rw [← HM.out]; exact own1
  have HG : Below w.heap.size w w1 := (Below.refl _ _).grown grow1 (Nat.le_refl _) (fun k hk => by cases hk)
  clear own1 grow1
  go_loopw [6, 15] (fun d i wr => ∃ k : Nat, k ≤ n ∧ d = .int .i64 (sumN js k) ∧ i = .int .i64 (k : Int) ∧ Hid (wr.ownsRow w.heap.size 35 2 (.slice (some ⟨w.heap.size, 0, none⟩) (n + 1) (n + 1)) (n + 1) (cpart (cz (ptsL ls js)) (fun _ => 0) ((n + 1) * 2) ((k + 1) * 2))) ∧ Hid (Below w.heap.size w wr)) (fun _ i _ => n - (intOf i).toNat)
  case atStart => exact ⟨0, Nat.zero_le _, rfl, rfl, Lib.hid own2, Lib.hid HG⟩
  case round =>
    obtain ⟨k, hk, rfl, rfl, HO, HW⟩ := hrel
    clear own2 HG
    by_cases hlt : k < n
    · obtain ⟨d1, d2, d3⟩ := (HC.out.next HW.out).c k hlt
      have d4 : wr.cell? ⟨b4, o4 + k, none⟩ = _ := (HW.out.cell (p := ⟨b4, o4 + k, none⟩) lt4).trans (HC4.out k hlt)
      obtain ⟨l1, l2⟩ := HVB.out k hlt
      obtain ⟨s1, s2⟩ := HJ.out k hk
      obtain ⟨s3, s4⟩ := HJ.out (k + 1) (by omega)
      obtain ⟨q1, q2, q3, q4⟩ := HPB.out k hk
      have E1 : sumN js (k + 1) = sumN js k + js.getD k 0 := rfl
      have E2 : ptX ls js (k + 1) = ptX ls js k + rotX (ls.getD k 0) 0 (sumN js (k + 1)) := rfl
      have E3 : ptY ls js (k + 1) = ptY ls js k + rotY (ls.getD k 0) 0 (sumN js (k + 1)) := rfl
      obtain ⟨⟨v1, v2⟩, ⟨v3, v4⟩⟩ := vec_bd (sumN js (k + 1)) l1 l2
      have Z0 := HZ.out k hk
      have Z1 := HZ.out (k + 1) (by omega)
      have g0 := HO.out.cellAt (k * 2) (by omega)
      have g1 := HO.out.cellAt (k * 2 + 1) (by omega)
      rw [cpart_at _ _ _ _ _ (by omega), if_pos (by omega), Z0.1] at g0
      rw [cpart_at _ _ _ _ _ (by omega), if_pos (by omega), Z0.2] at g1
      rw [E1] at E2 E3 v1 v2 v3 v4 s3 s4
      have HE1 := Lib.hid E1
      have HE2 := Lib.hid (Z1.1.trans E2)
      have HE3 := Lib.hid (Z1.2.trans E3)
      clear E1 E2 E3 Z0 Z1
      generalize sumN js k = sk at *
      generalize js.getD k 0 = jk at *
      generalize ls.getD k 0 = l at *
      generalize lo.getD k 0 = o at *
      generalize hi.getD k 0 = h at *
      generalize ptX ls js k = px at *
      generalize ptY ls js k = py at *
      have hrg := (World.ownsRow.lt HO.out _ rfl).2
      have hrg' : w.heap.size < wr.heap.size := hrg
      have HX := Lib.hid (below_call HW.out (below_box wr (.cells #[.int .i64 l, .int .i64 o, .int .i64 h] 66)))
      have HOb := Lib.hid (HO.out.alloc (.cells #[.int .i64 l, .int .i64 o, .int .i64 h] 66))
      obtain ⟨x0, x1, x2, x3, _, _, _⟩ := AtA.box wr (.int .i64 l) (.int .i64 o) (.int .i64 h) 66
      have g0b : (wr.alloc (.cells #[.int .i64 l, .int .i64 o, .int .i64 h] 66)).cell? ⟨w.heap.size, k * 2, none⟩ = _ := ((below_box wr (.cells #[.int .i64 l, .int .i64 o, .int .i64 h] 66)).cell (p := ⟨w.heap.size, k * 2, none⟩) hrg').trans g0
      have g1b : (wr.alloc (.cells #[.int .i64 l, .int .i64 o, .int .i64 h] 66)).cell? ⟨w.heap.size, k * 2 + 1, none⟩ = _ := ((below_box wr (.cells #[.int .i64 l, .int .i64 o, .int .i64 h] 66)).cell (p := ⟨w.heap.size, k * 2 + 1, none⟩) hrg').trans g1
      have lgb : w.heap.size < (wr.alloc (.cells #[.int .i64 l, .int .i64 o, .int .i64 h] 66)).heap.size := Nat.lt_of_lt_of_le hrg' (below_box wr (.cells #[.int .i64 l, .int .i64 o, .int .i64 h] 66)).size
      have HTb := Lib.hid (HT.out.below HX.out HT.out.lt)
      have ne1 : w.heap.size ≠ wr.heap.size := by omega
      have d4b : (wr.alloc (.cells #[.int .i64 l, .int .i64 o, .int .i64 h] 66)).cell? ⟨b4, o4 + k, none⟩ = _ := ((below_box wr (.cells #[.int .i64 l, .int .i64 o, .int .i64 h] 66)).cell (p := ⟨b4, o4 + k, none⟩) (Nat.lt_of_lt_of_le lt4 HW.out.size)).trans d4
      have j1 : (0 : Int) ≤ (k : Int) := by omega
      have j2 : (k : Int) < ((n + 1 : Nat) : Int) := by omega
      have j6 : (k : Int) < (n : Int) := by omega
      have j7 : (k : Int) < (n : Int) + 1 := by omega
      have j8 : (k : Int) + 1 < (n : Int) + 1 := by omega
      have j3 : (0 : Int) ≤ (k : Int) + 1 := by omega
      have j4 : (k : Int) + 1 < ((n + 1 : Nat) : Int) := by omega
      have j5 : ((k : Int) + 1).toNat = k + 1 := by omega
      have jn : k * 2 + 1 < (k + 1) * 2 := by omega
      clear g0 g1 hrg
      go_wp2
      clear d1 d2 d3 d4 d4b
      have o1 : IntKind.i64.wrap ((k : Int) + 1) = (k : Int) + 1 := IntWalk.i64_in _ (by omega)
      generalize wr.alloc (.cells #[.int .i64 l, .int .i64 o, .int .i64 h] 66) = wb at *
      have gg : Below wb.heap.size wb wb := Below.refl _ _
      go_region_held3 (fun u => u.cell? ⟨wr.heap.size, 0, none⟩ = some (.int .i64 l) ∧ u.cell? ⟨wr.heap.size, 1, none⟩ = some (.int .i64 o) ∧ u.cell? ⟨wr.heap.size, 2, none⟩ = some (.int .i64 h) ∧ u.cell? ⟨w.heap.size, k * 2, none⟩ = some (.int .i64 px) ∧ u.cell? ⟨w.heap.size, k * 2 + 1, none⟩ = some (.int .i64 py)) (first
        | exact keepVS K3 ne1 jn x0 lgb x1 x2 x3 g0b g1b
        | exact keepV (by repeat (first | (with_reducible assumption) | (with_reducible apply Below.drew))) x0 lgb x1 x2 x3 g0b g1b) (first
        | (go_at_call 51
           (with_reducible refine (vectorR l o h (sk + jk) wb _ (by repeat (first | (with_reducible assumption) | (with_reducible apply Below.drew))) HTb.out (by omega) (by omega)).mono ?_)
           rintro e w2 ⟨rfl, K2⟩)
        | (go_at_call 50
           (with_reducible refine (plusR px py (rotX l 0 (sk + jk)) (rotY l 0 (sk + jk)) wb _ (by repeat (first | (with_reducible assumption) | (with_reducible apply Below.drew))) (by omega) (by omega) (by omega) (by omega) (by omega) (by omega) (by omega) (by omega)).mono ?_)
           rintro e w3 ⟨rfl, K3⟩
           have HO3 := Lib.hid (World.ownsRow.kept (row := none) HOb.out ⟨K3.os, K3.tape, K3.output, K3.size, fun k hk _ => K3.block k hk⟩ (.inr (by simp [Value.ownBlock])))
           have r1 := HO3.out.cellAt ((k + 1) * 2) (by omega)
           rw [cpart_at _ _ _ _ _ (by omega)] at r1
           have r2 := HO3.out.frozenAt ((k + 1) * 2)
           have r3 := HO3.out.cellAt ((k + 1) * 2 + 1) (by omega)
           rw [cpart_at _ _ _ _ _ (by omega)] at r3
           have r4 := HO3.out.frozenAt ((k + 1) * 2 + 1))
        | fail)
      have s5 := HO3.out.stored ((k + 1) * 2) (.int .i64 (cz (ptsL ls js) ((k + 1) * 2)))
      have s6 := s5.1.stored ((k + 1) * 2 + 1) (.int .i64 (cz (ptsL ls js) ((k + 1) * 2 + 1)))
      have HS := Lib.hid (And.intro s6.1 (s5.2.trans s6.2))
      rw [HPS.out, HPS.out, HE2.out, HE3.out] at HS
      have HW2 := Lib.hid (below_call HX.out K3)
      clear s5 s6 r1 r2 r3 r4 K2 K3 HO3
      go_wp2
      go_roundw
      case rel => exact ⟨k + 1, by omega, by rw [HE1.out], by congr 1, Lib.hid (by rw [show (k + 1 + 1) * 2 = (k + 1) * 2 + 1 + 1 by omega]; exact HS.out.1), Lib.hid (HW2.out.grown HS.out.2 HW2.out.size (fun q hq => by injection hq with hq; omega))⟩
      case measure => simp [intOf]; omega
    · obtain rfl : k = n := by omega
      go_wp2
      go_ret
      refine ⟨_, rfl, ?_, HW.out⟩
      unfold OwnPt
      rw [← HFIN.out, HLEN.out]
      exact HO.out
end Go.Proofs.YtcfiojfegiemoaaDoor
