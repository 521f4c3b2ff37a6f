/- Several of my texts in one: PRow3, PRow4, PTip. -/
import Derived.Test.YtkogoflcacameaaDoorZbRow
import Derived.Test.YtkogoflcacameaaDoorZbNs
import Derived.Test.YtkogoflcacameaaDoorZbTr
import Derived.Test.YtkogoflcacameaaDoorZbChn
import Derived.Outline
import Derived.Deep.AppendLies
import Derived.Deep.DeepCutAuto
namespace Go.Proofs.YtkogoflcacameaaDoor
set_option maxRecDepth 100000
open Go.RowKit
attribute [local go_sem ↓] Go.wp_at_zero Go.wp_at_succ
/-- The points of an arm with valid angles. -/
def ptsL (ls js : List Int) : List (Int × Int) := (List.range (ls.length + 1)).map fun (k : Nat) => (ptX ls js k, ptY ls js k)
theorem ptsL_len (ls js : List Int) : (ptsL ls js).length = ls.length + 1 := by simp [ptsL]
theorem ptsL_at (ls js : List Int) (k : Nat) (h : k ≤ ls.length) : (ptsL ls js).getD k (0, 0) = (ptX ls js k, ptY ls js k) := by
  unfold ptsL; rw [List.getD_eq_getElem?_getD, List.getElem?_map, List.getElem?_range (by omega)]; rfl
/-- The points of an arm: none where there can't be any. -/
def pointsV (ls lo hi js : List Int) : List (Int × Int) := if okJoints ls lo hi js then ptsL ls js else []
theorem pointsV_in {ls lo hi js : List Int} (h : okJoints ls lo hi js) : pointsV ls lo hi js = ptsL ls js := by unfold pointsV; rw [if_pos h]
theorem pointsV_out {ls lo hi js : List Int} (h : ¬ okJoints ls lo hi js) : pointsV ls lo hi js = [] := by unfold pointsV; rw [if_neg h]
theorem pointsV_len (ls lo hi js : List Int) : (pointsV ls lo hi js).length ≤ 5 := by
  by_cases h : okJoints ls lo hi js
  · rw [pointsV_in h, ptsL_len]; have := h.1.2.1; omega
  · rw [pointsV_out h]; simp
theorem dir_bd {ls lo hi js : List Int} (h : okJoints ls lo hi js) (k : Nat) (hk : k ≤ js.length) : -(180 * (k : Int)) ≤ sumN js k ∧ sumN js k ≤ 180 * (k : Int) := by
  induction k with
  | zero => simp [sumN]
  | succ k ih =>
    have h0 := ih (by omega)
    have h1 := h.2.2 k (by omega)
    have h2 := h.1.2.2.2.2 k (by have := h.2.1; omega)
    unfold okLink at h2
    simp only [sumN]
    omega
theorem len_bd {ls lo hi : List Int} (h : okArm ls lo hi) : ∀ k, k < ls.length → 1 ≤ ls.getD k 0 ∧ ls.getD k 0 ≤ 500 := fun k hk => ⟨(h.2.2.2.2 k hk).1, (h.2.2.2.2 k hk).2.1⟩
theorem vector (l o h d : Int) (w : World) (ht : TabAt w) (hd1 : -9223372036854775808 ≤ d) (hd2 : d ≤ 9223372036854775807) :
    Calls Tryd.prog 94 #[lk l o h, .int .i64 d] w fun e w' => e = .returned (pt (rotX l 0 d) (rotY l 0 d)) ∧ Below w.heap.size w w' := by
  have HB := Lib.hid (below_box2 w (.cells #[.int .i64 l, .int .i64 o, .int .i64 h] 84) (.cells #[.int .i64 0, .int .i64 0] 89))
  have HR := OwnP.box (w.alloc (.cells #[.int .i64 l, .int .i64 o, .int .i64 h] 84)) 0 0 89
  rw [show (w.alloc (.cells #[.int .i64 l, .int .i64 o, .int .i64 h] 84)).heap.size = w.heap.size + 1 by simp] at HR
  have T := ht.below HB.out ht.lt
  have H0 := Lib.hid (show w.heap.size ≤ w.heap.size + 1 by omega)
  clear ht
  go_enter Tryd.func94, Tryd.ntmps94
  go_wp2_with fail
  refine (implRotatePoint l 0 d _ T hd1 hd2).mono ?_
  rintro e w2 ⟨rfl, B2⟩
  obtain ⟨⟨v7, v8, v9⟩, z1, z2⟩ := HR.next B2
  have HB2 := Lib.hid (below_call HB.out B2)
  clear B2 HR T
  go_wp2
  exact bodyPost_ret (v := pt (rotX l 0 d) (rotY l 0 d)) (by simp [results, Tryd.results94, go_sem, v8, v9]) rfl ⟨rfl, below_set HB2.out H0.out _ _⟩
theorem vectorR (l o h d : Int) (w0 w : World) (hw : Below w0.heap.size w0 w) (ht : TabAt w0) (hd1 : -9223372036854775808 ≤ d) (hd2 : d ≤ 9223372036854775807) :
    Calls Tryd.prog 94 #[lk l o h, .int .i64 d] w fun e w' => e = .returned (pt (rotX l 0 d) (rotY l 0 d)) ∧ Below w0.heap.size w0 w' :=
  (vector l o h d w (ht.below hw ht.lt) hd1 hd2).mono fun _ _ ⟨he, hb⟩ => ⟨he, below_call hw hb⟩
theorem plusR (px py qx qy : Int) (w0 w : World) (hw : Below w0.heap.size w0 w) (h1 : -10000 ≤ px) (h2 : px ≤ 10000) (h3 : -10000 ≤ py) (h4 : py ≤ 10000) (h5 : -10000 ≤ qx) (h6 : qx ≤ 10000) (h7 : -10000 ≤ qy) (h8 : qy ≤ 10000) :
    Calls Tryd.prog 93 #[pt px py, pt qx qy] w fun e w' => e = .returned (pt (px + qx) (py + qy)) ∧ Below w0.heap.size w0 w' :=
  (plusP px py qx qy w h1 h2 h3 h4 h5 h6 h7 h8).mono fun _ _ ⟨he, hb⟩ => ⟨he, below_call hw hb⟩
theorem keepV {w u : World} {b g i : Nat} {x y z p q : Value} (h : Below w.heap.size w u) (hb : b < w.heap.size) (hg : g < w.heap.size) (h0 : w.cell? ⟨b, 0, none⟩ = some x) (h1 : w.cell? ⟨b, 1, none⟩ = some y) (h2 : w.cell? ⟨b, 2, none⟩ = some z) (h3 : w.cell? ⟨g, i, none⟩ = some p) (h4 : w.cell? ⟨g, i + 1, none⟩ = some q) :
    u.cell? ⟨b, 0, none⟩ = some x ∧ u.cell? ⟨b, 1, none⟩ = some y ∧ u.cell? ⟨b, 2, none⟩ = some z ∧ u.cell? ⟨g, i, none⟩ = some p ∧ u.cell? ⟨g, i + 1, none⟩ = some q :=
  ⟨(h.cell (p := ⟨b, 0, none⟩) hb).trans h0, (h.cell (p := ⟨b, 1, none⟩) hb).trans h1, (h.cell (p := ⟨b, 2, none⟩) hb).trans h2, (h.cell (p := ⟨g, i, none⟩) hg).trans h3, (h.cell (p := ⟨g, i + 1, none⟩) hg).trans h4⟩
theorem keepVS {w u : World} {b g i j : Nat} {x y z p q r s : Value} (h : Below w.heap.size w u) (hn : g ≠ b) (hj : i + 1 < j) (hb : b < w.heap.size) (hg : g < w.heap.size) (h0 : w.cell? ⟨b, 0, none⟩ = some x) (h1 : w.cell? ⟨b, 1, none⟩ = some y) (h2 : w.cell? ⟨b, 2, none⟩ = some z) (h3 : w.cell? ⟨g, i, none⟩ = some p) (h4 : w.cell? ⟨g, i + 1, none⟩ = some q) :
    ((u.setCell ⟨g, j, none⟩ r).setCell ⟨g, j + 1, none⟩ s).cell? ⟨b, 0, none⟩ = some x ∧ ((u.setCell ⟨g, j, none⟩ r).setCell ⟨g, j + 1, none⟩ s).cell? ⟨b, 1, none⟩ = some y ∧ ((u.setCell ⟨g, j, none⟩ r).setCell ⟨g, j + 1, none⟩ s).cell? ⟨b, 2, none⟩ = some z ∧ ((u.setCell ⟨g, j, none⟩ r).setCell ⟨g, j + 1, none⟩ s).cell? ⟨g, i, none⟩ = some p ∧ ((u.setCell ⟨g, j, none⟩ r).setCell ⟨g, j + 1, none⟩ s).cell? ⟨g, i + 1, none⟩ = some q := by
  have k := keepV h hb hg h0 h1 h2 h3 h4
  have f : ∀ o, ((u.setCell ⟨g, j, none⟩ r).setCell ⟨g, j + 1, none⟩ s).cell? ⟨b, o, none⟩ = u.cell? ⟨b, o, none⟩ := fun o => (World.cell?_setCell_far _ _ _ _ hn).trans (World.cell?_setCell_far _ _ _ _ hn)
  have f' : ∀ o, o < j → ((u.setCell ⟨g, j, none⟩ r).setCell ⟨g, j + 1, none⟩ s).cell? ⟨g, o, none⟩ = u.cell? ⟨g, o, none⟩ := fun o ho => (World.cell?_setCell_other _ _ _ _ (by simp <;> omega)).trans (World.cell?_setCell_other _ _ _ _ (by simp <;> omega))
  exact ⟨(f 0).trans k.1, (f 1).trans k.2.1, (f 2).trans k.2.2.1, (f' i (by omega)).trans k.2.2.2.1, (f' (i + 1) hj).trans k.2.2.2.2⟩
theorem infoPoint : (Tryd.prog.info? 89).map (fun i => (i.zero, i.size, i.bytes)) = some (some (pt 0 0), 2, 16) := by kernel_rfl
theorem made_pts (f : Nat → Int) (n : Nat) (h0 : f 0 = 0) (h1 : f 1 = 0) : (madeCells (pt 0 0).cells (n * 2)).toList = cpart f (fun _ => 0) (n * 2) 2 := by
  unfold cpart madeCells
  show (Array.map _ (Array.range (n * 2))).toList = _
  rw [Array.toList_map, Array.toList_range]
  apply List.map_congr_left
  intro j _
  have hm : j % 2 = 0 ∨ j % 2 = 1 := by omega
  have e : (if j < 2 then f j else 0) = 0 := by
    split
    · have hj : j = 0 ∨ j = 1 := by omega
      rcases hj with rfl | rfl
      · exact h0
      · exact h1
    · rfl
  rw [e]
  show (#[Value.int .i64 0, Value.int .i64 0] : Array Value)[j % 2]! = _
  rcases hm with h | h <;> rw [h] <;> simp
end Go.Proofs.YtkogoflcacameaaDoor
namespace Go.Proofs.YtkogoflcacameaaDoor
set_option maxRecDepth 100000
open Go.RowKit
attribute [local go_sem ↓] Go.wp_at_zero Go.wp_at_succ
theorem pvals_snoc (ps : List (Int × Int)) (p : Int × Int) : pvals (ps ++ [p]) = pvals ps ++ [.int .i64 p.1, .int .i64 p.2] := by
  apply List.ext_getElem?
  intro j
  by_cases h : j < ps.length * 2
  · rw [List.getElem?_append_left (by rw [pvals_len]; exact h), pvals_at ps j h, pvals_at (ps ++ [p]) j (by simp only [List.length_append, List.length_singleton]; omega)]
    unfold cz
    rw [List.getD_eq_getElem?_getD, List.getD_eq_getElem?_getD, List.getElem?_append_left (by omega)]
  · by_cases h0 : j = ps.length * 2
    · subst h0
      rw [List.getElem?_append_right (by rw [pvals_len]; omega), pvals_len, pvals_at (ps ++ [p]) _ (by simp only [List.length_append, List.length_singleton]; omega), cz0, List.getD_eq_getElem?_getD, List.getElem?_append_right (by omega)]
      simp
    · by_cases h1 : j = ps.length * 2 + 1
      · subst h1
        rw [List.getElem?_append_right (by rw [pvals_len]; omega), pvals_len, pvals_at (ps ++ [p]) _ (by simp only [List.length_append, List.length_singleton]; omega), cz1, List.getD_eq_getElem?_getD, List.getElem?_append_right (by omega)]
        simp
      · rw [List.getElem?_eq_none (by rw [pvals_len]; simp; omega), List.getElem?_eq_none (by simp [pvals_len]; omega)]
theorem pvals_take (ps : List (Int × Int)) (k : Nat) (h : k < ps.length) : pvals (ps.take (k + 1)) = pvals (ps.take k) ++ [.int .i64 (ps.getD k (0, 0)).1, .int .i64 (ps.getD k (0, 0)).2] := by
  rw [List.take_succ_eq_append_getElem h, pvals_snoc, List.getD_eq_getElem?_getD, List.getElem?_eq_getElem h]
  rfl
theorem ptsL_one (ls js : List Int) : pvals ((ptsL ls js).take 1) = [.int .i64 0, .int .i64 0] := by
  have h := pvals_take (ptsL ls js) 0 (by rw [ptsL_len]; omega)
  rw [ptsL_at ls js 0 (by omega)] at h
  simpa [ptX, ptY, pvals] using h
theorem two_new (w : World) (a b : Value) (t : Nat) : ∀ (j : Nat) u, [a, b][j]? = some u → (w.alloc (.cells #[a, b] t)).cell? ((⟨w.heap.size, 0, none⟩ : Addr).add j) = some u := by
  intro j u hu
  have hj : j = 0 ∨ j = 1 := by
    have := (List.getElem?_eq_some_iff.1 hu).1
    simp at this; omega
  rcases hj with rfl | rfl
  · simp at hu; subst hu; simp [Addr.add]
  · simp at hu; subst hu; simp [Addr.add]
theorem OwnP.puts {w : World} {b : Nat} {x y : Int} (h : OwnP w b x y) (u v : Int) : OwnP ((w.setCell ⟨b, 0, none⟩ (.int .i64 u)).setCell ⟨b, 1, none⟩ (.int .i64 v)) b u v :=
  have h1 : (w.setCell ⟨b, 0, none⟩ (.int .i64 u)).cell? ⟨b, 1, none⟩ = some (.int .i64 y) := (World.cell?_setCell_other _ _ _ _ (by simp)).trans h.c1
  ⟨⟨by simpa [World.setCell] using h.lt, (World.cell?_setCell_other _ _ _ _ (by simp)).trans (World.cell?_setCell_same _ _ _ h.c0), World.cell?_setCell_same _ _ _ h1⟩, ((World.frozen?_setCell _ _ _ _).trans (World.frozen?_setCell _ _ _ _)).trans h.z0, ((World.frozen?_setCell _ _ _ _).trans (World.frozen?_setCell _ _ _ _)).trans h.z1⟩
theorem OwnP.row {w w' : World} {b : Nat} {x y : Int} {row : Option Nat} (h : OwnP w b x y) (hg : w.grownBy w' row) (hne : some b ≠ row) : OwnP w' b x y :=
  have e := hg.block b h.lt hne
  ⟨⟨Nat.lt_of_lt_of_le h.lt hg.size, (World.cell?_of_block (a := ⟨b, 0, none⟩) e).trans h.c0, (World.cell?_of_block (a := ⟨b, 1, none⟩) e).trans h.c1⟩, (World.frozen?_of_block (a := ⟨b, 0, none⟩) e).trans h.z0, (World.frozen?_of_block (a := ⟨b, 1, none⟩) e).trans h.z1⟩
theorem row_off {w : World} {B e size n c o : Nat} {v : Value} {xs : List Value} (h : w.ownsRow B e size v n xs) (hc : c < B) (u : Value) : (w.setCell ⟨c, o, none⟩ u).ownsRow B e size v n xs :=
  World.ownsRow.kept (row := some c) h ⟨rfl, rfl, rfl, by simp [World.setCell], fun k _ hk => Below.heap_setCell w _ _ k (by rintro rfl; exact hk rfl)⟩ (by
    rcases hv : v.ownBlock with _ | g
    · exact .inl rfl
    · refine .inr fun e => ?_
      injection e with e
      have := (World.ownsRow.lt h g hv).1
      omega)
set_option maxHeartbeats 2000000 in
theorem l3Points (x y z j : Sl) (ls lo hi js : List Int) (w : World) (hx : IntsAt w x.a x.len ls) (hj : IntsAt w j.a j.len js) (hok : okJoints ls lo hi js) :
    Calls Tryd.prog 59 #[av x y z, .slice j.a j.len j.cap] w fun e w' => ∃ v, e = .returned v ∧ OwnPt w' w.heap.size v (ptsL ls js) ∧ Below w.heap.size w w' := by
  obtain ⟨i0, hi0, hz0, hz1, hz2⟩ := info_parts infoPoint
  obtain ⟨xa, xl, xc⟩ := x
  obtain ⟨ya, yl, yc⟩ := y
  obtain ⟨za, zl, zc⟩ := z
  obtain ⟨ja, jl, jc⟩ := j
  simp only at *
  have m1 := hx.1
  have m4 := hj.1
  have n1 := hok.1.1
  have n2 := hok.1.2.1
  have e4 := hok.2.1
  have HJ := Lib.hid (fun k (hk : k ≤ jl) => dir_bd hok k (by omega))
  have HPB := Lib.hid (fun k (hk : k ≤ jl) => pt_bd ls js (len_bd hok.1) k (by omega))
  have HVB := Lib.hid (fun k (hk : k < jl) => len_bd hok.1 k (by omega))
  have HTK := Lib.hid (fun k (hk : k < jl) => (pvals_take (ptsL ls js) (k + 1) (by rw [ptsL_len]; omega)).trans (by rw [ptsL_at ls js (k + 1) (by omega)]))
  have HLEN := Lib.hid (show (ptsL ls js).length = jl + 1 by rw [ptsL_len]; omega)
  have HONE := Lib.hid (ptsL_one ls js)
  obtain ⟨b1, o1, rfl, lt1, c1⟩ := hx.some (by omega)
  obtain ⟨b4, o4, rfl, lt4, c4⟩ := hj.some (by omega)
  have HC1 := Lib.hid (fun k (hk : k < jl) => c1 k (by omega))
  have HC4 := Lib.hid c4
  have z4 : jl ≤ 4 := by omega
  obtain rfl : jl = xl := by omega
  have W3 := below_box3 w (.cells #[.slice (some ⟨b1, o1, none⟩) jl xc, .slice ya yl yc, .slice za zl zc] 25) (.cells #[.int .i64 0, .int .i64 0] 89) (.cells #[.int .i64 0, .int .i64 0] 89)
  have P := ((AtA.box w (.slice (some ⟨b1, o1, none⟩) jl xc) (.slice ya yl yc) (.slice za zl zc) 25).alloc (.cells #[.int .i64 0, .int .i64 0] 89)).alloc (.cells #[.int .i64 0, .int .i64 0] 89)
  have R := OwnP.box (w.alloc (.cells #[.slice (some ⟨b1, o1, none⟩) jl xc, .slice ya yl yc, .slice za zl zc] 25)) 0 0 89
  rw [show (w.alloc (.cells #[.slice (some ⟨b1, o1, none⟩) jl xc, .slice ya yl yc, .slice za zl zc] 25)).heap.size = w.heap.size + 1 by simp] at R
  replace R := R.next (below_box _ (.cells #[.int .i64 0, .int .i64 0] 89))
  have O : (((w.alloc (.cells #[.slice (some ⟨b1, o1, none⟩) jl xc, .slice ya yl yc, .slice za zl zc] 25)).alloc (.cells #[.int .i64 0, .int .i64 0] 89)).alloc (.cells #[.int .i64 0, .int .i64 0] 89)).ownsRow (w.heap.size + 2) 89 2 (.slice (some ⟨w.heap.size + 1 + 1, 0, none⟩) 1 1) 1 (pvals ((ptsL ls js).take 1)) := by
    have := World.ownsRow_lit (base := w.heap.size + 2) (e := 89) (size := 2) ((w.alloc (.cells #[.slice (some ⟨b1, o1, none⟩) jl xc, .slice ya yl yc, .slice za zl zc] 25)).alloc (.cells #[.int .i64 0, .int .i64 0] 89)) #[.int .i64 0, .int .i64 0] 1 (by simp) (by unfold maxLen; omega) rfl
    rw [HONE.out]
    simpa using this
  clear m1 m4 n1 n2 e4 hx hj hok c1 c4 HONE
  go_enter Tryd.func59, Tryd.ntmps59
  go_wp2
  generalize ((w.alloc (.cells #[.slice (some ⟨b1, o1, none⟩) jl xc, .slice ya yl yc, .slice za zl zc] 25)).alloc (.cells #[.int .i64 0, .int .i64 0] 89)).alloc (.cells #[.int .i64 0, .int .i64 0] 89) = u0 at *
  go_loopw [6, 7, 8] (fun d v i wr => ∃ k : Nat, k ≤ jl ∧ d = .int .i64 (sumN js k) ∧ i = .int .i64 (k : Int) ∧ Hid (wr.ownsRow (w.heap.size + 2) 89 2 v (k + 1) (pvals ((ptsL ls js).take (k + 1)))) ∧ Hid (Below w.heap.size w wr) ∧ Hid (AtA wr w.heap.size (.slice (some ⟨b1, o1, none⟩) jl xc) (.slice ya yl yc) (.slice za zl zc)) ∧ Hid (OwnP wr (w.heap.size + 1) (ptX ls js k) (ptY ls js k))) (fun _ _ i _ => jl - (intOf i).toNat)
  case atStart => exact ⟨0, Nat.zero_le _, rfl, rfl, Lib.hid O, Lib.hid W3, Lib.hid P, Lib.hid R⟩
  case round =>
    obtain ⟨k, hk, rfl, rfl, HO, HW, HP, HR⟩ := hrel
    clear O W3 P R
    by_cases hlt : k < jl
    · obtain ⟨_, a0, a1, a2, _, _, _⟩ := id HP.out
      have d4 : wr.cell? ⟨b4, o4 + k, none⟩ = _ := (HW.out.cell (p := ⟨b4, o4 + k, none⟩) lt4).trans (HC4.out k hlt)
      have d1 : wr.cell? ⟨b1, o1 + k, none⟩ = _ := (HW.out.cell (p := ⟨b1, o1 + k, none⟩) lt1).trans (HC1.out k hlt)
      obtain ⟨l1, l2⟩ := HVB.out k hlt
      obtain ⟨s1, s2⟩ := HJ.out k hk
      obtain ⟨s3, s4⟩ := HJ.out (k + 1) (by omega)
      obtain ⟨q1, q2, q3, q4⟩ := HPB.out k hk
      have E1 : sumN js (k + 1) = sumN js k + js.getD k 0 := rfl
      have E2 : ptX ls js (k + 1) = ptX ls js k + rotX (ls.getD k 0) 0 (sumN js (k + 1)) := rfl
      have E3 : ptY ls js (k + 1) = ptY ls js k + rotY (ls.getD k 0) 0 (sumN js (k + 1)) := rfl
      obtain ⟨⟨v1, v2⟩, ⟨v3, v4⟩⟩ := vec_bd (sumN js (k + 1)) l1 l2
      rw [E1] at E2 E3 v1 v2 v3 v4 s3 s4
      have HE1 := Lib.hid E1
      have HE2 := Lib.hid E2
      have HE3 := Lib.hid E3
      clear E1 E2 E3
      generalize sumN js k = sk at *
      generalize js.getD k 0 = jk at *
      generalize ls.getD k 0 = l at *
      generalize ptX ls js k = px at *
      generalize ptY ls js k = py at *
      have j1 : (0 : Int) ≤ (k : Int) := by omega
      have j2 : (k : Int) < (jl : Int) := by omega
      go_wp2_with fail
      refine (l2Turn l 0 (sk + jk) _ (okLen l1 l2) (by omega) (by omega)).mono ?_
      rintro e w4 ⟨rfl, B4⟩
      replace HP := Lib.hid (HP.out.next B4)
      replace HR := Lib.hid (HR.out.next B4)
      replace HO := Lib.hid (World.ownsRow.kept (row := none) HO.out ⟨B4.os, B4.tape, B4.output, B4.size, fun k hk _ => B4.block k hk⟩ (by cases Value.ownBlock _ <;> simp))
      replace HW := Lib.hid (below_call HW.out B4)
      clear a0 a1 a2 d1 d4 B4
      generalize rotX l 0 (sk + jk) = rx at *
      generalize rotY l 0 (sk + jk) = ry at *
      obtain ⟨⟨_, p0, p1⟩, z0, z1⟩ := id (HR.out.next (below_box w4 (.cells #[.int .i64 rx, .int .i64 ry] 89)))
      have hne : w4.heap.size ≠ w.heap.size + 1 := by have := HR.out.lt; omega
      go_upto_region 10 with fail
      have hPA : w.heap.size + 1 ≠ w.heap.size := by omega
      have hP1 : w.heap.size ≤ w.heap.size + 1 := by omega
      replace HP := Lib.hid (((HP.out.alloc (.cells #[.int .i64 rx, .int .i64 ry] 89)).far (c := w.heap.size + 1) (o := 0) hPA (.int .i64 (px + rx))).far (c := w.heap.size + 1) (o := 1) hPA (.int .i64 (py + ry)))
      replace HR := Lib.hid ((HR.out.next (below_box w4 (.cells #[.int .i64 rx, .int .i64 ry] 89))).puts (px + rx) (py + ry))
      replace HO := Lib.hid (row_off (c := w.heap.size + 1) (o := 1) (row_off (c := w.heap.size + 1) (o := 0) (HO.out.alloc (.cells #[.int .i64 rx, .int .i64 ry] 89)) (by omega) (.int .i64 (px + rx))) (by omega) (.int .i64 (py + ry)))
      replace HW := Lib.hid (((below_call HW.out (below_box w4 (.cells #[.int .i64 rx, .int .i64 ry] 89))).setCell (p := ⟨w.heap.size + 1, 0, none⟩) hP1 (.int .i64 (px + rx))).setCell (p := ⟨w.heap.size + 1, 1, none⟩) hP1 (.int .i64 (py + ry)))
      clear p0 p1 z0 z1
      generalize ((w4.alloc (.cells #[.int .i64 rx, .int .i64 ry] 89)).setCell ⟨w.heap.size + 1, 0, none⟩ (.int .i64 (px + rx))).setCell ⟨w.heap.size + 1, 1, none⟩ (.int .i64 (py + ry)) = u5 at *
      obtain ⟨⟨hu5, p0, p1⟩, z0, z1⟩ := id HR.out
      have HO6 := Lib.hid (HO.out.alloc (.cells #[.int .i64 (px + rx), .int .i64 (py + ry)] 89))
      have HN := Lib.hid (two_new u5 (.int .i64 (px + rx)) (.int .i64 (py + ry)) 89)
      have HH : Hid (w.heap.size + 2 ≤ (u5.alloc (.cells #[.int .i64 (px + rx), .int .i64 (py + ry)] 89)).heap.size) := Lib.hid (by simp; omega)
      have HRB := Lib.hid (fun q hq => (World.ownsRow.lt HO6.out q hq).1)
      go_wp2_with (at_builtin; refine wpList_append_lies _ rfl (.tmp 44) (.tmp 46) 72 rfl (w.heap.size + 2) 89 i0 (pt 0 0) 2 16 Tryd.underlying72 hi0 hz0 hz1 hz2 rfl (by decide) _ (k + 1) (pvals ((ptsL ls js).take (k + 1))) rfl HO6.out ⟨u5.heap.size, 0, none⟩ 1 1 [.int .i64 (px + rx), .int .i64 (py + ry)] rfl rfl HN.out (by intro u hu; simp at hu; rcases hu with rfl | rfl <;> rfl) (by omega) (by unfold maxLen; omega) (by omega) HH.out _ rfl ?_; intro g cap6 w7 own7 grow7 at7 ltg7; have HA7 := Lib.hid (And.intro own7 grow7); clear own7 grow7 at7 ltg7)
      have HO7 := Lib.hid HA7.out.1
      rw [← HE2.out, ← HE3.out, ← HTK.out k hlt] at HO7
      have HW7 := Lib.hid ((below_call HW.out (below_box u5 (.cells #[.int .i64 (px + rx), .int .i64 (py + ry)] 89))).grown HA7.out.2 (below_call HW.out (below_box u5 (.cells #[.int .i64 (px + rx), .int .i64 (py + ry)] 89))).size (fun q hq => by have := HRB.out q hq; omega))
      have HP7 := Lib.hid ((HP.out.alloc (.cells #[.int .i64 (px + rx), .int .i64 (py + ry)] 89)).kept HA7.out.2 (fun e => by have := HRB.out _ e.symm; omega))
      have HR7 := Lib.hid ((HR.out.next (below_box u5 (.cells #[.int .i64 (px + rx), .int .i64 (py + ry)] 89))).row HA7.out.2 (fun e => by have := HRB.out _ e.symm; omega))
      rw [← HE2.out, ← HE3.out] at HR7
      go_roundw
      case rel => exact ⟨k + 1, by omega, by rw [HE1.out], by congr 1, HO7, HW7, HP7, HR7⟩
      case measure => simp [intOf]; omega
    · obtain rfl : k = jl := by omega
      go_wp2
      go_ret
      refine ⟨_, rfl, ?_, HW.out⟩
      have o := HO.out
      rw [List.take_of_length_le (by rw [HLEN.out]; omega)] at o
      unfold OwnPt
      rw [HLEN.out]
      exact World.ownsRow_down o (by omega)
end Go.Proofs.YtkogoflcacameaaDoor
namespace Go.Proofs.YtkogoflcacameaaDoor
set_option maxRecDepth 100000
open Go.RowKit
attribute [local go_sem ↓] Go.wp_at_zero Go.wp_at_succ
theorem grown_set2 (w : World) (b : Nat) (u v : Value) : w.grownBy ((w.setCell ⟨b, 0, none⟩ u).setCell ⟨b, 1, none⟩ v) (some b) :=
  ⟨rfl, rfl, rfl, by simp [World.setCell], fun k _ hk => (Below.heap_setCell _ _ _ k (by rintro rfl; exact hk rfl)).trans (Below.heap_setCell _ _ _ k (by rintro rfl; exact hk rfl))⟩
set_option maxHeartbeats 2000000 in
theorem tipC (b cap b4 o4 jl jc k : Nat) (ls lo hi js : List Int) (w : World) (ht : TabAt w) (hc : ChainAt w b ls.length ls lo hi) (hl : ∀ i, i < ls.length → 1 ≤ ls.getD i 0 ∧ ls.getD i 0 ≤ 500) (hn : ls.length ≤ 4) (hk : k ≤ ls.length)
    (hd : ∀ i : Nat, i ≤ k → -(180 * (i : Int)) ≤ sumN js i ∧ sumN js i ≤ 180 * (i : Int)) (hj : k ≤ jl) (lt4 : b4 < w.heap.size) (c4 : ∀ i, i < k → w.cell? ⟨b4, o4 + i, none⟩ = some (.int .i64 (js.getD i 0))) :
    Calls Tryd.prog 83 #[.slice (some ⟨b, 0, none⟩) k cap, .slice (some ⟨b4, o4, none⟩) jl jc] w fun e w' => e = .returned (pt (ptX ls js k) (ptY ls js k)) ∧ Below w.heap.size w w' := by
  have HJ := Lib.hid hd
  have HPB := Lib.hid (fun i hi => pt_bd ls js hl i hi)
  have HVB := Lib.hid hl
  have HC4 := Lib.hid c4
  have HC := Lib.hid hc
  have HT := Lib.hid ht
  have R0 := Lib.hid ((OwnP.box w 0 0 89).next (below_box _ (.cells #[.int .i64 0, .int .i64 0] 89)))
  have R1 := OwnP.box (w.alloc (.cells #[.int .i64 0, .int .i64 0] 89)) 0 0 89
  rw [show (w.alloc (.cells #[.int .i64 0, .int .i64 0] 89)).heap.size = w.heap.size + 1 by simp] at R1
  have HR1 := Lib.hid R1
  have HB0 := Lib.hid (below_box2 w (.cells #[.int .i64 0, .int .i64 0] 89) (.cells #[.int .i64 0, .int .i64 0] 89))
  have H1 := Lib.hid (show w.heap.size ≤ w.heap.size + 1 by omega)
  clear hd hl c4 hc ht R1
  generalize hnn : ls.length = n at *
  have HN := Lib.hid hnn
  clear hnn
  go_enter Tryd.func83, Tryd.ntmps83
  go_wp2
  go_loopw [6, 12] (fun d i wr => ∃ m : Nat, m ≤ k ∧ d = .int .i64 (sumN js m) ∧ i = .int .i64 (m : Int) ∧ Hid (OwnP wr (w.heap.size + 1) (ptX ls js m) (ptY ls js m)) ∧ Hid (OwnP wr w.heap.size 0 0) ∧ Hid (Below w.heap.size w wr)) (fun _ i _ => k - (intOf i).toNat)
  case atStart =>
    exact ⟨0, Nat.zero_le _, rfl, rfl, Lib.hid HR1.out, Lib.hid R0.out, Lib.hid HB0.out⟩
  case round =>
    obtain ⟨m, hm, rfl, rfl, HO, HR, HW⟩ := hrel
    clear HB0
    by_cases hlt : m < k
    · obtain ⟨d1, d2, d3⟩ := (HC.out.next HW.out).c m (by omega)
      have d4 : wr.cell? ⟨b4, o4 + m, none⟩ = _ := (HW.out.cell (p := ⟨b4, o4 + m, none⟩) lt4).trans (HC4.out m hlt)
      obtain ⟨l1, l2⟩ := HVB.out m (by omega)
      obtain ⟨s1, s2⟩ := HJ.out m hm
      obtain ⟨s3, s4⟩ := HJ.out (m + 1) (by omega)
      obtain ⟨q1, q2, q3, q4⟩ := HPB.out m (by omega)
      have E1 : sumN js (m + 1) = sumN js m + js.getD m 0 := rfl
      have E2 : ptX ls js (m + 1) = ptX ls js m + rotX (ls.getD m 0) 0 (sumN js (m + 1)) := rfl
      have E3 : ptY ls js (m + 1) = ptY ls js m + rotY (ls.getD m 0) 0 (sumN js (m + 1)) := rfl
      obtain ⟨⟨v1, v2⟩, ⟨v3, v4⟩⟩ := vec_bd (sumN js (m + 1)) l1 l2
      rw [E1] at E2 E3 v1 v2 v3 v4 s3 s4
      have HE1 := Lib.hid E1
      have HE2 := Lib.hid E2
      have HE3 := Lib.hid E3
      clear E1 E2 E3
      generalize sumN js m = sk at *
      generalize js.getD m 0 = jk at *
      generalize ls.getD m 0 = l at *
      generalize lo.getD m 0 = o at *
      generalize hi.getD m 0 = h at *
      generalize ptX ls js m = px at *
      generalize ptY ls js m = py at *
      have Bb := below_box wr (.cells #[.int .i64 l, .int .i64 o, .int .i64 h] 84)
      have HX := Lib.hid (below_call HW.out Bb)
      have HOb := Lib.hid (HO.out.next Bb)
      have HRb := Lib.hid (HR.out.next Bb)
      obtain ⟨x0, x1, x2, x3, _, _, _⟩ := AtA.box wr (.int .i64 l) (.int .i64 o) (.int .i64 h) 84
      have HTb := Lib.hid (HT.out.below HX.out HT.out.lt)
      have d4b : (wr.alloc (.cells #[.int .i64 l, .int .i64 o, .int .i64 h] 84)).cell? ⟨b4, o4 + m, none⟩ = _ := (Bb.cell (p := ⟨b4, o4 + m, none⟩) (Nat.lt_of_lt_of_le lt4 HW.out.size)).trans d4
      have j1 : (0 : Int) ≤ (m : Int) := by omega
      have j2 : (m : Int) < (k : Int) := by omega
      have j3 : (m : Int) < (jl : Int) := by omega
      clear Bb
      go_wp2
      clear d1 d2 d3 d4 d4b
      generalize wr.alloc (.cells #[.int .i64 l, .int .i64 o, .int .i64 h] 84) = wb at *
      have gg : Below wb.heap.size wb wb := Below.refl _ _
      obtain ⟨⟨y0, y1, y2⟩, _, _⟩ := id HOb.out
      go_region_with (first
        | (go_at_call 94
           (with_reducible refine (vectorR l o h (sk + jk) wb _ (by repeat (first | (with_reducible assumption) | (with_reducible apply Below.drew))) HTb.out (by omega) (by omega)).mono ?_)
           rintro e w2 ⟨rfl, K2⟩
           have t1 := (K2.cell (p := ⟨w.heap.size + 1, 0, none⟩) y0).trans y1
           have t2 := (K2.cell (p := ⟨w.heap.size + 1, 1, none⟩) y0).trans y2)
        | (go_at_call 93
           (with_reducible refine (plusR px py (rotX l 0 (sk + jk)) (rotY l 0 (sk + jk)) wb _ (by repeat (first | (with_reducible assumption) | (with_reducible apply Below.drew))) (by omega) (by omega) (by omega) (by omega) (by omega) (by omega) (by omega) (by omega)).mono ?_)
           rintro e w3 ⟨rfl, K3⟩
           obtain ⟨⟨r0, r1, r2⟩, r3, r4⟩ := HOb.out.next K3)
        | fail)
      all_goals
        have HK := Lib.hid K3
        clear K2 K3 r0 r1 r2 r3 r4 t1 t2 y0 y1 y2 x0 x1 x2 x3
        go_wp2
        go_roundw
        case rel => exact ⟨m + 1, by omega, by rw [HE1.out], by congr 1, Lib.hid (by rw [HE2.out, HE3.out]; exact (HOb.out.next HK.out).puts _ _), Lib.hid ((HRb.out.next HK.out).row (row := some (w.heap.size + 1)) (grown_set2 _ _ _ _) (by simp)), Lib.hid (below_set (below_call HX.out HK.out) H1.out _ _)⟩
        case measure => simp [intOf]; omega
    · obtain rfl : m = k := by omega
      obtain ⟨⟨_, y1, y2⟩, _, _⟩ := id HO.out
      obtain ⟨⟨_, z1, z2⟩, z3, z4⟩ := id HR.out
      go_wp2
      exact bodyPost_ret (v := pt (ptX ls js m) (ptY ls js m)) (by simp [results, Tryd.results83, go_sem, z1, z2]) rfl ⟨rfl, below_set HW.out (Nat.le_refl _) _ _⟩
theorem made_pts0 (f : Nat → Int) (n : Nat) : (madeCells (pt 0 0).cells (n * 2)).toList = cpart f (fun _ => 0) (n * 2) (0 * 2) := by
  rw [made_pts (fun _ => 0) n rfl rfl]
  exact cpart_congr _ _ _ _ _ _ _ fun i _ => by simp
set_option maxHeartbeats 2000000 in
theorem pointsC (b cap : Nat) (j : Sl) (ls lo hi js : List Int) (w : World) (ht : TabAt w) (hc : ChainAt w b ls.length ls lo hi) (hok : okJoints ls lo hi js) (hj : IntsAt w j.a j.len js) (hcap : ls.length ≤ cap) :
    Calls Tryd.prog 71 #[.slice (some ⟨b, 0, none⟩) ls.length cap, .slice j.a j.len j.cap] w fun e w' => ∃ v, e = .returned v ∧ OwnPt w' w.heap.size v (ptsL ls js) ∧ Below w.heap.size w w' := by
  obtain ⟨i0, hi0, hz0, hz1, hz2⟩ := info_parts infoPoint
  obtain ⟨ja, jl, jc⟩ := j
  simp only at *
  have m4 := hj.1
  have n1 := hok.1.1
  have n2 := hok.1.2.1
  have e4 := hok.2.1
  have HJ := Lib.hid (fun k hk => dir_bd hok k hk)
  have HVB := Lib.hid (len_bd hok.1)
  have HM := Lib.hid (made_pts0 (cz (ptsL ls js)) (ls.length + 1))
  have HZ := Lib.hid (fun k (hk : k ≤ ls.length) => And.intro ((cz0 (ptsL ls js) k).trans (by rw [ptsL_at ls js k hk])) ((cz1 (ptsL ls js) k).trans (by rw [ptsL_at ls js k hk])))
  have HPS := Lib.hid (fun m => cpart_set (cz (ptsL ls js)) (fun _ => 0) ((ls.length + 1) * 2) m)
  have HFIN := Lib.hid (show cpart (cz (ptsL ls js)) (fun _ => 0) ((ls.length + 1) * 2) ((ls.length + 1) * 2) = pvals (ptsL ls js) by have h := pvals_cpart (ptsL ls js) (fun _ => 0); rw [ptsL_len] at h; exact h.symm)
  have HLEN := Lib.hid (ptsL_len ls js)
  obtain ⟨b4, o4, rfl, lt4, c4⟩ := hj.some (by omega)
  have HC4 := Lib.hid c4
  have HC := Lib.hid hc
  have HT := Lib.hid ht
  have HTIP := Lib.hid (fun (k : Nat) (hk : k ≤ ls.length) (u : World) (hu : Below w.heap.size w u) => tipC b cap b4 o4 ls.length jc k ls lo hi js u (HT.out.below hu HT.out.lt) (HC.out.next hu) HVB.out n2 hk (fun i hi => HJ.out i (by omega)) hk (Nat.lt_of_lt_of_le lt4 hu.size) (fun i hi => (hu.cell (p := ⟨b4, o4 + i, none⟩) lt4).trans (HC4.out i (by omega))))
  obtain rfl : jl = ls.length := by omega
  generalize ls.length = n at *
  clear m4 e4 hok hc hj ht c4 HJ HVB HC4 HC HT
  go_enter Tryd.func71, Tryd.ntmps71
  go_wp2_with (first
    | (at_make; refine wpList_make_full _ rfl _ _ 72 rfl w.heap.size 89 i0 (pt 0 0) 2 Tryd.underlying72 hi0 hz0 hz1 .i64 .i64 _ _ (n + 1) rfl rfl (by omega) (by omega) (by rw [hz2]; omega) (by unfold maxLen; omega) (Nat.le_refl _) ?_; intro w1 own1 grow1))
  have own2 : w1.ownsRow w.heap.size 89 2 (.slice (some ⟨w.heap.size, 0, none⟩) (n + 1) (n + 1)) (n + 1) (cpart (cz (ptsL ls js)) (fun _ => 0) ((n + 1) * 2) (0 * 2)) := by rw [← HM.out]; exact own1
  have HG : Below w.heap.size w w1 := (Below.refl _ _).grown grow1 (Nat.le_refl _) (fun k hk => by cases hk)
  clear own1 grow1
  go_loopw [13] (fun i wr => ∃ k : Nat, k ≤ n + 1 ∧ i = .int .i64 (k : Int) ∧ Hid (wr.ownsRow w.heap.size 89 2 (.slice (some ⟨w.heap.size, 0, none⟩) (n + 1) (n + 1)) (n + 1) (cpart (cz (ptsL ls js)) (fun _ => 0) ((n + 1) * 2) (k * 2))) ∧ Hid (Below w.heap.size w wr)) (fun i _ => n + 1 - (intOf i).toNat)
  case atStart => exact ⟨0, Nat.zero_le _, rfl, Lib.hid own2, Lib.hid HG⟩
  case round =>
    obtain ⟨k, hk, rfl, HO, HW⟩ := hrel
    clear own2 HG
    by_cases hlt : k < n + 1
    · have j1 : (0 : Int) ≤ (k : Int) := by omega
      have j2 : (k : Int) < ((n + 1 : Nat) : Int) := by omega
      have j3 : (k : Int) ≤ (cap : Int) := by omega
      have j4 : (k : Int) < (n : Int) + 1 := by omega
      have Z := HZ.out k (by omega)
      go_wp2_with fail
      refine (HTIP.out k (by omega) _ HW.out).mono ?_
      rintro e w2 ⟨rfl, K2⟩
      have HO2 := Lib.hid (World.ownsRow.kept (row := none) HO.out ⟨K2.os, K2.tape, K2.output, K2.size, fun k hk _ => K2.block k hk⟩ (.inr (by simp [Value.ownBlock])))
      have r1 := HO2.out.cellAt (k * 2) (by omega)
      rw [cpart_at _ _ _ _ _ (by omega)] at r1
      have r2 := HO2.out.frozenAt (k * 2)
      have r3 := HO2.out.cellAt (k * 2 + 1) (by omega)
      rw [cpart_at _ _ _ _ _ (by omega)] at r3
      have r4 := HO2.out.frozenAt (k * 2 + 1)
      have s5 := HO2.out.stored (k * 2) (.int .i64 (cz (ptsL ls js) (k * 2)))
      have s6 := s5.1.stored (k * 2 + 1) (.int .i64 (cz (ptsL ls js) (k * 2 + 1)))
      have HS := Lib.hid (And.intro s6.1 (s5.2.trans s6.2))
      rw [HPS.out, HPS.out, Z.1, Z.2] at HS
      have HW2 := Lib.hid (below_call HW.out K2)
      clear s5 s6 K2 Z
      go_wp2
      go_roundw
      case rel => exact ⟨k + 1, by omega, by congr 1, Lib.hid (by rw [show (k + 1) * 2 = k * 2 + 1 + 1 by omega]; exact HS.out.1), Lib.hid (HW2.out.grown HS.out.2 HW2.out.size (fun q hq => by injection hq with hq; omega))⟩
      case measure => simp [intOf]; omega
    · obtain rfl : k = n + 1 := by omega
      go_wp2
      go_ret
      refine ⟨_, rfl, ?_, HW.out⟩
      unfold OwnPt
      rw [← HFIN.out, HLEN.out]
      exact HO.out
end Go.Proofs.YtkogoflcacameaaDoor
