/- The points of an arm: the document's. -/
import Derived.Test.YtolkihibjabmhaaDoorPRow3
import Derived.Deep.AppendLies
import Derived.Outline
import Derived.Deep.DeepCutAuto
namespace Go.Proofs.YtolkihibjabmhaaDoor
set_option maxRecDepth 100000
open Go.RowKit
attribute [local go_sem ↓] Go.wp_at_zero Go.wp_at_succ
theorem pvals_snoc (ps : List (Int × Int)) (p : Int × Int) : pvals (ps ++ [p]) = pvals ps ++ [.int .i64 p.1, .int .i64 p.2] := by
  apply List.ext_getElem?
  intro j
  by_cases h : j < ps.length * 2
  · rw [List.getElem?_append_left (by rw [pvals_len]; exact h), pvals_at ps j h, pvals_at (ps ++ [p]) j (by simp only [List.length_append, List.length_singleton]; omega)]
    unfold cz
    rw [List.getD_eq_getElem?_getD, List.getD_eq_getElem?_getD, List.getElem?_append_left (by omega)]
  · by_cases h0 : j = ps.length * 2
    · subst h0
      rw [List.getElem?_append_right (by rw [pvals_len]; omega), pvals_len, pvals_at (ps ++ [p]) _ (by simp only [List.length_append, List.length_singleton]; omega), cz0, List.getD_eq_getElem?_getD, List.getElem?_append_right (by omega)]
      simp
    · by_cases h1 : j = ps.length * 2 + 1
      · subst h1
        rw [List.getElem?_append_right (by rw [pvals_len]; omega), pvals_len, pvals_at (ps ++ [p]) _ (by simp only [List.length_append, List.length_singleton]; omega), cz1, List.getD_eq_getElem?_getD, List.getElem?_append_right (by omega)]
        simp
      · rw [List.getElem?_eq_none (by rw [pvals_len]; simp; omega), List.getElem?_eq_none (by simp [pvals_len]; omega)]
theorem pvals_take (ps : List (Int × Int)) (k : Nat) (h : k < ps.length) : pvals (ps.take (k + 1)) = pvals (ps.take k) ++ [.int .i64 (ps.getD k (0, 0)).1, .int .i64 (ps.getD k (0, 0)).2] := by
  rw [List.take_succ_eq_append_getElem h, pvals_snoc, List.getD_eq_getElem?_getD, List.getElem?_eq_getElem h]
  rfl
theorem ptsL_one (ls js : List Int) : pvals ((ptsL ls js).take 1) = [.int .i64 0, .int .i64 0] := by
  have h := pvals_take (ptsL ls js) 0 (by rw [ptsL_len]; omega)
  rw [ptsL_at ls js 0 (by omega)] at h
  simpa [ptX, ptY, pvals] using h
theorem two_new (w : World) (a b : Value) (t : Nat) : ∀ (j : Nat) u, [a, b][j]? = some u → (w.alloc (.cells #[a, b] t)).cell? ((⟨w.heap.size, 0, none⟩ : Addr).add j) = some u := by
  intro j u hu
  have hj : j = 0 ∨ j = 1 := by
    have := (List.getElem?_eq_some_iff.1 hu).1
    simp at this; omega
  rcases hj with rfl | rfl
  · simp at hu; subst hu; simp [Addr.add]
  · simp at hu; subst hu; simp [Addr.add]
theorem OwnP.puts {w : World} {b : Nat} {x y : Int} (h : OwnP w b x y) (u v : Int) : OwnP ((w.setCell ⟨b, 0, none⟩ (.int .i64 u)).setCell ⟨b, 1, none⟩ (.int .i64 v)) b u v :=
  have h1 : (w.setCell ⟨b, 0, none⟩ (.int .i64 u)).cell? ⟨b, 1, none⟩ = some (.int .i64 y) := (World.cell?_setCell_other _ _ _ _ (by simp)).trans h.c1
  ⟨⟨by simpa [World.setCell] using h.lt, (World.cell?_setCell_other _ _ _ _ (by simp)).trans (World.cell?_setCell_same _ _ _ h.c0), World.cell?_setCell_same _ _ _ h1⟩, ((World.frozen?_setCell _ _ _ _).trans (World.frozen?_setCell _ _ _ _)).trans h.z0, ((World.frozen?_setCell _ _ _ _).trans (World.frozen?_setCell _ _ _ _)).trans h.z1⟩
theorem OwnP.row {w w' : World} {b : Nat} {x y : Int} {row : Option Nat} (h : OwnP w b x y) (hg : w.grownBy w' row) (hne : some b ≠ row) : OwnP w' b x y :=
  have e := hg.block b h.lt hne
  ⟨⟨Nat.lt_of_lt_of_le h.lt hg.size, (World.cell?_of_block (a := ⟨b, 0, none⟩) e).trans h.c0, (World.cell?_of_block (a := ⟨b, 1, none⟩) e).trans h.c1⟩, (World.frozen?_of_block (a := ⟨b, 0, none⟩) e).trans h.z0, (World.frozen?_of_block (a := ⟨b, 1, none⟩) e).trans h.z1⟩
theorem row_off {w : World} {B e size n c o : Nat} {v : Value} {xs : List Value} (h : w.ownsRow B e size v n xs) (hc : c < B) (u : Value) : (w.setCell ⟨c, o, none⟩ u).ownsRow B e size v n xs :=
  World.ownsRow.kept (row := some c) h ⟨rfl, rfl, rfl, by simp [World.setCell], fun k _ hk => Below.heap_setCell w _ _ k (by rintro rfl; exact hk rfl)⟩ (by
    rcases hv : v.ownBlock with _ | g
    · exact .inl rfl
    · refine .inr fun e => ?_
      injection e with e
      have := (World.ownsRow.lt h g hv).1
      omega)
set_option maxHeartbeats 2000000 in
theorem l3Points (x y z j : Sl) (ls lo hi js : List Int) (w : World) (hx : IntsAt w x.a x.len ls) (hj : IntsAt w j.a j.len js) (hok : okJoints ls lo hi js) :
    Calls Tryd.prog 59 #[av x y z, .slice j.a j.len j.cap] w fun e w' => ∃ v, e = .returned v ∧ OwnPt w' w.heap.size v (ptsL ls js) ∧ Below w.heap.size w w' := by
  obtain ⟨i0, hi0, hz0, hz1, hz2⟩ := info_parts infoPoint
  obtain ⟨xa, xl, xc⟩ := x
  obtain ⟨ya, yl, yc⟩ := y
  obtain ⟨za, zl, zc⟩ := z
  obtain ⟨ja, jl, jc⟩ := j
  simp only at *
  have m1 := hx.1
  have m4 := hj.1
  have n1 := hok.1.1
  have n2 := hok.1.2.1
  have e4 := hok.2.1
  have HJ := Lib.hid (fun k (hk : k ≤ jl) => dir_bd hok k (by omega))
  have HPB := Lib.hid (fun k (hk : k ≤ jl) => pt_bd ls js (len_bd hok.1) k (by omega))
  have HVB := Lib.hid (fun k (hk : k < jl) => len_bd hok.1 k (by omega))
  have HTK := Lib.hid (fun k (hk : k < jl) => (pvals_take (ptsL ls js) (k + 1) (by rw [ptsL_len]; omega)).trans (by rw [ptsL_at ls js (k + 1) (by omega)]))
  have HLEN := Lib.hid (show (ptsL ls js).length = jl + 1 by rw [ptsL_len]; omega)
  have HONE := Lib.hid (ptsL_one ls js)
  obtain ⟨b1, o1, rfl, lt1, c1⟩ := hx.some (by omega)
  obtain ⟨b4, o4, rfl, lt4, c4⟩ := hj.some (by omega)
  have HC1 := Lib.hid (fun k (hk : k < jl) => c1 k (by omega))
  have HC4 := Lib.hid c4
  have z4 : jl ≤ 4 := by omega
  obtain rfl : jl = xl := by omega
  have W3 := below_box3 w (.cells #[.slice (some ⟨b1, o1, none⟩) jl xc, .slice ya yl yc, .slice za zl zc] 25) (.cells #[.int .i64 0, .int .i64 0] 35) (.cells #[.int .i64 0, .int .i64 0] 35)
  have P := ((AtA.box w (.slice (some ⟨b1, o1, none⟩) jl xc) (.slice ya yl yc) (.slice za zl zc) 25).alloc (.cells #[.int .i64 0, .int .i64 0] 35)).alloc (.cells #[.int .i64 0, .int .i64 0] 35)
  have R := OwnP.box (w.alloc (.cells #[.slice (some ⟨b1, o1, none⟩) jl xc, .slice ya yl yc, .slice za zl zc] 25)) 0 0 35
  rw [show (w.alloc (.cells #[.slice (some ⟨b1, o1, none⟩) jl xc, .slice ya yl yc, .slice za zl zc] 25)).heap.size = w.heap.size + 1 by simp] at R
  replace R := R.next (below_box _ (.cells #[.int .i64 0, .int .i64 0] 35))
  have O : (((w.alloc (.cells #[.slice (some ⟨b1, o1, none⟩) jl xc, .slice ya yl yc, .slice za zl zc] 25)).alloc (.cells #[.int .i64 0, .int .i64 0] 35)).alloc (.cells #[.int .i64 0, .int .i64 0] 35)).ownsRow (w.heap.size + 2) 35 2 (.slice (some ⟨w.heap.size + 1 + 1, 0, none⟩) 1 1) 1 (pvals ((ptsL ls js).take 1)) := by
    have := World.ownsRow_lit (base := w.heap.size + 2) (e := 35) (size := 2) ((w.alloc (.cells #[.slice (some ⟨b1, o1, none⟩) jl xc, .slice ya yl yc, .slice za zl zc] 25)).alloc (.cells #[.int .i64 0, .int .i64 0] 35)) #[.int .i64 0, .int .i64 0] 1 (by simp) (by unfold maxLen; omega) rfl
    rw [HONE.out]
    simpa using this
  clear m1 m4 n1 n2 e4 hx hj hok c1 c4 HONE
  go_enter Tryd.func59, Tryd.ntmps59
  go_wp2
  generalize ((w.alloc (.cells #[.slice (some ⟨b1, o1, none⟩) jl xc, .slice ya yl yc, .slice za zl zc] 25)).alloc (.cells #[.int .i64 0, .int .i64 0] 35)).alloc (.cells #[.int .i64 0, .int .i64 0] 35) = u0 at *
  go_loopw [6, 7, 8] (fun d v i wr => ∃ k : Nat, k ≤ jl ∧ d = .int .i64 (sumN js k) ∧ i = .int .i64 (k : Int) ∧ Hid (wr.ownsRow (w.heap.size + 2) 35 2 v (k + 1) (pvals ((ptsL ls js).take (k + 1)))) ∧ Hid (Below w.heap.size w wr) ∧ Hid (AtA wr w.heap.size (.slice (some ⟨b1, o1, none⟩) jl xc) (.slice ya yl yc) (.slice za zl zc)) ∧ Hid (OwnP wr (w.heap.size + 1) (ptX ls js k) (ptY ls js k))) (fun _ _ i _ => jl - (intOf i).toNat)
  case atStart => exact ⟨0, Nat.zero_le _, rfl, rfl, Lib.hid O, Lib.hid W3, Lib.hid P, Lib.hid R⟩
  case round =>
    obtain ⟨k, hk, rfl, rfl, HO, HW, HP, HR⟩ := hrel
    clear O W3 P R
    by_cases hlt : k < jl
    · obtain ⟨_, a0, a1, a2, _, _, _⟩ := id HP.out
      have d4 : wr.cell? ⟨b4, o4 + k, none⟩ = _ := (HW.out.cell (p := ⟨b4, o4 + k, none⟩) lt4).trans (HC4.out k hlt)
      have d1 : wr.cell? ⟨b1, o1 + k, none⟩ = _ := (HW.out.cell (p := ⟨b1, o1 + k, none⟩) lt1).trans (HC1.out k hlt)
      obtain ⟨l1, l2⟩ := HVB.out k hlt
      obtain ⟨s1, s2⟩ := HJ.out k hk
      obtain ⟨s3, s4⟩ := HJ.out (k + 1) (by omega)
      obtain ⟨q1, q2, q3, q4⟩ := HPB.out k hk
      have E1 : sumN js (k + 1) = sumN js k + js.getD k 0 := rfl
      have E2 : ptX ls js (k + 1) = ptX ls js k + rotX (ls.getD k 0) 0 (sumN js (k + 1)) := rfl
      have E3 : ptY ls js (k + 1) = ptY ls js k + rotY (ls.getD k 0) 0 (sumN js (k + 1)) := rfl
      obtain ⟨⟨v1, v2⟩, ⟨v3, v4⟩⟩ := vec_bd (sumN js (k + 1)) l1 l2
      rw [E1] at E2 E3 v1 v2 v3 v4 s3 s4
      have HE1 := Lib.hid E1
      have HE2 := Lib.hid E2
      have HE3 := Lib.hid E3
      clear E1 E2 E3
      generalize sumN js k = sk at *
      generalize js.getD k 0 = jk at *
      generalize ls.getD k 0 = l at *
      generalize ptX ls js k = px at *
      generalize ptY ls js k = py at *
      have j1 : (0 : Int) ≤ (k : Int) := by omega
      have j2 : (k : Int) < (jl : Int) := by omega
      go_wp2_with fail
      refine (l2Turn l 0 (sk + jk) _ (okLen l1 l2) (by omega) (by omega)).mono ?_
      rintro e w4 ⟨rfl, B4⟩
      replace HP := Lib.hid (HP.out.next B4)
      replace HR := Lib.hid (HR.out.next B4)
      replace HO := Lib.hid (World.ownsRow.kept (row := none) HO.out ⟨B4.os, B4.tape, B4.output, B4.size, fun k hk _ => B4.block k hk⟩ (by cases Value.ownBlock _ <;> simp))
      replace HW := Lib.hid (below_call HW.out B4)
      clear a0 a1 a2 d1 d4 B4
      generalize rotX l 0 (sk + jk) = rx at *
      generalize rotY l 0 (sk + jk) = ry at *
      obtain ⟨⟨_, p0, p1⟩, z0, z1⟩ := id (HR.out.next (below_box w4 (.cells #[.int .i64 rx, .int .i64 ry] 35)))
      have hne : w4.heap.size ≠ w.heap.size + 1 := by have := HR.out.lt; omega
      go_upto_region 10 with fail
      have hPA : w.heap.size + 1 ≠ w.heap.size := by omega
      have hP1 : w.heap.size ≤ w.heap.size + 1 := by omega
      replace HP := Lib.hid (((HP.out.alloc (.cells #[.int .i64 rx, .int .i64 ry] 35)).far (c := w.heap.size + 1) (o := 0) hPA (.int .i64 (px + rx))).far (c := w.heap.size + 1) (o := 1) hPA (.int .i64 (py + ry)))
      replace HR := Lib.hid ((HR.out.next (below_box w4 (.cells #[.int .i64 rx, .int .i64 ry] 35))).puts (px + rx) (py + ry))
      replace HO := Lib.hid (row_off (c := w.heap.size + 1) (o := 1) (row_off (c := w.heap.size + 1) (o := 0) (HO.out.alloc (.cells #[.int .i64 rx, .int .i64 ry] 35)) (by omega) (.int .i64 (px + rx))) (by omega) (.int .i64 (py + ry)))
      replace HW := Lib.hid (((below_call HW.out (below_box w4 (.cells #[.int .i64 rx, .int .i64 ry] 35))).setCell (p := ⟨w.heap.size + 1, 0, none⟩) hP1 (.int .i64 (px + rx))).setCell (p := ⟨w.heap.size + 1, 1, none⟩) hP1 (.int .i64 (py + ry)))
      clear p0 p1 z0 z1
      generalize ((w4.alloc (.cells #[.int .i64 rx, .int .i64 ry] 35)).setCell ⟨w.heap.size + 1, 0, none⟩ (.int .i64 (px + rx))).setCell ⟨w.heap.size + 1, 1, none⟩ (.int .i64 (py + ry)) = u5 at *
      obtain ⟨⟨hu5, p0, p1⟩, z0, z1⟩ := id HR.out
      have HO6 := Lib.hid (HO.out.alloc (.cells #[.int .i64 (px + rx), .int .i64 (py + ry)] 35))
      have HN := Lib.hid (two_new u5 (.int .i64 (px + rx)) (.int .i64 (py + ry)) 35)
      have HH : Hid (w.heap.size + 2 ≤ (u5.alloc (.cells #[.int .i64 (px + rx), .int .i64 (py + ry)] 35)).heap.size) := Lib.hid (by simp; omega)
      have HRB := Lib.hid (fun q hq => (World.ownsRow.lt HO6.out q hq).1)
      go_wp2_with (at_builtin; refine wpList_append_lies _ rfl (.tmp 44) (.tmp 46) 28 rfl (w.heap.size + 2) 35 i0 (pt 0 0) 2 16 Tryd.underlying28 hi0 hz0 hz1 hz2 rfl (by decide) _ (k + 1) (pvals ((ptsL ls js).take (k + 1))) rfl HO6.out ⟨u5.heap.size, 0, none⟩ 1 1 [.int .i64 (px + rx), .int .i64 (py + ry)] rfl rfl HN.out (by intro u hu; simp at hu; rcases hu with rfl | rfl <;> rfl) (by omega) (by unfold maxLen; omega) (by omega) HH.out _ rfl ?_; intro g cap6 w7 own7 grow7 at7 ltg7; have HA7 := Lib.hid (And.intro own7 grow7); clear own7 grow7 at7 ltg7)
      have HO7 := Lib.hid HA7.out.1
      rw [← HE2.out, ← HE3.out, ← HTK.out k hlt] at HO7
      have HW7 := Lib.hid ((below_call HW.out (below_box u5 (.cells #[.int .i64 (px + rx), .int .i64 (py + ry)] 35))).grown HA7.out.2 (below_call HW.out (below_box u5 (.cells #[.int .i64 (px + rx), .int .i64 (py + ry)] 35))).size (fun q hq => by have := HRB.out q hq; omega))
      have HP7 := Lib.hid ((HP.out.alloc (.cells #[.int .i64 (px + rx), .int .i64 (py + ry)] 35)).kept HA7.out.2 (fun e => by have := HRB.out _ e.symm; omega))
      have HR7 := Lib.hid ((HR.out.next (below_box u5 (.cells #[.int .i64 (px + rx), .int .i64 (py + ry)] 35))).row HA7.out.2 (fun e => by have := HRB.out _ e.symm; omega))
      rw [← HE2.out, ← HE3.out] at HR7
      go_roundw
      case rel => exact ⟨k + 1, by omega, by rw [HE1.out], by congr 1, HO7, HW7, HP7, HR7⟩
      case measure => simp [intOf]; omega
    · obtain rfl : k = jl := by omega
      go_wp2
      go_ret
      refine ⟨_, rfl, ?_, HW.out⟩
      have o := HO.out
      rw [List.take_of_length_le (by rw [HLEN.out]; omega)] at o
      unfold OwnPt
      rw [HLEN.out]
      exact World.ownsRow_down o (by omega)
end Go.Proofs.YtolkihibjabmhaaDoor
