/- slices.Reverse over a row of cells of the call's own. -/
import Derived.Test.YtkogoflcacameaaIm11b
namespace Go.Proofs.Ytkogoflcacameaa
set_option maxRecDepth 100000
open Go.RowKit
attribute [local go_sem ↓] Go.wp_at_zero Go.wp_at_succ
/-- The first i cells and the last i are exchanged. -/
def revTo (L : List C2) (i : Nat) : List C2 := (List.range L.length).map fun q => if q < i ∨ L.length - 1 - q < i then L.getD (L.length - 1 - q) (0, 0) else L.getD q (0, 0)
theorem revTo_len (L : List C2) (i : Nat) : (revTo L i).length = L.length := by simp [revTo]
theorem revTo_at (L : List C2) (i q : Nat) (h : q < L.length) : (revTo L i)[q]? = some (if q < i ∨ L.length - 1 - q < i then L.getD (L.length - 1 - q) (0, 0) else L.getD q (0, 0)) := by
  unfold revTo; rw [List.getElem?_map, List.getElem?_range h]; rfl
theorem revTo_zero (L : List C2) : revTo L 0 = L := by
  apply List.ext_getElem?
  intro q
  by_cases h : q < L.length
  · rw [revTo_at L 0 q h, if_neg (by omega), List.getD_eq_getElem?_getD, List.getElem?_eq_getElem h]; rfl
  · rw [List.getElem?_eq_none (by rw [revTo_len]; omega), List.getElem?_eq_none (by omega)]
theorem revTo_all (L : List C2) (i : Nat) (h : L.length ≤ 2 * i + 1) : revTo L i = L.reverse := by
  apply List.ext_getElem?
  intro q
  by_cases hq : q < L.length
  · rw [revTo_at L i q hq, List.getElem?_reverse hq]
    have e : (if q < i ∨ L.length - 1 - q < i then L.getD (L.length - 1 - q) (0, 0) else L.getD q (0, 0)) = L.getD (L.length - 1 - q) (0, 0) := by
      split
      · rfl
      · rw [show L.length - 1 - q = q by omega]
    rw [e, List.getD_eq_getElem?_getD, List.getElem?_eq_getElem (show L.length - 1 - q < L.length by omega)]; rfl
  · rw [List.getElem?_eq_none (by rw [revTo_len]; omega), List.getElem?_eq_none (by simp; omega)]
theorem revTo_get (L : List C2) (i q : Nat) (h : q < L.length) (hq : ¬ q < i) (hq2 : ¬ L.length - 1 - q < i) : (revTo L i).getD q (0, 0) = L.getD q (0, 0) := by
  rw [List.getD_eq_getElem?_getD, revTo_at L i q h, if_neg (by omega)]; rfl
theorem revTo_step (L : List C2) (i j : Nat) (h : i + j + 1 = L.length) (hij : i < j) : ((revTo L i).set i ((revTo L i).getD j (0, 0))).set j ((revTo L i).getD i (0, 0)) = revTo L (i + 1) := by
  rw [revTo_get L i j (by omega) (by omega) (by omega), revTo_get L i i (by omega) (by omega) (by omega)]
  apply List.ext_getElem?
  intro q
  by_cases hq : q < L.length
  · rw [revTo_at L (i + 1) q hq, List.getElem?_set]
    by_cases e : j = q
    · subst e
      rw [if_pos rfl, if_pos (by rw [List.length_set, revTo_len]; exact hq), if_pos (by omega), show L.length - 1 - j = i by omega]
    · rw [if_neg e, List.getElem?_set]
      by_cases e2 : i = q
      · subst e2
        rw [if_pos rfl, if_pos (by rw [revTo_len]; exact hq), if_pos (by omega), show L.length - 1 - i = j by omega]
      · rw [if_neg e2, revTo_at L i q hq]
        congr 1
        by_cases c : q < i ∨ L.length - 1 - q < i
        · rw [if_pos c, if_pos (by omega)]
        · rw [if_neg c, if_neg (by omega)]
  · rw [List.getElem?_eq_none (by rw [List.length_set, List.length_set, revTo_len]; omega), List.getElem?_eq_none (by rw [revTo_len]; omega)]
theorem Cel.pvals_set (L : List C2) (i : Nat) (c : C2) (h : i < L.length) : ((Cel.pvals L).set (i * 2) (.int .i64 c.1)).set (i * 2 + 1) (.int .i64 c.2) = Cel.pvals (L.set i c) := by
  apply List.ext_getElem?
  intro q
  by_cases hq : q < L.length * 2
  · rw [Cel.pvals_at _ q (by rw [List.length_set]; exact hq), List.getElem?_set]
    have hl : (Cel.pvals L).length = L.length * 2 := Cel.pvals_len L
    by_cases e : i * 2 + 1 = q
    · subst e
      rw [if_pos rfl, if_pos (by rw [List.length_set, hl]; exact hq), Cel.cz1, List.getD_eq_getElem?_getD, List.getElem?_set_self h]; rfl
    · rw [if_neg e, List.getElem?_set]
      by_cases e2 : i * 2 = q
      · subst e2
        rw [if_pos rfl, if_pos (by rw [hl]; exact hq), Cel.cz0, List.getD_eq_getElem?_getD, List.getElem?_set_self h]; rfl
      · rw [if_neg e2, Cel.pvals_at _ q hq]
        congr 2
        unfold Cel.cz
        rw [List.getD_eq_getElem?_getD, List.getD_eq_getElem?_getD, List.getElem?_set_ne (by omega)]
  · rw [List.getElem?_eq_none (by rw [List.length_set, List.length_set, Cel.pvals_len]; omega), List.getElem?_eq_none (by rw [Cel.pvals_len, List.length_set]; omega)]
section
variable {w u : World} {B g n cap : Nat} {L : List C2}
theorem Cel.OwnPt.at_ (h : Cel.OwnPt w B (.slice (some ⟨g, 0, none⟩) n cap) L) (hn : n = L.length) (i : Nat) (hi : i < n) : w.cell? ⟨g, i * 2, none⟩ = some (.int .i64 (L.getD i (0, 0)).1) ∧ w.cell? ⟨g, i * 2 + 1, none⟩ = some (.int .i64 (L.getD i (0, 0)).2) := by
  subst hn
  exact ⟨by rw [World.ownsRow.cellAt h (i * 2) (by omega), Cel.pvals_at _ _ (by omega), Cel.cz0], by rw [World.ownsRow.cellAt h (i * 2 + 1) (by omega), Cel.pvals_at _ _ (by omega), Cel.cz1]⟩
theorem Cel.OwnPt.free (h : Cel.OwnPt w B (.slice (some ⟨g, 0, none⟩) n cap) L) (hn : n = L.length) (i : Nat) : w.frozen? ⟨g, i, none⟩ = false := by
  subst hn
  exact World.ownsRow.frozenAt h i
theorem Cel.OwnPt.put (h : Cel.OwnPt w B (.slice (some ⟨g, 0, none⟩) n cap) L) (hn : n = L.length) (i : Nat) (hi : i < n) (c : C2) : Cel.OwnPt ((w.setCell ⟨g, i * 2, none⟩ (.int .i64 c.1)).setCell ⟨g, i * 2 + 1, none⟩ (.int .i64 c.2)) B (.slice (some ⟨g, 0, none⟩) n cap) (L.set i c) ∧ w.grownBy ((w.setCell ⟨g, i * 2, none⟩ (.int .i64 c.1)).setCell ⟨g, i * 2 + 1, none⟩ (.int .i64 c.2)) (some g) := by
  subst hn
  have s1 := World.ownsRow.stored h (i * 2) (.int .i64 c.1)
  have s2 := World.ownsRow.stored s1.1 (i * 2 + 1) (.int .i64 c.2)
  refine ⟨?_, s1.2.trans s2.2⟩
  unfold Cel.OwnPt
  rw [List.length_set, ← Cel.pvals_set L i c hi]
  exact s2.1
end
set_option maxHeartbeats 4000000 in
theorem reverseC (g n cap B : Nat) (L : List C2) (w : World) (h : Cel.OwnPt w B (.slice (some ⟨g, 0, none⟩) n cap) L) (hn : n = L.length) (h1 : 1 ≤ n) (hl : n ≤ 1048576) :
    Calls Try.prog 63 #[.slice (some ⟨g, 0, none⟩) n cap] w fun e w' => e = .returned (.tuple #[]) ∧ Cel.OwnPt w' B (.slice (some ⟨g, 0, none⟩) n cap) L.reverse ∧ w.grownBy w' (some g) := by
  have HN := Lib.hid hn
  have HO := Lib.hid h
  have o1 : IntKind.i64.wrap ((n : Int) - 1) = (n : Int) - 1 := wrap_in (by omega) (by omega)
  clear h hn
  go_enter Try.func63, Try.ntmps63
  go_wp2
  go_loopw [2, 3] (fun iv jv wr => ∃ (i : Nat) (jz : Int), iv = .int .i64 (i : Int) ∧ jv = .int .i64 jz ∧ jz = (n : Int) - 1 - (i : Int) ∧ i ≤ n ∧ Hid (Cel.OwnPt wr B (.slice (some ⟨g, 0, none⟩) n cap) (revTo L i)) ∧ Hid (w.grownBy wr (some g))) (fun iv _ _ => n - (intOf iv).toNat)
  case atStart => exact ⟨0, _, rfl, rfl, by omega, by omega, Lib.hid (by rw [revTo_zero]; exact HO.out), Lib.hid (World.grownBy.refl _ _)⟩
  case round =>
    obtain ⟨i, jz, rfl, rfl, hjz, hi, HO2, HG⟩ := hrel
    clear HO
    by_cases hlt : 2 * i + 1 < n
    · obtain ⟨j, hj⟩ : ∃ j : Nat, i + j + 1 = n := ⟨n - 1 - i, by omega⟩
      obtain rfl : jz = (j : Int) := by omega
      have hij : i < j := by omega
      have q0 : (i : Int) < (j : Int) := by omega
      have q1 : (0 : Int) ≤ (i : Int) := by omega
      have q2 : (0 : Int) ≤ (j : Int) := by omega
      have q3 : (i : Int) < (n : Int) := by omega
      have q4 : (j : Int) < (n : Int) := by omega
      have o3 : IntKind.i64.wrap ((i : Int) + 1) = (i : Int) + 1 := wrap_in (by omega) (by omega)
      have o4 : IntKind.i64.wrap ((j : Int) - 1) = (j : Int) - 1 := wrap_in (by omega) (by omega)
      have HJ := Lib.hid (And.intro hj (And.intro hlt hij))
      clear hj hjz hlt
      go_upto_region 3 with fail
      obtain ⟨M, hM⟩ : ∃ M, revTo L i = M := ⟨_, rfl⟩
      obtain ⟨c, hc⟩ : ∃ c, M.getD j (0, 0) = c := ⟨_, rfl⟩
      obtain ⟨d, hd0⟩ : ∃ d, M.getD i (0, 0) = d := ⟨_, rfl⟩
      have HST := Lib.hid (show (M.set i c).set j d = revTo L (i + 1) by rw [← hc, ← hd0, ← hM]; exact revTo_step L i j (by have := HN.out; have := HJ.out.1; omega) hij)
      have HML := Lib.hid (show n = M.length by rw [← hM, revTo_len]; exact HN.out)
      rw [hM] at HO2
      have HC := Lib.hid (And.intro hc hd0)
      clear hM hc hd0
      have hin : i < n := by have := HJ.out.1; omega
      have hjn : j < n := by have := HJ.out.1; omega
      have HOd := Lib.hid (HO2.out.next ((Below.refl _ _).drew))
      have HGd := Lib.hid (HG.out.trans (show wr.grownBy wr.drew (some g) from have h : Below wr.heap.size wr wr.drew := (Below.refl _ _).drew; ⟨h.os, h.tape, h.output, h.size, fun k hk _ => h.block k hk⟩))
      refine wp_region_inv (fun listed act u => ∃ (l0 l1 l2 l3 l4 l5 l6 l7 l8 l9 l10 l11 l12 l13 l14 l15 : Bool) (v14 v15 v16 v17 v18 v19 v20 v21 v22 v23 v24 v25 v26 v27 : Value), listed = #[l0, l1, l2, l3, l4, l5, l6, l7, l8, l9, l10, l11, l12, l13, l14, l15] ∧ act = { tmps := #[.slice (some ⟨g, 0, none⟩) n cap, undef, .int .i64 (i : Int), .int .i64 (j : Int), .slice (some ⟨g, 0, none⟩) n cap, .int .i64 (n : Int), .int .i64 ((n : Int) - 1), .int .i64 (i : Int), .int .i64 (j : Int), .bool true, u10, u11, u12, u13, v14, v15, v16, v17, v18, v19, v20, v21, v22, v23, v24, v25, v26, v27], defers := [] } ∧ (l0 = true → v14 = .slice (some ⟨g, 0, none⟩) n cap) ∧ (l1 = true → v15 = .int .i64 (i : Int)) ∧ (l2 = true → v16 = .slice (some ⟨g, 0, none⟩) n cap) ∧ (l3 = true → v17 = .int .i64 (j : Int)) ∧ (l4 = true → v18 = .slice (some ⟨g, 0, none⟩) n cap) ∧ (l5 = true → v19 = .int .i64 (j : Int)) ∧ (l6 = true → v20 = .pointer (some ⟨g, j * 2, none⟩)) ∧ (l7 = true → v21 = pt c.1 c.2) ∧ (l8 = true → v22 = .slice (some ⟨g, 0, none⟩) n cap) ∧ (l9 = true → v23 = .int .i64 (i : Int)) ∧ (l10 = true → v24 = .pointer (some ⟨g, i * 2, none⟩)) ∧ (l11 = true → v25 = pt d.1 d.2) ∧ (l12 = true → v26 = .pointer (some ⟨g, i * 2, none⟩)) ∧ (l14 = true → v27 = .pointer (some ⟨g, j * 2, none⟩)) ∧ (l13 = true → l7 = true ∧ l11 = true) ∧ (l15 = true → l13 = true) ∧ Cel.OwnPt u B (.slice (some ⟨g, 0, none⟩) n cap) (if l15 = true then (M.set i c).set j d else if l13 = true then M.set i c else M) ∧ Hid (w.grownBy u (some g))) (by kernel_rfl) ?_ ?_ ?_ ?_ ?_
      · intro j o ho
        have hj : j < 16 := by rcases Nat.lt_or_ge j 16 with h | h; exact h; rw [Array.getElem?_eq_none (by simpa using h)] at ho; cases ho
        have hj2 : j = 0 ∨ j = 1 ∨ j = 2 ∨ j = 3 ∨ j = 4 ∨ j = 5 ∨ j = 6 ∨ j = 7 ∨ j = 8 ∨ j = 9 ∨ j = 10 ∨ j = 11 ∨ j = 12 ∨ j = 13 ∨ j = 14 ∨ j = 15 := by omega
        rcases hj2 with rfl | rfl | rfl | rfl | rfl | rfl | rfl | rfl | rfl | rfl | rfl | rfl | rfl | rfl | rfl | rfl
        all_goals
          cases ho
          decide
      · rintro listed act u ⟨l0, l1, l2, l3, l4, l5, l6, l7, l8, l9, l10, l11, l12, l13, l14, l15, v14, v15, v16, v17, v18, v19, v20, v21, v22, v23, v24, v25, v26, v27, rfl, _⟩
        rfl
      · exact ⟨false, false, false, false, false, false, false, false, false, false, false, false, false, false, false, false, u14, u15, u16, u17, u18, u19, u20, u21, u22, u23, u24, u25, u26, u27, rfl, rfl, (by intro h; cases h), (by intro h; cases h), (by intro h; cases h), (by intro h; cases h), (by intro h; cases h), (by intro h; cases h), (by intro h; cases h), (by intro h; cases h), (by intro h; cases h), (by intro h; cases h), (by intro h; cases h), (by intro h; cases h), (by intro h; cases h), (by intro h; cases h), (by intro h; cases h), (by intro h; cases h), by rw [if_neg Bool.false_ne_true, if_neg Bool.false_ne_true]; exact HOd.out, HGd⟩
      · intro listed act u q o hR ho hl hd
        obtain ⟨l0, l1, l2, l3, l4, l5, l6, l7, l8, l9, l10, l11, l12, l13, l14, l15, v14, v15, v16, v17, v18, v19, v20, v21, v22, v23, v24, v25, v26, v27, rfl, rfl, c0, c1, c2, c3, c4, c5, c6, c7, c8, c9, c10, c11, c12, c14, c13, c15, HO, HG⟩ := hR
        have hi : q < 16 := by rcases Nat.lt_or_ge q 16 with h | h; exact h; rw [Array.getElem?_eq_none (by simpa using h)] at ho; cases ho
        have hi2 : q = 0 ∨ q = 1 ∨ q = 2 ∨ q = 3 ∨ q = 4 ∨ q = 5 ∨ q = 6 ∨ q = 7 ∨ q = 8 ∨ q = 9 ∨ q = 10 ∨ q = 11 ∨ q = 12 ∨ q = 13 ∨ q = 14 ∨ q = 15 := by omega
        rcases hi2 with rfl | rfl | rfl | rfl | rfl | rfl | rfl | rfl | rfl | rfl | rfl | rfl | rfl | rfl | rfl | rfl
        all_goals (cases ho)
        · refine wpOp_step rfl (fun K hK => ?_)
          go_simp
          refine hK _ _ ?_
          exact ⟨true, l1, l2, l3, l4, l5, l6, l7, l8, l9, l10, l11, l12, l13, l14, l15, _, _, _, _, _, _, _, _, _, _, _, _, _, _, rfl, rfl, fun _ => rfl, c1, c2, c3, c4, c5, c6, c7, c8, c9, c10, c11, c12, c14, c13, c15, HO, HG⟩
        · refine wpOp_step rfl (fun K hK => ?_)
          go_simp
          refine hK _ _ ?_
          exact ⟨l0, true, l2, l3, l4, l5, l6, l7, l8, l9, l10, l11, l12, l13, l14, l15, _, _, _, _, _, _, _, _, _, _, _, _, _, _, rfl, rfl, c0, fun _ => rfl, c2, c3, c4, c5, c6, c7, c8, c9, c10, c11, c12, c14, c13, c15, HO, HG⟩
        · refine wpOp_step rfl (fun K hK => ?_)
          go_simp
          refine hK _ _ ?_
          exact ⟨l0, l1, true, l3, l4, l5, l6, l7, l8, l9, l10, l11, l12, l13, l14, l15, _, _, _, _, _, _, _, _, _, _, _, _, _, _, rfl, rfl, c0, c1, fun _ => rfl, c3, c4, c5, c6, c7, c8, c9, c10, c11, c12, c14, c13, c15, HO, HG⟩
        · refine wpOp_step rfl (fun K hK => ?_)
          go_simp
          refine hK _ _ ?_
          exact ⟨l0, l1, l2, true, l4, l5, l6, l7, l8, l9, l10, l11, l12, l13, l14, l15, _, _, _, _, _, _, _, _, _, _, _, _, _, _, rfl, rfl, c0, c1, c2, fun _ => rfl, c4, c5, c6, c7, c8, c9, c10, c11, c12, c14, c13, c15, HO, HG⟩
        · refine wpOp_step rfl (fun K hK => ?_)
          go_simp
          refine hK _ _ ?_
          exact ⟨l0, l1, l2, l3, true, l5, l6, l7, l8, l9, l10, l11, l12, l13, l14, l15, _, _, _, _, _, _, _, _, _, _, _, _, _, _, rfl, rfl, c0, c1, c2, c3, fun _ => rfl, c5, c6, c7, c8, c9, c10, c11, c12, c14, c13, c15, HO, HG⟩
        · refine wpOp_step rfl (fun K hK => ?_)
          go_simp
          refine hK _ _ ?_
          exact ⟨l0, l1, l2, l3, l4, true, l6, l7, l8, l9, l10, l11, l12, l13, l14, l15, _, _, _, _, _, _, _, _, _, _, _, _, _, _, rfl, rfl, c0, c1, c2, c3, c4, fun _ => rfl, c6, c7, c8, c9, c10, c11, c12, c14, c13, c15, HO, HG⟩
        · obtain rfl := c4 (hd { on := 4, ground := Ground.data } (by simp) rfl)
          obtain rfl := c5 (hd { on := 5, ground := Ground.data } (by simp) rfl)
          refine wpOp_step rfl (fun K hK => ?_)
          go_simp
          refine hK _ _ ?_
          exact ⟨l0, l1, l2, l3, l4, l5, true, l7, l8, l9, l10, l11, l12, l13, l14, l15, _, _, _, _, _, _, _, _, _, _, _, _, _, _, rfl, rfl, c0, c1, c2, c3, c4, c5, fun _ => rfl, c7, c8, c9, c10, c11, c12, c14, c13, c15, HO, HG⟩
        · obtain rfl := c6 (hd { on := 6, ground := Ground.data } (by simp) rfl)
          have e13 : l13 = false := by cases h : l13 with | false => rfl | true => exact absurd (c13 h).1 (by rw [show l7 = false from hl]; exact Bool.false_ne_true)
          subst e13
          have e15 : l15 = false := by cases h : l15 with | false => rfl | true => exact absurd (c15 h) Bool.false_ne_true
          subst e15
          rw [if_neg Bool.false_ne_true, if_neg Bool.false_ne_true] at HO
          have k0 := (HO.at_ HML.out j hjn).1
          have k1 := (HO.at_ HML.out j hjn).2
          rw [HC.out.1] at k0 k1
          refine wpOp_step rfl (fun K hK => ?_)
          go_simp
          refine hK _ _ ?_
          exact ⟨l0, l1, l2, l3, l4, l5, l6, true, l8, l9, l10, l11, l12, false, l14, false, _, _, _, _, _, _, _, _, _, _, _, _, _, _, rfl, rfl, c0, c1, c2, c3, c4, c5, c6, fun _ => rfl, c8, c9, c10, c11, c12, c14, fun h => absurd h Bool.false_ne_true, fun h => absurd h Bool.false_ne_true, by rw [if_neg Bool.false_ne_true, if_neg Bool.false_ne_true]; exact HO, HG⟩
        · refine wpOp_step rfl (fun K hK => ?_)
          go_simp
          refine hK _ _ ?_
          exact ⟨l0, l1, l2, l3, l4, l5, l6, l7, true, l9, l10, l11, l12, l13, l14, l15, _, _, _, _, _, _, _, _, _, _, _, _, _, _, rfl, rfl, c0, c1, c2, c3, c4, c5, c6, c7, fun _ => rfl, c9, c10, c11, c12, c14, c13, c15, HO, HG⟩
        · refine wpOp_step rfl (fun K hK => ?_)
          go_simp
          refine hK _ _ ?_
          exact ⟨l0, l1, l2, l3, l4, l5, l6, l7, l8, true, l10, l11, l12, l13, l14, l15, _, _, _, _, _, _, _, _, _, _, _, _, _, _, rfl, rfl, c0, c1, c2, c3, c4, c5, c6, c7, c8, fun _ => rfl, c10, c11, c12, c14, c13, c15, HO, HG⟩
        · obtain rfl := c8 (hd { on := 8, ground := Ground.data } (by simp) rfl)
          obtain rfl := c9 (hd { on := 9, ground := Ground.data } (by simp) rfl)
          refine wpOp_step rfl (fun K hK => ?_)
          go_simp
          refine hK _ _ ?_
          exact ⟨l0, l1, l2, l3, l4, l5, l6, l7, l8, l9, true, l11, l12, l13, l14, l15, _, _, _, _, _, _, _, _, _, _, _, _, _, _, rfl, rfl, c0, c1, c2, c3, c4, c5, c6, c7, c8, c9, fun _ => rfl, c11, c12, c14, c13, c15, HO, HG⟩
        · obtain rfl := c10 (hd { on := 10, ground := Ground.data } (by simp) rfl)
          have e13 : l13 = false := by cases h : l13 with | false => rfl | true => exact absurd (c13 h).2 (by rw [show l11 = false from hl]; exact Bool.false_ne_true)
          subst e13
          have e15 : l15 = false := by cases h : l15 with | false => rfl | true => exact absurd (c15 h) Bool.false_ne_true
          subst e15
          rw [if_neg Bool.false_ne_true, if_neg Bool.false_ne_true] at HO
          have k0 := (HO.at_ HML.out i hin).1
          have k1 := (HO.at_ HML.out i hin).2
          rw [HC.out.2] at k0 k1
          refine wpOp_step rfl (fun K hK => ?_)
          go_simp
          refine hK _ _ ?_
          exact ⟨l0, l1, l2, l3, l4, l5, l6, l7, l8, l9, l10, true, l12, false, l14, false, _, _, _, _, _, _, _, _, _, _, _, _, _, _, rfl, rfl, c0, c1, c2, c3, c4, c5, c6, c7, c8, c9, c10, fun _ => rfl, c12, c14, fun h => absurd h Bool.false_ne_true, fun h => absurd h Bool.false_ne_true, by rw [if_neg Bool.false_ne_true, if_neg Bool.false_ne_true]; exact HO, HG⟩
        · obtain rfl := c0 (hd { on := 0, ground := Ground.data } (by simp) rfl)
          obtain rfl := c1 (hd { on := 1, ground := Ground.data } (by simp) rfl)
          refine wpOp_step rfl (fun K hK => ?_)
          go_simp
          refine hK _ _ ?_
          exact ⟨l0, l1, l2, l3, l4, l5, l6, l7, l8, l9, l10, l11, true, l13, l14, l15, _, _, _, _, _, _, _, _, _, _, _, _, _, _, rfl, rfl, c0, c1, c2, c3, c4, c5, c6, c7, c8, c9, c10, c11, fun _ => rfl, c14, c13, c15, HO, HG⟩
        · obtain rfl := c12 (hd { on := 12, ground := Ground.data } (by simp) rfl)
          obtain rfl := c7 (hd { on := 7, ground := Ground.data } (by simp) rfl)
          obtain rfl : l13 = false := hl
          have e15 : l15 = false := by cases h : l15 with | false => rfl | true => exact absurd (c15 h) Bool.false_ne_true
          subst e15
          rw [if_neg Bool.false_ne_true, if_neg Bool.false_ne_true] at HO
          have k0 := (HO.at_ HML.out i hin).1
          have k1 := (HO.at_ HML.out i hin).2
          have f0 := HO.free HML.out (i * 2)
          have f1 := HO.free HML.out (i * 2 + 1)
          refine wpOp_step rfl (fun K hK => ?_)
          go_simp
          refine hK _ _ ?_
          exact ⟨l0, l1, l2, l3, l4, l5, l6, l7, l8, l9, l10, l11, l12, true, l14, false, _, _, _, _, _, _, _, _, _, _, _, _, _, _, rfl, rfl, c0, c1, c2, c3, c4, c5, c6, c7, c8, c9, c10, c11, c12, c14, fun _ => ⟨(hd { on := 7, ground := Ground.data } (by simp) rfl), (hd { on := 11, ground := Ground.phase } (by simp) rfl)⟩, fun h => absurd h Bool.false_ne_true, by rw [if_neg Bool.false_ne_true, if_pos rfl]; exact (HO.put HML.out i hin c).1, Lib.hid (HG.out.trans (HO.put HML.out i hin c).2)⟩
        · obtain rfl := c2 (hd { on := 2, ground := Ground.data } (by simp) rfl)
          obtain rfl := c3 (hd { on := 3, ground := Ground.data } (by simp) rfl)
          refine wpOp_step rfl (fun K hK => ?_)
          go_simp
          refine hK _ _ ?_
          exact ⟨l0, l1, l2, l3, l4, l5, l6, l7, l8, l9, l10, l11, l12, l13, true, l15, _, _, _, _, _, _, _, _, _, _, _, _, _, _, rfl, rfl, c0, c1, c2, c3, c4, c5, c6, c7, c8, c9, c10, c11, c12, fun _ => rfl, c13, c15, HO, HG⟩
        · obtain rfl := c14 (hd { on := 14, ground := Ground.data } (by simp) rfl)
          obtain rfl := c11 (hd { on := 11, ground := Ground.data } (by simp) rfl)
          obtain rfl : l15 = false := hl
          have e13 : l13 = true := (hd { on := 13, ground := Ground.chain } (by simp) rfl)
          rw [if_neg Bool.false_ne_true, if_pos e13] at HO
          obtain rfl := c7 (c13 e13).1
          have hnl := Lib.hid (show n = (M.set i c).length by rw [List.length_set]; exact HML.out)
          have k0 := (HO.at_ hnl.out j hjn).1
          have k1 := (HO.at_ hnl.out j hjn).2
          have f0 := HO.free hnl.out (j * 2)
          have f1 := HO.free hnl.out (j * 2 + 1)
          refine wpOp_step rfl (fun K hK => ?_)
          go_simp
          refine hK _ _ ?_
          exact ⟨l0, l1, l2, l3, l4, l5, l6, l7, l8, l9, l10, l11, l12, l13, l14, true, _, _, _, _, _, _, _, _, _, _, _, _, _, _, rfl, rfl, c0, c1, c2, c3, c4, c5, c6, fun _ => rfl, c8, c9, c10, c11, c12, c14, c13, fun _ => e13, by rw [if_pos rfl]; exact (HO.put hnl.out j hjn d).1, Lib.hid (HG.out.trans (HO.put hnl.out j hjn d).2)⟩
      · rintro listed act u ⟨l0, l1, l2, l3, l4, l5, l6, l7, l8, l9, l10, l11, l12, l13, l14, l15, v14, v15, v16, v17, v18, v19, v20, v21, v22, v23, v24, v25, v26, v27, rfl, rfl, c0, c1, c2, c3, c4, c5, c6, c7, c8, c9, c10, c11, c12, c14, c13, c15, HO, HG⟩ hall
        obtain rfl := c0 (hall 0 (by decide))
        obtain rfl := c1 (hall 1 (by decide))
        obtain rfl := c2 (hall 2 (by decide))
        obtain rfl := c3 (hall 3 (by decide))
        obtain rfl := c4 (hall 4 (by decide))
        obtain rfl := c5 (hall 5 (by decide))
        obtain rfl := c6 (hall 6 (by decide))
        obtain rfl := c7 (hall 7 (by decide))
        obtain rfl := c8 (hall 8 (by decide))
        obtain rfl := c9 (hall 9 (by decide))
        obtain rfl := c10 (hall 10 (by decide))
        obtain rfl := c11 (hall 11 (by decide))
        obtain rfl := c12 (hall 12 (by decide))
        obtain rfl := c14 (hall 14 (by decide))
        rw [if_pos (show l15 = true from hall 15 (by decide))] at HO
        have HOu := HO
        have HGu := HG
        clear HO c0 c1 c2 c3 c4 c5 c6 c7 c8 c9 c10 c11 c12 c14 c13 c15 HG hall
        have HO3 := Lib.hid (show Cel.OwnPt u B (.slice (some ⟨g, 0, none⟩) n cap) (revTo L (i + 1)) by rw [← HST.out]; exact HOu)
        have HG3 := Lib.hid HGu.out
        clear HOu HGu HO2 HOd HGd HG
        go_wp2
        go_roundw
        case rel => exact ⟨i + 1, (j : Int) - 1, by congr 1, rfl, by have := HJ.out.1; omega, by omega, HO3, HG3⟩
        case measure => simp [intOf]; omega
    · have q0 : ¬ ((i : Int) < jz) := by omega
      have HE := Lib.hid (show Cel.OwnPt wr B (.slice (some ⟨g, 0, none⟩) n cap) L.reverse by rw [← revTo_all L i (by have := HN.out; omega)]; exact HO2.out)
      clear HO2
      go_wp2
      go_end0
      exact ⟨rfl, HE.out, HG.out⟩
end Go.Proofs.Ytkogoflcacameaa
