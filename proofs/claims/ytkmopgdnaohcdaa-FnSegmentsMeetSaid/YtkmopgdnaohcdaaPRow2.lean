/- Marking a row of points; and rows of points that grow. -/
import Derived.Test.YtkmopgdnaohcdaaPRow
namespace Go.Proofs.Ytkmopgdnaohcdaa
set_option maxRecDepth 100000
open Go.RowKit
attribute [local go_sem ↓] Go.wp_at_zero Go.wp_at_succ
/-- Cells of which the first m are f's, the others g's. -/
def cpart (f g : Nat → Int) (n m : Nat) : List Value := (List.range n).map fun (i : Nat) => Value.int .i64 (if i < m then f i else g i)
theorem cpart_len (f g : Nat → Int) (n m : Nat) : (cpart f g n m).length = n := by simp [cpart]
theorem cpart_at (f g : Nat → Int) (n m i : Nat) (h : i < n) : (cpart f g n m)[i]? = some (.int .i64 (if i < m then f i else g i)) := by
  unfold cpart; rw [List.getElem?_map, List.getElem?_range h]; rfl
theorem cpart_set (f g : Nat → Int) (n m : Nat) : (cpart f g n m).set m (.int .i64 (f m)) = cpart f g n (m + 1) := by
  apply List.ext_getElem?
  intro i
  rw [List.getElem?_set, cpart_len]
  by_cases hi : i < n
  · rw [cpart_at f g n m i hi, cpart_at f g n (m + 1) i hi]
    by_cases hj : m = i
    · subst hj; rw [if_pos rfl, if_pos hi, if_pos (by omega)]
    · rw [if_neg hj]
      by_cases h1 : i < m
      · rw [if_pos h1, if_pos (by omega)]
      · rw [if_neg h1, if_neg (by omega)]
  · rw [List.getElem?_eq_none (by rw [cpart_len]; omega), List.getElem?_eq_none (by rw [cpart_len]; omega)]
    split
    · rw [if_neg (by omega)]
    · rfl
theorem cpart_congr (f g f' g' : Nat → Int) (n m m' : Nat) (h : ∀ i, i < n → (if i < m then f i else g i) = if i < m' then f' i else g' i) : cpart f g n m = cpart f' g' n m' := by
  apply List.ext_getElem?
  intro i
  by_cases hi : i < n
  · rw [cpart_at f g n m i hi, cpart_at f' g' n m' i hi, h i hi]
  · rw [List.getElem?_eq_none (by rw [cpart_len]; omega), List.getElem?_eq_none (by rw [cpart_len]; omega)]
theorem pvals_cpart (ps : List (Int × Int)) (g : Nat → Int) : pvals ps = cpart (cz ps) g (ps.length * 2) (ps.length * 2) := by
  apply List.ext_getElem?
  intro i
  by_cases hi : i < ps.length * 2
  · rw [pvals_at ps i hi, cpart_at _ _ _ _ i hi, if_pos hi]
  · rw [List.getElem?_eq_none (by rw [pvals_len]; omega), List.getElem?_eq_none (by rw [cpart_len]; omega)]
theorem cz_pmarks (k : Int) (n j : Nat) (h : j < n * 2) : cz (pmarks k n) j = k + (j : Int) := by
  unfold cz
  rw [pmarks_at k n (j / 2) (by omega)]
  split <;> simp only <;> omega
/-- What marking a row of points says. -/
def MarkedP (B : Nat) (v : Value) (n : Nat) (k : Int) (w : World) (e : Ending) (w' : World) : Prop :=
  e = .returned (.int .i64 (k + 2 * n)) ∧ OwnPt w' B v (pmarks k n) ∧ w.grownBy w' v.ownBlock ∧ w'.heap.size = w.heap.size
set_option maxHeartbeats 1000000 in
theorem markPointS (a : Option Addr) (len cap B : Nat) (ps : List (Int × Int)) (k : Int) (w : World) (h : OwnPt w B (.slice a len cap) ps) (hk0 : 0 ≤ k) (hk1 : k ≤ 1099511627776) (hl : len ≤ 1073741824) :
    Calls Try.prog 53 #[.slice a len cap, .int .i64 k] w (MarkedP B (.slice a len cap) len k w) := by
  rcases h.2 with ⟨hv, hn⟩ | ⟨g, c, cur, hv, hb, hg, hnc, hcm, hcs, htake⟩
  · simp only [Value.slice.injEq] at hv
    obtain ⟨rfl, rfl, rfl⟩ := hv
    clear h
    go_enter Try.func53, Try.ntmps53
    go_wp2
    go_loop [1, 5] (fun kk i => kk = .int .i64 k ∧ i = .int .i64 0) (fun _ _ => 0)
    case atStart => exact ⟨rfl, rfl⟩
    case round =>
      obtain ⟨rfl, rfl⟩ := hrel
      go_wp2
      go_ret
      exact ⟨ret_int (by omega), World.ownsRow_nil _ _ _ _, World.grownBy.refl _ _, rfl⟩
  · simp only [Value.slice.injEq] at hv
    obtain ⟨rfl, rfl, rfl⟩ := hv
    have H0 : w.ownsRow B 28 2 (.slice (some ⟨g, 0, none⟩) ps.length cap) ps.length (cpart (fun i => k + (i : Int)) (cz ps) (ps.length * 2) (0 * 2)) := by
      have e : pvals ps = cpart (fun i => k + (i : Int)) (cz ps) (ps.length * 2) (0 * 2) := by
        rw [pvals_cpart ps (cz ps)]
        exact cpart_congr _ _ _ _ _ _ _ fun i hi => by simp
      rw [← e]; exact h
    have HF := Lib.hid (show cpart (fun i => k + (i : Int)) (cz ps) (ps.length * 2) (ps.length * 2) = pvals (pmarks k ps.length) by
      rw [pvals_cpart (pmarks k ps.length) (cz ps), pmarks_len]
      exact cpart_congr _ _ _ _ _ _ _ fun i hi => by rw [if_pos hi, if_pos hi, cz_pmarks k _ i hi])
    have HP := Lib.hid (fun j => cpart_set (fun i => k + (i : Int)) (cz ps) (ps.length * 2) j)
    clear hb hg hnc hcm hcs htake h
    go_enter Try.func53, Try.ntmps53
    go_wp2
    go_loopw [1, 5] (fun kk i wr => ∃ j : Nat, j ≤ ps.length ∧ kk = .int .i64 (k + 2 * (j : Int)) ∧ i = .int .i64 (j : Int) ∧ Hid (wr.ownsRow B 28 2 (.slice (some ⟨g, 0, none⟩) ps.length cap) ps.length (cpart (fun i => k + (i : Int)) (cz ps) (ps.length * 2) (j * 2))) ∧ Hid (w.grownBy wr (some g)) ∧ Hid (wr.heap.size = w.heap.size)) (fun _ i _ => ps.length - (intOf i).toNat)
    case atStart => exact ⟨0, Nat.zero_le _, by simp, rfl, Lib.hid H0, Lib.hid (World.grownBy.refl _ _), Lib.hid rfl⟩
    case round =>
      obtain ⟨j, hj, rfl, rfl, HO, HW, HS⟩ := hrel
      clear H0
      by_cases hlt : j < ps.length
      · have d2 := HO.out.cellAt (j * 2) (by omega)
        have d3 := HO.out.frozenAt (j * 2)
        have d4 := HO.out.cellAt (j * 2 + 1) (by omega)
        have d5 := HO.out.frozenAt (j * 2 + 1)
        rw [cpart_at _ _ _ _ _ (by omega)] at d2 d4
        have s1 := HO.out.stored (j * 2) (.int .i64 (k + ((j * 2 : Nat) : Int)))
        have s2 := s1.1.stored (j * 2 + 1) (.int .i64 (k + ((j * 2 + 1 : Nat) : Int)))
        have HT := Lib.hid (And.intro s2.1 (s1.2.trans s2.2))
        rw [HP.out (j * 2), HP.out (j * 2 + 1)] at HT
        rw [show k + ((j * 2 : Nat) : Int) = k + 2 * (j : Int) by omega, show k + ((j * 2 + 1 : Nat) : Int) = k + 2 * (j : Int) + 1 by omega] at HT
        clear s1 s2
        go_wp2
        go_roundw
        case rel => exact ⟨j + 1, by omega, by congr 1; omega, by congr 1, Lib.hid (by rw [show (j + 1) * 2 = j * 2 + 1 + 1 by omega]; exact HT.out.1), Lib.hid (HW.out.trans HT.out.2), Lib.hid (by simpa [World.setCell] using HS.out)⟩
        case measure => simp [intOf]; omega
      · obtain rfl : j = ps.length := by omega
        go_wp2
        go_ret
        refine ⟨rfl, ?_, HW.out, HS.out⟩
        unfold OwnPt
        rw [pmarks_len, ← HF.out]
        exact HO.out
end Go.Proofs.Ytkmopgdnaohcdaa
