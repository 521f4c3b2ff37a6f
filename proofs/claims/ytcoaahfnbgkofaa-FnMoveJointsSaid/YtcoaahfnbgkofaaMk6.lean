/- Marking rows that lie in one backing block, and finding the marks. -/
import Derived.Test.YtcoaahfnbgkofaaMi6
namespace Go.Proofs.Ytcoaahfnbgkofaa
set_option maxRecDepth 100000
open Go.RowKit
attribute [local go_sem ↓] Go.wp_at_zero Go.wp_at_succ
/-- The marks from 1 on. -/
def mk1 (j : Nat) : Int := 1 + (j : Int)
set_option maxHeartbeats 1000000 in
theorem markSub (g N B off wd : Nat) (gg : Nat → Int) (w : World) (h : w.ownsRow B 3 1 (.slice (some ⟨g, 0, none⟩) N N) N (cpart mk1 gg N off)) (hb : off + wd ≤ N) (hN : N ≤ 1000000) :
    Calls Try.prog 31 #[.slice (some ⟨g, off, none⟩) wd wd, .int .i64 (1 + (off : Int))] w fun e w' => e = .returned (.int .i64 (1 + ((off + wd : Nat) : Int))) ∧ w'.ownsRow B 3 1 (.slice (some ⟨g, 0, none⟩) N N) N (cpart mk1 gg N (off + wd)) ∧ w.grownBy w' (some g) ∧ w'.heap.size = w.heap.size := by
  have HP := Lib.hid (fun q => cpart_set mk1 gg N q)
  have H0 := Lib.hid h
  clear h
  go_enter Try.func31, Try.ntmps31
  go_wp2
  go_loopw [1, 5] (fun kk i wr => ∃ j : Nat, j ≤ wd ∧ kk = .int .i64 (1 + ((off + j : Nat) : Int)) ∧ i = .int .i64 (j : Int) ∧ Hid (wr.ownsRow B 3 1 (.slice (some ⟨g, 0, none⟩) N N) N (cpart mk1 gg N (off + j))) ∧ Hid (w.grownBy wr (some g)) ∧ Hid (wr.heap.size = w.heap.size)) (fun _ i _ => wd - (intOf i).toNat)
  case atStart => exact ⟨0, Nat.zero_le _, rfl, rfl, H0, Lib.hid (World.grownBy.refl _ _), Lib.hid rfl⟩
  case round =>
    obtain ⟨j, hj, rfl, rfl, HO, HW, HS⟩ := hrel
    by_cases hlt : j < wd
    · have d2 := HO.out.cellAt (off + j) (by omega)
      have d3 := HO.out.frozenAt (off + j)
      rw [cpart_at _ _ _ _ _ (by omega)] at d2
      have HT := Lib.hid (HO.out.stored (off + j) (.int .i64 (mk1 (off + j))))
      rw [HP.out] at HT
      rw [show mk1 (off + j) = 1 + ((off + j : Nat) : Int) from rfl] at HT
      have k1 : (0 : Int) ≤ (j : Int) := by omega
      have k2 : (j : Int) < (wd : Int) := by omega
      generalize hq : ((off + j : Nat) : Int) = q at *
      have hq2 : q = (off : Int) + (j : Int) := by omega
      have q0 : 0 ≤ q := by omega
      have q1 : q ≤ 1000000 := by omega
      replace hq2 := Lib.hid hq2
      replace hq := Lib.hid hq
      go_wp2
      go_roundw
      case rel => exact ⟨j + 1, by omega, by congr 1; have := hq.out; omega, by congr 1, Lib.hid HT.out.1, Lib.hid (HW.out.trans HT.out.2), Lib.hid (by simpa [World.setCell] using HS.out)⟩
      case measure => simp [intOf]; omega
    · obtain rfl : j = wd := by omega
      have k2 : ¬ ((j : Int) < (j : Int)) := by omega
      go_wp2
      go_ret
      exact ⟨rfl, HO.out, HW.out, HS.out⟩
/-- What marking rows says. -/
def MarkedR (B : Nat) (v : Value) (wd n : Nat) (w : World) (e : Ending) (w' : World) : Prop :=
  e = .returned (.int .i64 (1 + ((n * wd : Nat) : Int))) ∧ OwnRows w' B v wd n mk1 ∧ ∃ row, w.grownBy w' row ∧ (∀ q, row = some q → B ≤ q)
set_option maxHeartbeats 1000000 in
theorem markIntSS (a : Option Addr) (n cap B wd : Nat) (c : Nat → Int) (w : World) (h : OwnRows w B (.slice a n cap) wd n c) (hN : n * wd ≤ 1000000) (hn : n ≤ 1000000) :
    Calls Try.prog 32 #[.slice a n cap, .int .i64 1] w (MarkedR B (.slice a n cap) wd n w) := by
  rcases h with ⟨rfl, hv⟩ | ⟨g, b, cp, hv, hgb, h3, h4⟩
  · simp only [Value.slice.injEq] at hv
    obtain ⟨rfl, _, rfl⟩ := hv
    go_enter Try.func32, Try.ntmps32
    go_wp2
    go_loop [1, 5] (fun kk i => kk = .int .i64 1 ∧ i = .int .i64 0) (fun _ _ => 0)
    case atStart => exact ⟨rfl, rfl⟩
    case round =>
      obtain ⟨rfl, rfl⟩ := hrel
      go_wp2
      go_ret
      exact ⟨by simp, .inl ⟨rfl, rfl⟩, none, World.grownBy.refl _ _, fun q hq => by cases hq⟩
  · simp only [Value.slice.injEq] at hv
    obtain ⟨rfl, _, rfl⟩ := hv
    have h3' : w.ownsRow B 3 1 (.slice (some ⟨g, 0, none⟩) (n * wd) (n * wd)) (n * wd) (cpart mk1 c (n * wd) (0 * wd)) := by
      rw [show cpart mk1 c (n * wd) (0 * wd) = cpart c (fun _ => 0) (n * wd) (n * wd) from cpart_congr _ _ _ _ _ _ _ fun i hi => by rw [if_neg (by omega), if_pos hi]]
      exact h3
    have HFIN := Lib.hid (show cpart mk1 c (n * wd) (n * wd) = cpart mk1 (fun _ => 0) (n * wd) (n * wd) from cpart_congr _ _ _ _ _ _ _ fun i hi => by rw [if_pos hi, if_pos hi])
    have HRW := Lib.hid (fun k (hk : k < n) => show k * wd + wd ≤ n * wd by have h2 := Nat.mul_le_mul_right wd (show k + 1 ≤ n by omega); rw [Nat.add_mul, Nat.one_mul] at h2; exact h2)
    have hbB := (World.ownsRow.lt h4 b rfl)
    have hgB := Lib.hid (World.ownsRow.lt h3 g rfl).1
    have H3 := Lib.hid h3'
    have H4 := Lib.hid h4
    obtain ⟨N, hNN⟩ : ∃ N, n * wd = N := ⟨_, rfl⟩
    rw [hNN] at H3 HFIN HRW hN
    have HNN := Lib.hid hNN
    clear h3 h4 h3' hNN
    go_enter Try.func32, Try.ntmps32
    go_wp2
    go_loopw [1, 5] (fun kk i wr => ∃ k : Nat, k ≤ n ∧ kk = .int .i64 (1 + ((k * wd : Nat) : Int)) ∧ i = .int .i64 (k : Int) ∧ Hid (wr.ownsRow B 3 1 (.slice (some ⟨g, 0, none⟩) N N) N (cpart mk1 c N (k * wd))) ∧ Hid (wr.ownsRow B 23 1 (.slice (some ⟨b, 0, none⟩) n cap) n (rowVs g wd n)) ∧ Hid (w.grownBy wr (some g))) (fun _ i _ => n - (intOf i).toNat)
    case atStart => exact ⟨0, Nat.zero_le _, by simp, rfl, H3, H4, Lib.hid (World.grownBy.refl _ _)⟩
    case round =>
      obtain ⟨k, hk, rfl, rfl, HO, HR, HW⟩ := hrel
      by_cases hlt : k < n
      · have d1 := HR.out.cellAt k (by omega)
        rw [rowVs_at g wd n k hlt] at d1
        have HM := Lib.hid (markSub g N B (k * wd) wd c wr HO.out (HRW.out k hlt) hN)
        have HE := Lib.hid (show (k + 1) * wd = k * wd + wd by rw [Nat.add_mul, Nat.one_mul])
        generalize hof : k * wd = off at *
        replace hof := Lib.hid hof
        have k1 : (0 : Int) ≤ (k : Int) := by omega
        have k2 : (k : Int) < (n : Int) := by omega
        go_wp2_with fail
        refine HM.out.mono ?_
        rintro e w6 ⟨rfl, O6, G6, S6⟩
        have HO6 := Lib.hid O6
        have HW6 := Lib.hid (HW.out.trans G6)
        have HR6 := Lib.hid (HR.out.kept G6 (.inr (by simp [Value.ownBlock]; omega)))
        clear O6 G6 S6 HM
        go_wp2
        go_roundw
        case rel => exact ⟨k + 1, by omega, by rw [HE.out, Int.natCast_add], by congr 1, Lib.hid (by rw [HE.out]; exact HO6.out), HR6, HW6⟩
        case measure => simp [intOf]; omega
      · obtain rfl : k = n := by omega
        have k2 : ¬ ((k : Int) < (k : Int)) := by omega
        go_wp2
        go_ret
        refine ⟨rfl, .inr ⟨g, b, cap, rfl, hgb, ?_, HR.out⟩, some g, HW.out, fun q hq => by injection hq with hq; have := hgB.out; omega⟩
        have o := HO.out
        rw [HNN.out]
        rw [HNN.out, HFIN.out] at o
        exact o
set_option maxHeartbeats 1000000 in
theorem heldIntSS (a : Option Addr) (n cap B wd : Nat) (w : World) (h : OwnRows w B (.slice a n cap) wd n mk1) (hN : n * wd ≤ 1000000) (hn : n ≤ 1000000) (hw : 1 ≤ n → wd ≤ 1000) :
    Calls Try.prog 33 #[.slice a n cap, .int .i64 1] w fun e w' => e = .returned (.int .i64 (1 + ((n * wd : Nat) : Int))) ∧ w = w' := by
  rcases h with ⟨rfl, hv⟩ | ⟨g, b, cp, hv, hgb, h3, h4⟩
  · simp only [Value.slice.injEq] at hv
    obtain ⟨rfl, _, rfl⟩ := hv
    go_enter Try.func33, Try.ntmps33
    go_wp2
    go_loop [1, 5] (fun kk i => kk = .int .i64 1 ∧ i = .int .i64 0) (fun _ _ => 0)
    case atStart => exact ⟨rfl, rfl⟩
    case round =>
      obtain ⟨rfl, rfl⟩ := hrel
      go_wp2
      go_ret
      exact ⟨by simp, rfl⟩
  · simp only [Value.slice.injEq] at hv
    obtain ⟨rfl, _, rfl⟩ := hv
    have HI := Lib.hid (fun k (hk : k < n) => show IntsAt w (some ⟨g, k * wd, none⟩) wd (marks (1 + ((k * wd : Nat) : Int)) wd) from ⟨by rw [marks_len], .inr ⟨g, k * wd, rfl, (World.ownsRow.lt h3 g rfl).2, fun i hi => by
      rw [marks_len] at hi
      have hb : k * wd + i < n * wd := by have h2 := Nat.mul_le_mul_right wd (show k + 1 ≤ n by omega); rw [Nat.add_mul, Nat.one_mul] at h2; omega
      have c2 := h3.cellAt (k * wd + i) (by omega)
      rw [cpart_at _ _ _ _ _ hb, if_pos hb] at c2
      rw [marks_at _ _ _ hi, c2]
      unfold mk1
      congr 2
      omega⟩⟩)
    have HD := Lib.hid (fun k (hk : k < n) => (h4.cellAt k (by omega)).trans (rowVs_at g wd n k hk))
    have HLE := Lib.hid (fun k (hk : k < n) => Nat.le_trans (Nat.mul_le_mul_right wd (Nat.le_of_lt hk)) hN)
    clear h3 h4
    go_enter Try.func33, Try.ntmps33
    go_wp2
    go_loop [1, 5] (fun kk i => ∃ k : Nat, k ≤ n ∧ kk = .int .i64 (1 + ((k * wd : Nat) : Int)) ∧ i = .int .i64 (k : Int)) (fun _ i => n - (intOf i).toNat)
    case atStart => exact ⟨0, Nat.zero_le _, by simp, rfl⟩
    case round =>
      obtain ⟨k, hk, rfl, rfl⟩ := hrel
      by_cases hlt : k < n
      · have d1 := HD.out k hlt
        have HM := Lib.hid (HI.out k hlt)
        have hle := HLE.out k hlt
        have hwd := hw (by omega)
        have HE := Lib.hid (show (k + 1) * wd = k * wd + wd by rw [Nat.add_mul, Nat.one_mul])
        generalize hof : k * wd = off at *
        replace hof := Lib.hid hof
        have k1 : (0 : Int) ≤ (k : Int) := by omega
        have k2 : (k : Int) < (n : Int) := by omega
        go_wp2_with fail
        refine (heldIntS _ wd wd (1 + (off : Int)) _ HM.out (by omega) (by omega) (by omega)).mono ?_
        rintro e w' ⟨rfl, rfl⟩
        have k3 : ¬ (1 + (off : Int) + (wd : Int) < 0) := by omega
        go_wp2
        go_round
        case rel => exact ⟨k + 1, by omega, by rw [HE.out]; congr 1; omega, by congr 1⟩
        case measure => simp [intOf]; omega
      · obtain rfl : k = n := by omega
        have k2 : ¬ ((k : Int) < (k : Int)) := by omega
        go_wp2
        go_ret
        exact ⟨rfl, rfl⟩
theorem sameRow {w w' : World} {B e size n : Nat} {v : Value} {xs : List Value} (h : w.ownsRow B e size v n xs) (hs : ∀ k, B ≤ k → k < w.heap.size → w'.heap[k]? = w.heap[k]?) : w'.ownsRow B e size v n xs := by
  refine ⟨h.1, ?_⟩
  rcases h.2 with h2 | ⟨g, c, cur, hv, hb, hg, rest⟩
  · exact .inl h2
  · exact .inr ⟨g, c, cur, hv, hb, by rw [hs g hb (World.ownsRow.lt h g (by rw [hv]; rfl)).2]; exact hg, rest⟩
theorem OwnRows.same {w w' : World} {B : Nat} {v : Value} {wd n : Nat} {c : Nat → Int} (h : OwnRows w B v wd n c) (hs : ∀ k, B ≤ k → k < w.heap.size → w'.heap[k]? = w.heap[k]?) : OwnRows w' B v wd n c := by
  rcases h with h | ⟨g, b, cap, h1, h2, h3, h4⟩
  · exact .inl h
  · exact .inr ⟨g, b, cap, h1, h2, sameRow h3 hs, sameRow h4 hs⟩
/-- Rows of the call's own read as the motion. -/
theorem OwnRows.read {ls lo hi fs ts : List Int} {t r : Int} {w : World} {B : Nat} {s : Sl} (h : OwnRows w B (.slice s.a s.len s.cap) fs.length s.len (flatC fs ts (profV (mostV fs ts) t r) (mostV fs ts) fs.length)) (hl : s.len = (moveV ls lo hi fs ts t r).length) : RowsAt w s.a s.len (moveV ls lo hi fs ts t r) := by
  by_cases q : okMv ls lo hi fs ts t r
  · have hp : s.len = (profV (mostV fs ts) t r).length := by rw [hl, moveV_in q, rowsA_len]
    rw [hp] at h
    obtain ⟨s2, h1, h2, h3⟩ := h.rows
    simp only [Value.slice.injEq] at h1
    rw [moveV_in q, h1.1, hp, ← h2]
    exact h3
  · rw [moveV_out q] at hl ⊢
    exact ⟨hl, .inl rfl⟩
theorem moveV_rl (ls lo hi fs ts : List Int) (t r : Int) (i : Nat) : ((moveV ls lo hi fs ts t r).getD i []).length ≤ 4 := by
  by_cases q : okMv ls lo hi fs ts t r
  · rw [moveV_in q]
    by_cases hi : i < (profV (mostV fs ts) t r).length
    · rw [rowsA_at _ _ _ _ i hi, rowA_len]; have := q.1.len; omega
    · rw [List.getD_eq_getElem?_getD, List.getElem?_eq_none (by rw [rowsA_len]; omega)]; simp
  · rw [moveV_out q]; simp
theorem moveV_flat (ls lo hi fs ts : List Int) (t r : Int) : (moveV ls lo hi fs ts t r).length * fs.length ≤ 1440 ∧ (1 ≤ (moveV ls lo hi fs ts t r).length → fs.length ≤ 1000) := by
  by_cases q : okMv ls lo hi fs ts t r
  · have h1 := moveV_len ls lo hi fs ts t r
    have h2 := q.1.len
    exact ⟨Nat.le_trans (Nat.mul_le_mul h1 (show fs.length ≤ 4 by omega)) (by decide), fun _ => by omega⟩
  · rw [moveV_out q]; simp
end Go.Proofs.Ytcoaahfnbgkofaa
