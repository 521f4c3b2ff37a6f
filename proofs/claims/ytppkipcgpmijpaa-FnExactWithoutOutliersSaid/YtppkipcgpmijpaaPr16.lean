/- Lists of pairs: what they read as, opened as a law's argument, measured, copied, compared and marked by the laws' own helpers. -/
import Derived.Test.YtppkipcgpmijpaaZcPts
import Derived.Test.YtppkipcgpmijpaaZbArm
import Derived.Test.YtppkipcgpmijpaaZbKt
import Derived.Test.YtppkipcgpmijpaaZbNum
import Derived.Laws.MakeOwn
import Derived.Deep.AppendLies
import Derived.OpenShut
import Derived.Lib.SmallJoins
import Derived.Deep.SlicePairs
namespace Go.Proofs.Ytppkipcgpmijpaa.Prr
set_option maxRecDepth 100000
open Go.ChangeShapes Go.WideShapes Go.ChangeAt Go.RowKit Go.Joins
attribute [local go_sem ↓] Go.wp_at_zero Go.wp_at_succ
theorem toPair (x y : Int) (w : World) :
    Calls Try.prog 49 #[pt x y] w fun e w' => e = .returned (pt x y) ∧ Below w.heap.size w w' := by
  go_enter Try.func49, Try.ntmps49
  go_wp2
  exact bodyPost_ret (v := pt x y) (by simp [results, Try.results49, go_sem]) rfl ⟨rfl, below_box3 _ _ _ _⟩
theorem eqPair (x y : Int) (w : World) :
    Calls Try.prog 50 #[pt x y, pt x y] w fun e w' => e = .returned (.bool true) ∧ Below w.heap.size w w' := by
  have hx : (x != x) = false := by simp
  have hy : (y != y) = false := by simp
  go_enter Try.func50, Try.ntmps50
  go_wp2
  go_ret
  exact ⟨rfl, below_box2 _ _ _⟩

/-- A coordinate of a list of points, by its place among the cells. -/
def cz (ps : List (Int × Int)) (j : Nat) : Int := if j % 2 = 0 then (ps.getD (j / 2) (0, 0)).1 else (ps.getD (j / 2) (0, 0)).2
/-- The points as values. -/
def pvals (ps : List (Int × Int)) : List Value := (List.range (ps.length * 2)).map fun (j : Nat) => Value.int .i64 (cz ps j)
theorem pvals_len (ps : List (Int × Int)) : (pvals ps).length = ps.length * 2 := by simp [pvals]
theorem pvals_at (ps : List (Int × Int)) (j : Nat) (h : j < ps.length * 2) : (pvals ps)[j]? = some (.int .i64 (cz ps j)) := by
  unfold pvals; rw [List.getElem?_map, List.getElem?_range h]; rfl
theorem cz0 (ps : List (Int × Int)) (i : Nat) : cz ps (i * 2) = (ps.getD i (0, 0)).1 := by
  unfold cz; rw [if_pos (by omega), show i * 2 / 2 = i by omega]
theorem cz1 (ps : List (Int × Int)) (i : Nat) : cz ps (i * 2 + 1) = (ps.getD i (0, 0)).2 := by
  unfold cz; rw [if_neg (by omega), show (i * 2 + 1) / 2 = i by omega]
/-- A row of points reads as ps. -/
def PtsAt (w : World) (a : Option Addr) (len : Nat) (ps : List (Int × Int)) : Prop :=
  len = ps.length ∧ (ps = [] ∨ ∃ b, a = some ⟨b, 0, none⟩ ∧ b < w.heap.size ∧ ∀ i, i < ps.length → w.cell? ⟨b, i * 2, none⟩ = some (.int .i64 (ps.getD i (0, 0)).1) ∧ w.cell? ⟨b, i * 2 + 1, none⟩ = some (.int .i64 (ps.getD i (0, 0)).2))
theorem PtsAt.next {w w' : World} {a : Option Addr} {len : Nat} {ps : List (Int × Int)} (h : PtsAt w a len ps) (hb : Below w.heap.size w w') : PtsAt w' a len ps :=
  ⟨h.1, h.2.imp id fun ⟨b, h1, h2, h3⟩ => ⟨b, h1, Nat.lt_of_lt_of_le h2 hb.size, fun i hi => ⟨(hb.cell (p := ⟨b, i * 2, none⟩) h2).trans (h3 i hi).1, (hb.cell (p := ⟨b, i * 2 + 1, none⟩) h2).trans (h3 i hi).2⟩⟩⟩
theorem PtsAt.some {w : World} {a : Option Addr} {len : Nat} {ps : List (Int × Int)} (h : PtsAt w a len ps) (hl : 1 ≤ len) : ∃ b, a = Option.some ⟨b, 0, none⟩ ∧ b < w.heap.size ∧ ∀ i, i < len → w.cell? ⟨b, i * 2, none⟩ = Option.some (.int .i64 (ps.getD i (0, 0)).1) ∧ w.cell? ⟨b, i * 2 + 1, none⟩ = Option.some (.int .i64 (ps.getD i (0, 0)).2) := by
  rcases h.2 with h2 | ⟨b, h1, h2, h3⟩
  · have := h.1; rw [h2] at this; simp at this; omega
  · exact ⟨b, h1, h2, fun i hi => h3 i (by rw [← h.1]; exact hi)⟩
/-- A row of points of the call's own. -/
def OwnPt (w : World) (B : Nat) (v : Value) (ps : List (Int × Int)) : Prop := w.ownsRow B 27 2 v ps.length (pvals ps)
theorem OwnPt.ints {w : World} {B n cap : Nat} {a : Option Addr} {ps : List (Int × Int)} (h : OwnPt w B (.slice a n cap) ps) : PtsAt w a n ps := by
  rcases h.2 with ⟨hv, hn⟩ | ⟨g, c, cur, hv, hb, hg, rest⟩
  · simp only [Value.slice.injEq] at hv
    exact ⟨by omega, .inl (List.eq_nil_of_length_eq_zero hn)⟩
  · simp only [Value.slice.injEq] at hv
    obtain ⟨rfl, rfl, rfl⟩ := hv
    refine ⟨rfl, .inr ⟨g, rfl, (World.ownsRow.lt h g rfl).2, fun i hi => ?_⟩⟩
    have c0 := World.ownsRow.cellAt h (i * 2) (by omega)
    have c1 := World.ownsRow.cellAt h (i * 2 + 1) (by omega)
    rw [pvals_at ps _ (by omega), cz0] at c0
    rw [pvals_at ps _ (by omega), cz1] at c1
    exact ⟨c0, c1⟩
theorem OwnPt.next {w w' : World} {B : Nat} {v : Value} {ps : List (Int × Int)} (h : OwnPt w B v ps) (hb : Below w.heap.size w w') : OwnPt w' B v ps := by
  refine World.ownsRow.kept (row := none) h ⟨hb.os, hb.tape, hb.output, hb.size, fun k hk _ => hb.block k hk⟩ ?_
  cases v.ownBlock <;> simp
theorem OwnPt.same {w w' : World} {B n cap : Nat} {a : Option Addr} {ps : List (Int × Int)} (h : OwnPt w B (.slice a n cap) ps) (hb : ∀ g, (Value.slice a n cap).ownBlock = some g → w'.heap[g]? = w.heap[g]?) : OwnPt w' B (.slice a n cap) ps := by
  refine ⟨h.1, ?_⟩
  rcases h.2 with h2 | ⟨g, c, cur, hv, hb', hg, rest⟩
  · exact .inl h2
  · exact .inr ⟨g, c, cur, hv, hb', by rw [hb g (by rw [hv]; rfl)]; exact hg, rest⟩
theorem OwnPt.sl {w : World} {B : Nat} {v : Value} {ps : List (Int × Int)} (h : OwnPt w B v ps) : ∃ s : Sl, v = .slice s.a s.len s.cap ∧ s.len = ps.length := by
  rcases h.2 with ⟨hv, hn⟩ | ⟨g, c, cur, hv, _⟩
  · exact ⟨⟨none, 0, 0⟩, hv, hn.symm⟩
  · exact ⟨⟨some ⟨g, 0, none⟩, ps.length, c⟩, hv, rfl⟩
/-- k, k + 1, .. as points. -/
def pmarks (k : Int) (n : Nat) : List (Int × Int) := (List.range n).map fun (i : Nat) => (k + 2 * (i : Int), k + 2 * (i : Int) + 1)
theorem pmarks_len (k : Int) (n : Nat) : (pmarks k n).length = n := by simp [pmarks]
theorem pmarks_at (k : Int) (n i : Nat) (h : i < n) : (pmarks k n).getD i (0, 0) = (k + 2 * (i : Int), k + 2 * (i : Int) + 1) := by
  unfold pmarks; rw [List.getD_eq_getElem?_getD, List.getElem?_map, List.getElem?_range h]; rfl
theorem eqPairR (x y : Int) (w0 w : World) (hw : Below w0.heap.size w0 w) :
    Calls Try.prog 50 #[pt x y, pt x y] w fun e w' => e = .returned (.bool true) ∧ Below w0.heap.size w0 w' :=
  (eqPair x y w).mono fun _ _ ⟨he, hb⟩ => ⟨he, below_call hw hb⟩
theorem keepP {w u : World} {b c i : Nat} {x y z t : Value} (h : Below w.heap.size w u) (hb : b < w.heap.size) (hc : c < w.heap.size) (h0 : w.cell? ⟨b, i, none⟩ = some x) (h1 : w.cell? ⟨b, i + 1, none⟩ = some y) (h2 : w.cell? ⟨c, i, none⟩ = some z) (h3 : w.cell? ⟨c, i + 1, none⟩ = some t) :
    u.cell? ⟨b, i, none⟩ = some x ∧ u.cell? ⟨b, i + 1, none⟩ = some y ∧ u.cell? ⟨c, i, none⟩ = some z ∧ u.cell? ⟨c, i + 1, none⟩ = some t :=
  ⟨(h.cell (p := ⟨b, i, none⟩) hb).trans h0, (h.cell (p := ⟨b, i + 1, none⟩) hb).trans h1, (h.cell (p := ⟨c, i, none⟩) hc).trans h2, (h.cell (p := ⟨c, i + 1, none⟩) hc).trans h3⟩
set_option maxHeartbeats 1000000 in
theorem eqPairS (a b : Option Addr) (len len2 cap cap2 : Nat) (ps : List (Int × Int)) (w : World) (h : PtsAt w a len ps) (h2 : PtsAt w b len2 ps) (hl : len ≤ 9223372036854775807) :
    Calls Try.prog 32 #[.slice a len cap, .slice b len2 cap2] w fun e w' => e = .returned (.bool true) ∧ Below w.heap.size w w' := by
  obtain rfl : len2 = len := by rw [h.1, h2.1]
  have e0 : ((len2 : Int) != (len2 : Int)) = false := by simp
  by_cases hn : 1 ≤ len2
  · obtain ⟨b1, rfl, lt1, c1⟩ := h.some hn
    obtain ⟨b2, rfl, lt2, c2⟩ := h2.some hn
    have HC1 := Lib.hid c1
    have HC2 := Lib.hid c2
    clear h h2 c1 c2 hn
    go_enter Try.func32, Try.ntmps32
    go_wp2
    go_loopw [5] (fun i wr => ∃ j : Nat, j ≤ len2 ∧ i = .int .i64 (j : Int) ∧ Hid (Below w.heap.size w wr)) (fun i _ => len2 - (intOf i).toNat)
    case atStart => exact ⟨0, Nat.zero_le _, rfl, Lib.hid (Below.refl _ _)⟩
    case round =>
      obtain ⟨j, hj, rfl, HW⟩ := hrel
      by_cases hlt : j < len2
      · have d1 : wr.cell? ⟨b1, j * 2, none⟩ = _ := (HW.out.cell (p := ⟨b1, j * 2, none⟩) lt1).trans (HC1.out j hlt).1
        have d2 : wr.cell? ⟨b1, j * 2 + 1, none⟩ = _ := (HW.out.cell (p := ⟨b1, j * 2 + 1, none⟩) lt1).trans (HC1.out j hlt).2
        have d3 : wr.cell? ⟨b2, j * 2, none⟩ = _ := (HW.out.cell (p := ⟨b2, j * 2, none⟩) lt2).trans (HC2.out j hlt).1
        have d4 : wr.cell? ⟨b2, j * 2 + 1, none⟩ = _ := (HW.out.cell (p := ⟨b2, j * 2 + 1, none⟩) lt2).trans (HC2.out j hlt).2
        have k1 : b1 < wr.heap.size := Nat.lt_of_lt_of_le lt1 HW.out.size
        have k2 : b2 < wr.heap.size := Nat.lt_of_lt_of_le lt2 HW.out.size
        generalize ps.getD j (0, 0) = p at *
        obtain ⟨px, py⟩ := p
        simp only at d1 d2 d3 d4
        have j1 : (0 : Int) ≤ (j : Int) := by omega
        have j2 : (j : Int) < (len2 : Int) := by omega
        have g0 : Below wr.heap.size wr wr := Below.refl _ _
        go_wp2
        go_region_held3 (fun u => u.cell? ⟨b1, j * 2, none⟩ = some (.int .i64 px) ∧ u.cell? ⟨b1, j * 2 + 1, none⟩ = some (.int .i64 py) ∧ u.cell? ⟨b2, j * 2, none⟩ = some (.int .i64 px) ∧ u.cell? ⟨b2, j * 2 + 1, none⟩ = some (.int .i64 py)) (exact keepP (by repeat (first | (with_reducible assumption) | (with_reducible apply Below.drew))) k1 k2 d1 d2 d3 d4) (first
          | (go_at_call 50
             refine (eqPairR px py wr _ (by repeat (first | (with_reducible assumption) | (with_reducible apply Below.drew)))).mono ?_
             rintro e w2 ⟨rfl, K2⟩))
        go_wp2
        go_roundw
        case rel => exact ⟨j + 1, by omega, by congr 1, Lib.hid (below_call HW.out K2)⟩
        case measure => simp [intOf]; omega
      · obtain rfl : j = len2 := by omega
        go_wp2
        go_ret
        exact ⟨rfl, HW.out⟩
  · obtain rfl : len2 = 0 := by omega
    clear h h2 hn
    go_enter Try.func32, Try.ntmps32
    go_wp2
    go_loopw [5] (fun i wr => i = .int .i64 0 ∧ Hid (Below w.heap.size w wr)) (fun _ _ => 0)
    case atStart => exact ⟨rfl, Lib.hid (Below.refl _ _)⟩
    case round =>
      obtain ⟨rfl, HW⟩ := hrel
      go_wp2
      go_ret
      exact ⟨rfl, HW.out⟩
theorem heldPairS (a : Option Addr) (len cap : Nat) (k : Int) (w : World) (h : PtsAt w a len (pmarks k len)) (hk0 : 0 ≤ k) (hk1 : k ≤ 1099511627776) (hl : len ≤ 1073741824) :
    Calls Try.prog 34 #[.slice a len cap, .int .i64 k] w fun e w' => e = .returned (.int .i64 (k + 2 * len)) ∧ w = w' := by
  by_cases hn : 1 ≤ len
  · obtain ⟨b, rfl, hlt, hc⟩ := h.some hn
    have HC := Lib.hid hc
    have HP := Lib.hid (fun i hi => pmarks_at k len i hi)
    clear h hc hn
    go_enter Try.func34, Try.ntmps34
    go_wp2
    go_loop [1, 5] (fun kk i => ∃ j : Nat, j ≤ len ∧ kk = .int .i64 (k + 2 * (j : Int)) ∧ i = .int .i64 (j : Int)) (fun _ i => len - (intOf i).toNat)
    case atStart => exact ⟨0, Nat.zero_le _, by simp, rfl⟩
    case round =>
      obtain ⟨j, hj, rfl, rfl⟩ := hrel
      by_cases hlt2 : j < len
      · obtain ⟨c1, c2⟩ := HC.out j hlt2
        rw [HP.out j hlt2] at c1 c2
        simp only at c1 c2
        have e0 : (k + 2 * (j : Int) != k + 2 * (j : Int)) = false := by simp
        have e1 : (k + 2 * (j : Int) + 1 != k + 2 * (j : Int) + 1) = false := by simp
        go_wp2
        go_round
        case rel => exact ⟨j + 1, by omega, by congr 1; omega, by congr 1⟩
        case measure => simp [intOf]; omega
      · obtain rfl : j = len := by omega
        go_wp2
        go_ret
        exact ⟨rfl, rfl⟩
  · obtain rfl : len = 0 := by omega
    clear h hn
    go_enter Try.func34, Try.ntmps34
    go_wp2
    go_loop [1, 5] (fun kk i => kk = .int .i64 k ∧ i = .int .i64 0) (fun _ _ => 0)
    case atStart => exact ⟨rfl, rfl⟩
    case round =>
      obtain ⟨rfl, rfl⟩ := hrel
      go_wp2
      go_ret
      exact ⟨ret_int (by omega), rfl⟩
/-- Cells of which the first m are f's, the others g's. -/
def cpart (f g : Nat → Int) (n m : Nat) : List Value := (List.range n).map fun (i : Nat) => Value.int .i64 (if i < m then f i else g i)
theorem cpart_len (f g : Nat → Int) (n m : Nat) : (cpart f g n m).length = n := by simp [cpart]
theorem cpart_at (f g : Nat → Int) (n m i : Nat) (h : i < n) : (cpart f g n m)[i]? = some (.int .i64 (if i < m then f i else g i)) := by
  unfold cpart; rw [List.getElem?_map, List.getElem?_range h]; rfl
theorem cpart_set (f g : Nat → Int) (n m : Nat) : (cpart f g n m).set m (.int .i64 (f m)) = cpart f g n (m + 1) := by
  apply List.ext_getElem?
  intro i
  rw [List.getElem?_set, cpart_len]
  by_cases hi : i < n
  · rw [cpart_at f g n m i hi, cpart_at f g n (m + 1) i hi]
    by_cases hj : m = i
    · subst hj; rw [if_pos rfl, if_pos hi, if_pos (by omega)]
    · rw [if_neg hj]
      by_cases h1 : i < m
      · rw [if_pos h1, if_pos (by omega)]
      · rw [if_neg h1, if_neg (by omega)]
  · rw [List.getElem?_eq_none (by rw [cpart_len]; omega), List.getElem?_eq_none (by rw [cpart_len]; omega)]
    split
    · rw [if_neg (by omega)]
    · rfl
theorem cpart_congr (f g f' g' : Nat → Int) (n m m' : Nat) (h : ∀ i, i < n → (if i < m then f i else g i) = if i < m' then f' i else g' i) : cpart f g n m = cpart f' g' n m' := by
  apply List.ext_getElem?
  intro i
  by_cases hi : i < n
  · rw [cpart_at f g n m i hi, cpart_at f' g' n m' i hi, h i hi]
  · rw [List.getElem?_eq_none (by rw [cpart_len]; omega), List.getElem?_eq_none (by rw [cpart_len]; omega)]
theorem pvals_cpart (ps : List (Int × Int)) (g : Nat → Int) : pvals ps = cpart (cz ps) g (ps.length * 2) (ps.length * 2) := by
  apply List.ext_getElem?
  intro i
  by_cases hi : i < ps.length * 2
  · rw [pvals_at ps i hi, cpart_at _ _ _ _ i hi, if_pos hi]
  · rw [List.getElem?_eq_none (by rw [pvals_len]; omega), List.getElem?_eq_none (by rw [cpart_len]; omega)]
theorem cz_pmarks (k : Int) (n j : Nat) (h : j < n * 2) : cz (pmarks k n) j = k + (j : Int) := by
  unfold cz
  rw [pmarks_at k n (j / 2) (by omega)]
  split <;> simp only <;> omega
/-- What marking a row of points says. -/
def MarkedP (B : Nat) (v : Value) (n : Nat) (k : Int) (w : World) (e : Ending) (w' : World) : Prop :=
  e = .returned (.int .i64 (k + 2 * n)) ∧ OwnPt w' B v (pmarks k n) ∧ w.grownBy w' v.ownBlock ∧ w'.heap.size = w.heap.size
set_option maxHeartbeats 1000000 in
theorem markPairS (a : Option Addr) (len cap B : Nat) (ps : List (Int × Int)) (k : Int) (w : World) (h : OwnPt w B (.slice a len cap) ps) (hk0 : 0 ≤ k) (hk1 : k ≤ 1099511627776) (hl : len ≤ 1073741824) :
    Calls Try.prog 33 #[.slice a len cap, .int .i64 k] w (MarkedP B (.slice a len cap) len k w) := by
  rcases h.2 with ⟨hv, hn⟩ | ⟨g, c, cur, hv, hb, hg, hnc, hcm, hcs, htake⟩
  · simp only [Value.slice.injEq] at hv
    obtain ⟨rfl, rfl, rfl⟩ := hv
    clear h
    go_enter Try.func33, Try.ntmps33
    go_wp2
    go_loop [1, 5] (fun kk i => kk = .int .i64 k ∧ i = .int .i64 0) (fun _ _ => 0)
    case atStart => exact ⟨rfl, rfl⟩
    case round =>
      obtain ⟨rfl, rfl⟩ := hrel
      go_wp2
      go_ret
      exact ⟨ret_int (by omega), World.ownsRow_nil _ _ _ _, World.grownBy.refl _ _, rfl⟩
  · simp only [Value.slice.injEq] at hv
    obtain ⟨rfl, rfl, rfl⟩ := hv
    have H0 : w.ownsRow B 27 2 (.slice (some ⟨g, 0, none⟩) ps.length cap) ps.length (cpart (fun i => k + (i : Int)) (cz ps) (ps.length * 2) (0 * 2)) := by
      have e : pvals ps = cpart (fun i => k + (i : Int)) (cz ps) (ps.length * 2) (0 * 2) := by
        rw [pvals_cpart ps (cz ps)]
        exact cpart_congr _ _ _ _ _ _ _ fun i hi => by simp
      rw [← e]; exact h
    have HF := Lib.hid (show cpart (fun i => k + (i : Int)) (cz ps) (ps.length * 2) (ps.length * 2) = pvals (pmarks k ps.length) by
      rw [pvals_cpart (pmarks k ps.length) (cz ps), pmarks_len]
      exact cpart_congr _ _ _ _ _ _ _ fun i hi => by rw [if_pos hi, if_pos hi, cz_pmarks k _ i hi])
    have HP := Lib.hid (fun j => cpart_set (fun i => k + (i : Int)) (cz ps) (ps.length * 2) j)
    clear hb hg hnc hcm hcs htake h
    go_enter Try.func33, Try.ntmps33
    go_wp2
    go_loopw [1, 5] (fun kk i wr => ∃ j : Nat, j ≤ ps.length ∧ kk = .int .i64 (k + 2 * (j : Int)) ∧ i = .int .i64 (j : Int) ∧ Hid (wr.ownsRow B 27 2 (.slice (some ⟨g, 0, none⟩) ps.length cap) ps.length (cpart (fun i => k + (i : Int)) (cz ps) (ps.length * 2) (j * 2))) ∧ Hid (w.grownBy wr (some g)) ∧ Hid (wr.heap.size = w.heap.size)) (fun _ i _ => ps.length - (intOf i).toNat)
    case atStart => exact ⟨0, Nat.zero_le _, by simp, rfl, Lib.hid H0, Lib.hid (World.grownBy.refl _ _), Lib.hid rfl⟩
    case round =>
      obtain ⟨j, hj, rfl, rfl, HO, HW, HS⟩ := hrel
      clear H0
      by_cases hlt : j < ps.length
      · have d2 := HO.out.cellAt (j * 2) (by omega)
        have d3 := HO.out.frozenAt (j * 2)
        have d4 := HO.out.cellAt (j * 2 + 1) (by omega)
        have d5 := HO.out.frozenAt (j * 2 + 1)
        rw [cpart_at _ _ _ _ _ (by omega)] at d2 d4
        have s1 := HO.out.stored (j * 2) (.int .i64 (k + ((j * 2 : Nat) : Int)))
        have s2 := s1.1.stored (j * 2 + 1) (.int .i64 (k + ((j * 2 + 1 : Nat) : Int)))
        have HT := Lib.hid (And.intro s2.1 (s1.2.trans s2.2))
        rw [HP.out (j * 2), HP.out (j * 2 + 1)] at HT
        rw [show k + ((j * 2 : Nat) : Int) = k + 2 * (j : Int) by omega, show k + ((j * 2 + 1 : Nat) : Int) = k + 2 * (j : Int) + 1 by omega] at HT
        clear s1 s2
        go_wp2
        go_roundw
        case rel => exact ⟨j + 1, by omega, by congr 1; omega, by congr 1, Lib.hid (by rw [show (j + 1) * 2 = j * 2 + 1 + 1 by omega]; exact HT.out.1), Lib.hid (HW.out.trans HT.out.2), Lib.hid (by simpa [World.setCell] using HS.out)⟩
        case measure => simp [intOf]; omega
      · obtain rfl : j = ps.length := by omega
        go_wp2
        go_ret
        refine ⟨rfl, ?_, HW.out, HS.out⟩
        unfold OwnPt
        rw [pmarks_len, ← HF.out]
        exact HO.out
/-- A slice of points of the call's own that reads as ps. -/
def PtRow (ps : List (Int × Int)) (w : World) (e : Ending) (w' : World) : Prop :=
  ∃ s : Sl, e = .returned (.slice s.a s.len s.cap) ∧ s.len = ps.length ∧ OwnPt w' w.heap.size (.slice s.a s.len s.cap) ps ∧ Below w.heap.size w w'
theorem pvals_snoc6 (ps : List (Int × Int)) (p : Int × Int) : pvals (ps ++ [p]) = pvals ps ++ [.int .i64 p.1, .int .i64 p.2] := by
  apply List.ext_getElem?
  intro j
  by_cases h : j < ps.length * 2
  · rw [List.getElem?_append_left (by rw [pvals_len]; exact h), pvals_at ps j h, pvals_at (ps ++ [p]) j (by simp only [List.length_append, List.length_singleton]; omega)]
    unfold cz
    rw [List.getD_eq_getElem?_getD, List.getD_eq_getElem?_getD, List.getElem?_append_left (by omega)]
  · by_cases h0 : j = ps.length * 2
    · subst h0
      rw [List.getElem?_append_right (by rw [pvals_len]; omega), pvals_len, pvals_at (ps ++ [p]) _ (by simp only [List.length_append, List.length_singleton]; omega), cz0, List.getD_eq_getElem?_getD, List.getElem?_append_right (by omega)]
      simp
    · by_cases h1 : j = ps.length * 2 + 1
      · subst h1
        rw [List.getElem?_append_right (by rw [pvals_len]; omega), pvals_len, pvals_at (ps ++ [p]) _ (by simp only [List.length_append, List.length_singleton]; omega), cz1, List.getD_eq_getElem?_getD, List.getElem?_append_right (by omega)]
        simp
      · rw [List.getElem?_eq_none (by rw [pvals_len]; simp; omega), List.getElem?_eq_none (by simp [pvals_len]; omega)]
theorem OwnPt.down6 {w : World} {B B' : Nat} {v : Value} {ps : List (Int × Int)} (h : OwnPt w B v ps) (hB : B' ≤ B) : OwnPt w B' v ps := World.ownsRow_down h hB
theorem OwnPt.slv {w : World} {B : Nat} {v : Value} {ps : List (Int × Int)} (h : OwnPt w B v ps) (w0 : World) (hB : w0.heap.size ≤ B) (hb : Below w0.heap.size w0 w) : PtRow ps w0 (.returned v) w := by
  obtain ⟨s, rfl, hs⟩ := h.sl
  exact ⟨s, rfl, hs, h.down6 hB, hb⟩
theorem infoPt6 : (Try.prog.info? 27).map (fun i => (i.zero, i.size, i.bytes)) = some (some (pt 0 0), 2, 16) := by kernel_rfl
theorem made6 (f : Nat → Int) (n : Nat) : (madeCells (pt 0 0).cells (n * 2)).toList = cpart f (fun _ => 0) (n * 2) (0 * 2) := by
  unfold cpart madeCells
  show (Array.map _ (Array.range (n * 2))).toList = _
  rw [Array.toList_map, Array.toList_range]
  apply List.map_congr_left
  intro j _
  have hm : j % 2 = 0 ∨ j % 2 = 1 := by omega
  have e : (if j < 0 * 2 then f j else 0) = 0 := by simp
  rw [e]
  show (#[Value.int .i64 0, Value.int .i64 0] : Array Value)[j % 2]! = _
  rcases hm with h | h <;> rw [h] <;> simp
theorem nilPt (w w' : World) (hb : Below w.heap.size w w') : PtRow [] w (.returned (.slice none 0 0)) w' := ⟨⟨none, 0, 0⟩, rfl, rfl, World.ownsRow_nil _ _ _ _, hb⟩
theorem ownPt_empty (w : World) (T : TypeId) (hT : T = 27) : OwnPt (w.alloc (.cells #[] T)) w.heap.size (.slice (some ⟨w.heap.size, 0, none⟩) 0 0) [] := by
  subst hT
  have := World.ownsRow_lit (base := w.heap.size) (e := 27) (size := 2) w #[] 0 (Nat.le_refl _) (Nat.zero_le _) rfl
  unfold OwnPt
  simpa [pvals] using this
/-- A slice reads as the points ps, wherever in its block it begins. -/
def PtsIn (w : World) (a : Option Addr) (len : Nat) (ps : List (Int × Int)) : Prop :=
  len = ps.length ∧ (ps = [] ∨ ∃ b off, a = some ⟨b, off, none⟩ ∧ b < w.heap.size ∧ ∀ i, i < ps.length → w.cell? ⟨b, off + i * 2, none⟩ = some (.int .i64 (pX ps i)) ∧ w.cell? ⟨b, off + i * 2 + 1, none⟩ = some (.int .i64 (pY ps i)))
/-- The coordinates fit. -/
def FitP (ps : List (Int × Int)) : Prop := ∀ i, (-9223372036854775808 ≤ pX ps i ∧ pX ps i ≤ 9223372036854775807) ∧ -9223372036854775808 ≤ pY ps i ∧ pY ps i ≤ 9223372036854775807
theorem ptsMk7 (f g : Nat → Int) (n i : Nat) (h : i < n) : pX ((List.range n).map fun (k : Nat) => (f k, g k)) i = f i ∧ pY ((List.range n).map fun (k : Nat) => (f k, g k)) i = g i := by
  unfold pX pY
  rw [List.getD_eq_getElem?_getD, List.getElem?_map, List.getElem?_range h]
  exact ⟨rfl, rfl⟩
theorem cellsPtL : Try.prog.cellsOf 57 = 2 := by kernel_rfl
theorem cellsIntL : Try.prog.cellsOf 3 = 1 := by kernel_rfl
theorem pts_of {H : Type} {enc : TypeId × Value → H} {W : World} {v : Value} {n : Nat} {y : DataW H × List MemPlace} (hf : DataW.trod enc Try.prog W 0 (fun _ => true) true n 38 [v] = some y) :
    ∃ (s : Sl) (ps : List (Int × Int)), v = .slice s.a s.len s.cap ∧ PtsIn W s.a s.len ps ∧ FitP ps ∧ s.len ≤ 9223372036854775807 := by
  rcases Go.Deep.open_slice_pairs Try.underlying38 Try.underlying57 cellsPtL rfl rfl cellsIntL cellsIntL hf with ⟨hcs, _⟩ | ⟨x, l, c, m, n', V0, V1, D0, D1, P0, P1, hcs, _, hl, hm, hmm, _, hx⟩
  · simp at hcs
    subst hcs
    exact ⟨⟨none, 0, 0⟩, [], rfl, ⟨rfl, .inl rfl⟩, fun i => by unfold pX pY; simp, Nat.zero_le _⟩
  · simp at hcs
    subst hcs
    unfold maxLen at hm
    simp only [if_true] at hmm
    have each : ∀ i, i < l → (∃ z, V0 i = .int .i64 z ∧ (Lit.int .i64 z).wf = true) ∧ ∃ z, V1 i = .int .i64 z ∧ (Lit.int .i64 z).wf = true := fun i hi => by
      obtain ⟨_, _, h0, h1⟩ := hx i (by omega)
      obtain ⟨z0, e0, _, w0⟩ := DataW.trod_int Try.underlying3 h0
      obtain ⟨z1, e1, _, w1⟩ := DataW.trod_int Try.underlying3 h1
      simp at e0 e1
      exact ⟨⟨z0, e0, w0⟩, z1, e1, w1⟩
    refine ⟨⟨some x, l, c⟩, (List.range l).map fun (k : Nat) => (intOf (V0 k), intOf (V1 k)), rfl, ⟨by simp, ?_⟩, ?_, by simp only; omega⟩
    · by_cases h0 : l = 0
      · left; subst h0; simp
      · right
        obtain ⟨b, off, spot⟩ := x
        have hc := (hx 0 (by omega)).1
        have hspot : spot = none := by simpa [Addr.add] using World.cell?_spot hc
        subst hspot
        refine ⟨b, off, rfl, World.block_lt_of_cell? W ⟨b, off + 0, none⟩ (by simpa [Addr.add] using hc), fun i hi => ?_⟩
        simp at hi
        obtain ⟨k0, k1, _, _⟩ := hx i (by omega)
        obtain ⟨⟨z0, e0, _⟩, z1, e1, _⟩ := each i hi
        obtain ⟨q0, q1⟩ := ptsMk7 (fun k => intOf (V0 k)) (fun k => intOf (V1 k)) l i hi
        rw [q0, q1]
        simp only [e0, e1, intOf]
        rw [e0] at k0
        rw [e1] at k1
        refine ⟨?_, ?_⟩
        · by_cases h1 : i = 0
          · subst h1; simpa [Addr.add] using k0
          · have h2 : ¬ i * 2 = 0 := by omega
            simpa [Addr.add, h2] using k0
        have e : off + i * 2 + 1 = off + (i * 2 + 1) := by omega
        rw [e]
        simpa [Addr.add] using k1
    · intro i
      by_cases hi : i < l
      · obtain ⟨⟨z0, e0, w0⟩, z1, e1, w1⟩ := each i hi
        obtain ⟨q0, q1⟩ := ptsMk7 (fun k => intOf (V0 k)) (fun k => intOf (V1 k)) l i hi
        rw [q0, q1]
        simp only [e0, e1, intOf]
        exact ⟨bounds_i64 w0, bounds_i64 w1⟩
      · unfold pX pY
        rw [List.getD_eq_getElem?_getD, List.getElem?_eq_none (by simp; omega)]
        simp
theorem open_ptsArg {H : Type} {enc : TypeId × Value → H} {W : World} {base : Nat} {v : Value} {d : DataW H} {p : List MemPlace} (hv : Value.okWide Try.prog W .any base 38 v) (h : DataW.Trod enc Try.prog W 0 (fun _ => true) true 38 v d p) :
    ∃ (s : Sl) (ps : List (Int × Int)), v = .slice s.a s.len s.cap ∧ PtsIn W s.a s.len ps ∧ FitP ps ∧ s.len ≤ 9223372036854775807 := by
  obtain ⟨a, len, cap, rfl⟩ := okWide_slice Try.underlying38 hv
  obtain ⟨fuel, hf⟩ := h
  exact pts_of (y := (d, p)) (n := fuel) (by simpa [Value.cells] using hf)
theorem szPairS (a : Option Addr) (len cap : Nat) (left : Int) (w : World) (h0 : 0 ≤ left) (h1 : left ≤ 1048576) (hl : len ≤ 9223372036854775807) :
    Calls Try.prog 30 #[.slice a len cap, .int .i64 left] w fun e w' => e = .returned (.int .i64 (if left < len then -1 else left - len)) ∧ w = w' := by
  by_cases h : left < len
  · rw [if_pos h]
    go_enter Try.func30, Try.ntmps30
    go_wp2
    go_ret
    exact ⟨rfl, rfl⟩
  · rw [if_neg h]
    go_enter Try.func30, Try.ntmps30
    go_wp2
    go_ret
    exact ⟨rfl, rfl⟩
set_option maxHeartbeats 1000000 in
theorem toPairS (a : Option Addr) (len cap : Nat) (ps : List (Int × Int)) (w : World) (h : PtsIn w a len ps) (hl : len ≤ 1048576) :
    Calls Try.prog 31 #[.slice a len cap] w fun e w' => e = .returned (.slice (some ⟨w.heap.size, 0, none⟩) len len) ∧ OwnPt w' w.heap.size (.slice (some ⟨w.heap.size, 0, none⟩) len len) ps ∧ Below w.heap.size w w' := by
  obtain ⟨i0, hi0, hz0, hz1, hz2⟩ := info_parts infoPt6
  obtain ⟨hn, h2⟩ := h
  have HZ := Lib.hid (fun (k : Nat) => And.intro (cz0 ps k) (cz1 ps k))
  have HM := Lib.hid (made6 (cz ps) len)
  have HPS := Lib.hid (fun q => cpart_set (cz ps) (fun _ => 0) (len * 2) q)
  have HFIN := Lib.hid (show cpart (cz ps) (fun _ => 0) (len * 2) (len * 2) = pvals ps by have h := pvals_cpart ps (fun _ => 0); rw [← hn] at h; exact h.symm)
  have HLE := Lib.hid hn
  clear hn
  go_enter Try.func31, Try.ntmps31
  go_wp2_with (first
    | (at_make; refine wpList_make_full _ rfl _ _ 23 rfl w.heap.size 27 i0 (pt 0 0) 2 Try.underlying23 hi0 hz0 hz1 .i64 .i64 _ _ len rfl rfl (by omega) (by omega) (by rw [hz2]; omega) (by unfold maxLen; omega) (Nat.le_refl _) ?_; intro w1 own1 grow1))
  have own2 : w1.ownsRow w.heap.size 27 2 (.slice (some ⟨w.heap.size, 0, none⟩) len len) len (cpart (cz ps) (fun _ => 0) (len * 2) (0 * 2)) := by rw [← HM.out]; exact own1
  have HG : Below w.heap.size w w1 := (Below.refl _ _).grown grow1 (Nat.le_refl _) (fun k hk => by cases hk)
  clear own1 grow1
  go_loopw [4] (fun i wr => ∃ k : Nat, k ≤ len ∧ i = .int .i64 (k : Int) ∧ Hid (wr.ownsRow w.heap.size 27 2 (.slice (some ⟨w.heap.size, 0, none⟩) len len) len (cpart (cz ps) (fun _ => 0) (len * 2) (k * 2))) ∧ Hid (Below w.heap.size w wr)) (fun i _ => len - (intOf i).toNat)
  case atStart => exact ⟨0, Nat.zero_le _, rfl, Lib.hid own2, Lib.hid HG⟩
  case round =>
    obtain ⟨k, hk, rfl, HO, HW⟩ := hrel
    clear own2 HG
    by_cases hlt : k < len
    · rcases h2 with h3 | ⟨b, off, rfl, ltb, hc⟩
      · rw [HLE.out, h3] at hlt; simp at hlt
      · obtain ⟨c0, c1⟩ := hc k (by have := HLE.out; omega)
        have d1 : wr.cell? ⟨b, off + k * 2, none⟩ = _ := (HW.out.cell (p := ⟨b, off + k * 2, none⟩) ltb).trans c0
        have d2 : wr.cell? ⟨b, off + k * 2 + 1, none⟩ = _ := (HW.out.cell (p := ⟨b, off + k * 2 + 1, none⟩) ltb).trans c1
        have j1 : (0 : Int) ≤ (k : Int) := by omega
        have j2 : (k : Int) < (len : Int) := by omega
        have Z := HZ.out k
        clear hc c0 c1
        change _ = pX ps k ∧ _ = pY ps k at Z
        generalize pX ps k = px at *
        generalize pY ps k = py at *
        go_wp2_with fail
        refine (toPair px py _).mono ?_
        rintro e w2 ⟨rfl, B2⟩
        have HO2 := Lib.hid (World.ownsRow.kept (row := none) HO.out ⟨B2.os, B2.tape, B2.output, B2.size, fun k hk _ => B2.block k hk⟩ (.inr (by simp [Value.ownBlock])))
        have r1 := HO2.out.cellAt (k * 2) (by omega)
        rw [cpart_at _ _ _ _ _ (by omega)] at r1
        have r2 := HO2.out.frozenAt (k * 2)
        have r3 := HO2.out.cellAt (k * 2 + 1) (by omega)
        rw [cpart_at _ _ _ _ _ (by omega)] at r3
        have r4 := HO2.out.frozenAt (k * 2 + 1)
        have s1 := HO2.out.stored (k * 2) (.int .i64 px)
        have s2 := s1.1.stored (k * 2 + 1) (.int .i64 py)
        have HT := Lib.hid (And.intro s2.1 (s1.2.trans s2.2))
        rw [← Z.1, HPS.out (k * 2), ← Z.2, HPS.out (k * 2 + 1), Z.1, Z.2] at HT
        have HW2 := Lib.hid (below_call HW.out B2)
        clear s1 s2 Z B2 d1 d2
        go_wp2
        go_roundw
        case rel => exact ⟨k + 1, by omega, by congr 1, Lib.hid (by rw [show (k + 1) * 2 = k * 2 + 1 + 1 by omega]; exact HT.out.1), Lib.hid (HW2.out.grown HT.out.2 HW2.out.size (fun q hq => by injection hq with hq; omega))⟩
        case measure => simp [intOf]; omega
    · obtain rfl : k = len := by omega
      go_wp2
      go_ret
      refine ⟨rfl, ?_, HW.out⟩
      unfold OwnPt
      rw [← HFIN.out, ← HLE.out]
      exact HO.out
end Go.Proofs.Ytppkipcgpmijpaa.Prr
