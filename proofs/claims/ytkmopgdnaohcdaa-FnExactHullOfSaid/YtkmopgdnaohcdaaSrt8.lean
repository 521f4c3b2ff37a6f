/- The program's sorted points, and points turned round in place. -/
import Derived.Test.YtkmopgdnaohcdaaCp8
import Derived.Test.YtkmopgdnaohcdaaVa8
import Derived.Test.YtkmopgdnaohcdaaShp8
namespace Go.Proofs.Ytkmopgdnaohcdaa
set_option maxRecDepth 100000
open Go.RowKit Go.Sort Go.Shelf Go.Lib
attribute [local go_sem ↓] Go.wp_at_zero Go.wp_at_succ
/-- A point's two cells. -/
def encQ8 (x : P2) : List Value := [.int .i64 x.1, .int .i64 x.2]
theorem encQ8_one (x : P2) : ∀ v ∈ encQ8 x, v.oneCell' = true := fun v hv => by simp [encQ8] at hv; rcases hv with rfl | rfl <;> rfl
theorem flat_vals (ps : List P2) : flatK encQ8 2 ps.toArray = (pvals ps).toArray := by
  refine ext_get! (by simp [pvals_len]) fun t ht => ?_
  have ht' : t < ps.length * 2 := by simpa using ht
  rw [get_flatK _ _ _ _ (by simpa using ht')]
  have e : (pvals ps).toArray[t]! = .int .i64 (cz ps t) := by
    have := pvals_at ps t ht'
    rw [getElem!_pos _ t (by simpa [pvals_len] using ht')]
    simpa [List.getElem?_eq_getElem (show t < (pvals ps).length by rw [pvals_len]; exact ht')] using this
  rw [e]
  have g : ps.toArray[t / 2]! = ps.getD (t / 2) (0, 0) := by
    rw [getElem!_pos _ _ (by simp; omega), List.getD_eq_getElem?_getD, List.getElem?_eq_getElem (by omega)]; simp
  rw [g]
  unfold cz encQ8
  rcases Nat.mod_two_eq_zero_or_one t with h | h <;> rw [h] <;> simp
theorem heap_putV {w : World} {g n : Nat} {os : Array Obj} {cur : Array Value} {e : TypeId} {fr : Nat × Nat} (F : Array Value) (hb : w.heap[g]? = some (.cells cur e fr)) :
    (grow (putRow id (Sort.ahead w n) g 0 F) os).heap[g]? = some (.cells (putCells id 0 F cur) e fr) := by
  have hg : g < w.heap.size := (Array.getElem?_eq_some_iff.1 hb).1
  rw [heap_grow_old _ _ (by simpa using hg)]
  simp [putRow, mapBlock, Sort.ahead, Array.getElem?_modify, hb, onCells]
theorem grownBy_putV {w : World} {g n : Nat} {os : Array Obj} (F : Array Value) : w.grownBy (grow (putRow id (Sort.ahead w n) g 0 F) os) (some g) := by
  refine ⟨rfl, rfl, rfl, by simp, fun k hk hne => ?_⟩
  rw [heap_grow_old _ _ (by simpa using hk)]
  have : g ≠ k := fun e => hne (by rw [e])
  simp [putRow, mapBlock, Sort.ahead, Array.getElem?_modify, this]
theorem take_putV (cur : Array Value) (vs : List Value) (h : vs.length ≤ cur.size) : (putCells id 0 vs.toArray cur).toList.take vs.length = vs := by
  apply List.ext_getElem?
  intro j
  by_cases hj : j < vs.length
  · rw [List.getElem?_take_of_lt hj, Array.getElem?_toList]
    simp [putCells, hj, show j < cur.size by omega]
  · rw [List.getElem?_take_eq_none (by omega), List.getElem?_eq_none (by omega)]
/-- The same slice holds other points. -/
theorem own_put {w : World} {B g len cap n : Nat} {os : Array Obj} {ps qs : List P2} (h : OwnPt w B (.slice (some ⟨g, 0, none⟩) len cap) ps) (hl : qs.length = ps.length) :
    OwnPt (grow (putRow id (Sort.ahead w n) g 0 (pvals qs).toArray) os) B (.slice (some ⟨g, 0, none⟩) len cap) qs := by
  obtain ⟨h1, h2⟩ := h
  rcases h2 with ⟨hv, _⟩ | ⟨g', cap', cur, hv, hB, hg, hn, hc, hs, ht⟩
  · cases hv
  · simp only [Value.slice.injEq, Option.some.injEq, Addr.mk.injEq, and_true] at hv
    obtain ⟨rfl, e2, rfl⟩ := hv
    refine ⟨pvals_len qs, .inr ⟨g, cap, _, by rw [hl, e2], hB, heap_putV _ hg, by rw [hl]; exact hn, hc, by simp [putCells, hs], ?_⟩⟩
    rw [← pvals_len qs]
    exact take_putV cur (pvals qs) (by rw [pvals_len, hs, hl]; exact Nat.mul_le_mul_right 2 hn)
theorem own_len {w : World} {B : Nat} {a : Option Addr} {len cap : Nat} {ps : List P2} (h : OwnPt w B (.slice a len cap) ps) : len = ps.length ∧ ((a = none ∧ len = 0 ∧ cap = 0) ∨ ∃ g, a = some ⟨g, 0, none⟩ ∧ B ≤ g ∧ g < w.heap.size) := by
  rcases h.2 with ⟨hv, hn⟩ | ⟨g, cap', cur, hv, hB, hg, _⟩
  · simp only [Value.slice.injEq] at hv
    exact ⟨by omega, .inl ⟨hv.1, hv.2.1, hv.2.2⟩⟩
  · simp only [Value.slice.injEq] at hv
    exact ⟨hv.2.1, .inr ⟨g, hv.1, hB, (Array.getElem?_eq_some_iff.1 hg).1⟩⟩
theorem holds_own {w : World} {B g len cap : Nat} {ps : List P2} (h : OwnPt w B (.slice (some ⟨g, 0, none⟩) len cap) ps) : HoldsK encQ8 2 w g 0 ps.toArray := by
  obtain rfl := (own_len h).1
  unfold HoldsK
  rw [flat_vals]
  intro j hj
  have hj' : j < ps.length * 2 := by simpa [pvals_len] using hj
  rw [Nat.zero_add]
  refine ⟨?_, World.ownsRow.frozenAt h j⟩
  rw [World.ownsRow.cellAt h j hj', pvals_at ps j hj', getElem!_pos _ j hj]
  have := pvals_at ps j hj'
  simpa [List.getElem?_eq_getElem (show j < (pvals ps).length by rw [pvals_len]; exact hj')] using this.symm
theorem tot8 (x y : P2) (h1 : ltOf cmp2 x y = false) (h2 : ltOf cmp2 y x = false) : x = y := by
  have a := (lt_no8 x y).1 h1
  have b := (lt_no8 y x).1 h2
  exact le2_anti (by rcases le2_total x y with k | k; exact k; exact absurd k b) (by rcases le2_total y x with k | k; exact k; exact absurd k a)
set_option maxHeartbeats 1000000 in
theorem sortOwn (g cap : Nat) (ps : List P2) (B : Nat) (w : World) (h : OwnPt w B (.slice (some ⟨g, 0, none⟩) ps.length cap) ps) (hl : ps.length ≤ 5000) :
    Calls Try.prog 103 #[.slice (some ⟨g, 0, none⟩) ps.length cap, .func (.func 96) #[] #[]] w fun e w' => e = .returned (.tuple #[]) ∧ OwnPt w' B (.slice (some ⟨g, 0, none⟩) ps.length cap) (srt ps) ∧ w.grownBy w' (some g) := by
  have hg : g < w.heap.size := by rcases (own_len h).2 with ⟨h0, _⟩ | ⟨g', e, _, lt⟩; cases h0; cases e; exact lt
  have := AnyQ.slices_SortFunc_total Try.sortP 2 Try.isAgg28 Try.sizeOf28 encQ8 (fun _ => rfl) encQ8_one cmp2 swo8 96 #[] g 0 cap ps.toArray w
    (enters_of Try.func96 (by kernel_rfl) rfl) (fun m os dk _ x y => comparePts x y _) (holds_own h) hg (by simp; omega) tot8
  refine this.mono ?_
  rintro e w' ⟨he, n, os, hw⟩
  refine ⟨he, ?_, ?_⟩
  · rw [hw]; unfold sortWorldK putRowK; rw [flat_vals]; exact own_put h (srt_len ps)
  · rw [hw]; unfold sortWorldK putRowK; rw [flat_vals]; exact grownBy_putV _
set_option maxHeartbeats 1000000 in
theorem revOwn (g cap : Nat) (ps : List P2) (B : Nat) (w : World) (h : OwnPt w B (.slice (some ⟨g, 0, none⟩) ps.length cap) ps) (hl : ps.length ≤ 5000) :
    Calls Try.prog 98 #[.slice (some ⟨g, 0, none⟩) ps.length cap] w fun e w' => e = .returned (.tuple #[]) ∧ OwnPt w' B (.slice (some ⟨g, 0, none⟩) ps.length cap) ps.reverse ∧ w.grownBy w' (some g) := by
  have := AnyQ.slices_Reverse Try.revP 2 Try.isAgg28 Try.sizeOf28 encQ8 (fun _ => rfl) encQ8_one g 0 cap ps.toArray w (holds_own h) (by simp; omega)
  refine this.mono ?_
  rintro e w' ⟨he, n, hw⟩
  have hw2 : w' = grow (putRow id (Sort.ahead w n) g 0 (pvals ps.reverse).toArray) #[] := by
    rw [hw, grow_empty]; unfold putRowK; rw [List.reverse_toArray, flat_vals]
  refine ⟨he, ?_, ?_⟩
  · rw [hw2]; exact own_put h (by simp)
  · rw [hw2]; exact grownBy_putV _
set_option maxHeartbeats 1000000 in
theorem sortedFuncC (gf : Nat) (lb : Array Value) (ps : List P2) (w : World) (hx : ps.length ≤ 5000) (eg : ∀ args w, (callFunc gf args).run Try.prog w = .ok (.enter gf args) w)
    (hseq : ∀ n, SeqStopsK Fence.wide n Try.prog gf lb encP8 (Below w.heap.size) (fun ys => ys = ps) (fun _ => True) ps.length w) :
    Calls Try.prog 94 #[.func (.func gf) #[] lb, .func (.func 96) #[] #[]] w (RowP (srt ps) w) := by
  have HC := Lib.hid (collectP gf lb ps w hx eg hseq)
  clear hseq eg
  go_enter Try.func94, Try.ntmps94
  go_wp2_with fail
  refine HC.out.mono ?_
  rintro e w1 ⟨s, rfl, hs, O, B⟩
  obtain ⟨hl, ho⟩ := own_len O
  rcases ho with ⟨h1, h2, h3⟩ | ⟨g, h1, h2, h3⟩
  · have hp : ps = [] := List.eq_nil_of_length_eq_zero (by omega)
    obtain ⟨sa, sl, sc⟩ := s
    simp only at h1 h2 h3 hs hl O
    subst h1 h2 h3 hp
    have HO := Lib.hid (show RowP (srt []) w (.returned (.slice none 0 0)) w1 by
      rw [show srt [] = [] from List.eq_nil_of_length_eq_zero (srt_len [])]
      exact ⟨⟨none, 0, 0⟩, rfl, rfl, O, B⟩)
    clear O B hs hl
    go_wp2_with fail
    refine (AnyF.slices_SortFunc_none Try.sortP none 0 (.func (.func 96) #[] #[]) w1).mono ?_
    rintro e w2 ⟨rfl, rfl⟩
    go_wp2
    go_ret
    exact HO.out
  · obtain ⟨sa, sl, sc⟩ := s
    simp only at h1 h2 h3 hs hl O
    subst h1 hs
    have HS := Lib.hid (sortOwn g sc ps w.heap.size w1 O hx)
    have HB := Lib.hid B
    have HG := Lib.hid h2
    clear O B hl h2 h3
    go_wp2_with fail
    refine HS.out.mono ?_
    rintro e w2 ⟨rfl, O2, G2⟩
    have HF := Lib.hid (show RowP (srt ps) w (.returned (.slice (some ⟨g, 0, none⟩) ps.length sc)) w2 from ⟨⟨_, _, _⟩, rfl, (srt_len ps).symm, O2, HB.out.grown G2 HB.out.size (fun k hk => by injection hk with hk; rw [← hk]; exact HG.out)⟩)
    clear O2 G2
    go_wp2
    go_ret
    exact HF.out
end Go.Proofs.Ytkmopgdnaohcdaa
