/- Drawing lists of pairs from a code (out of Lst7). -/
import Derived.Test.YtppkipcgpmijpaaZbRd
import Derived.Test.YtppkipcgpmijpaaZbDr
import Derived.Test.YtppkipcgpmijpaaPr16
import Derived.Test.YtppkipcgpmijpaaZbNum
import Derived.Test.YtppkipcgpmijpaaZbInv
namespace Go.Proofs.Ytppkipcgpmijpaa.Prr
set_option maxRecDepth 100000
open Go.RowKit
attribute [local go_sem ↓] Go.wp_at_zero Go.wp_at_succ
/-- The coordinates are small. -/
def SmP (ps : List (Int × Int)) : Prop := ∀ p ∈ ps, (-50 ≤ p.1 ∧ p.1 ≤ 1001) ∧ -170 ≤ p.2 ∧ p.2 ≤ 900
theorem SmP.nil : SmP [] := fun p hp => by cases hp
theorem SmP.snoc {ps : List (Int × Int)} (h : SmP ps) {x y : Int} (h1 : -50 ≤ x) (h2 : x ≤ 1001) (h3 : -170 ≤ y) (h4 : y ≤ 900) : SmP (ps ++ [(x, y)]) := fun p hp => by
  rcases List.mem_append.1 hp with k | k
  · exact h p k
  · rw [List.mem_singleton.1 k]; exact ⟨⟨h1, h2⟩, h3, h4⟩
theorem SmP.set {ps : List (Int × Int)} (h : SmP ps) (k : Nat) {x y : Int} (h1 : -50 ≤ x) (h2 : x ≤ 1001) (h3 : -170 ≤ y) (h4 : y ≤ 900) : SmP (ps.set k (x, y)) := fun p hp => by
  rcases List.mem_or_eq_of_mem_set hp with k | k
  · exact h p k
  · rw [k]; exact ⟨⟨h1, h2⟩, h3, h4⟩
theorem SmP.at {ps : List (Int × Int)} (h : SmP ps) (i : Nat) : (-50 ≤ pX ps i ∧ pX ps i ≤ 1001) ∧ -170 ≤ pY ps i ∧ pY ps i ≤ 900 := by
  unfold pX pY
  rw [List.getD_eq_getElem?_getD]
  cases hx : ps[i]? with
  | none => simp
  | some p => exact h p (List.mem_of_getElem? hx)
theorem cz_set (ps : List (Int × Int)) (k : Nat) (x y : Int) (hk : k < ps.length) (j : Nat) : cz (ps.set k (x, y)) j = if j = k * 2 then x else if j = k * 2 + 1 then y else cz ps j := by
  unfold cz
  rw [List.getD_eq_getElem?_getD, List.getElem?_set]
  by_cases h0 : j = k * 2
  · subst h0
    rw [if_pos (by omega), if_pos (by omega), if_pos hk, if_pos rfl]
    rfl
  · by_cases h1 : j = k * 2 + 1
    · subst h1
      rw [if_neg (by omega), if_pos (by omega), if_pos hk, if_neg (by omega), if_pos rfl]
      rfl
    · rw [if_neg (by omega : ¬ k = j / 2), if_neg h0, if_neg h1, ← List.getD_eq_getElem?_getD]
theorem pvals_set (ps : List (Int × Int)) (k : Nat) (x y : Int) (hk : k < ps.length) : ((pvals ps).set (k * 2) (.int .i64 x)).set (k * 2 + 1) (.int .i64 y) = pvals (ps.set k (x, y)) := by
  apply List.ext_getElem?
  intro j
  by_cases hj : j < ps.length * 2
  · rw [pvals_at (ps.set k (x, y)) j (by rw [List.length_set]; exact hj), cz_set ps k x y hk, List.getElem?_set, List.getElem?_set, List.length_set, pvals_len]
    by_cases h0 : j = k * 2
    · subst h0; rw [if_neg (by omega), if_pos rfl, if_pos hj, if_pos rfl]
    · by_cases h1 : j = k * 2 + 1
      · subst h1; rw [if_pos rfl, if_pos hj, if_neg h0, if_pos rfl]
      · rw [if_neg (fun e => h1 e.symm), if_neg (fun e => h0 e.symm), if_neg h0, if_neg h1, pvals_at ps j hj]
  · rw [List.getElem?_eq_none (by simp [pvals_len]; omega), List.getElem?_eq_none (by simp [pvals_len]; omega)]
theorem OwnPt.at7 {w : World} {B : Nat} {v : Value} {ps : List (Int × Int)} (h : OwnPt w B v ps) (hn : 1 ≤ ps.length) : ∃ g cap, v = .slice (some ⟨g, 0, none⟩) ps.length cap ∧ B ≤ g ∧ ps.length ≤ cap := by
  rcases h.2 with ⟨hv, hn'⟩ | ⟨g, c, cur, hv, hb, _, hc, _⟩
  · omega
  · exact ⟨g, c, hv, hb, hc⟩
/-- A list of pairs that is being drawn: it is the call's own, and of what lay in w0 the reader alone has changed. -/
structure LSt (w0 : World) (B M r : Nat) (u : World) (v : Value) (ps : List (Int × Int)) : Prop where
  rd : Rd B M u r
  gr : w0.grownBy u (some r)
  row : OwnPt u w0.heap.size v ps
section
variable {w0 u u' : World} {B M M' r : Nat} {v v' : Value} {ps ps' : List (Int × Int)}
theorem LSt.old (h : LSt w0 B M r u v ps) : ∀ k, v.ownBlock = some k → w0.heap.size ≤ k := fun k hk => (World.ownsRow.lt h.row k hk).1
theorem LSt.pick (h : LSt w0 B M r u v ps) (hr : Rd B M' u' r) (hg : u.grownBy u' (some r)) (hlt : r < w0.heap.size) : LSt w0 B M' r u' v ps :=
  ⟨hr, h.gr.trans hg, World.ownsRow.kept h.row hg (.inr (fun e => by have := h.old r e; omega))⟩
theorem LSt.mono (h : LSt w0 B M r u v ps) (hM : M ≤ M') : LSt w0 B M' r u v ps := ⟨h.rd.mono hM, h.gr, h.row⟩
theorem LSt.alloc (h : LSt w0 B M r u v ps) (o : Obj) : LSt w0 B M r (u.alloc o) v ps := ⟨h.rd.alloc o, only_alloc h.gr o, h.row.next (below_box u o)⟩
theorem LSt.app (h : LSt w0 B M r u v ps) (hlt : r < w0.heap.size) (hB : B ≤ w0.heap.size) (own : OwnPt u' w0.heap.size v' ps') (grow : u.grownBy u' v.ownBlock) : LSt w0 B M r u' v' ps' :=
  ⟨h.rd.kept grow (fun e => by have := h.old r e.symm; omega) (fun k hk => by have := h.old k hk; omega), only_row h.gr grow h.old, own⟩
theorem LSt.new (hr : Rd B M u r) (hg : w0.grownBy u (some r)) (hb : w0.heap.size ≤ u.heap.size) (T : TypeId) (hT : T = 27) : LSt w0 B M r (u.alloc (.cells #[] T)) (.slice (some ⟨u.heap.size, 0, none⟩) 0 0) [] :=
  ⟨hr.alloc _, only_alloc hg _, OwnPt.down6 (ownPt_empty u T hT) hb⟩
/-- One pair is put in the place of another. -/
theorem LSt.put {g n cap k : Nat} (h : LSt w0 B M r u (.slice (some ⟨g, 0, none⟩) n cap) ps) (hlt : r < w0.heap.size) (hB : B ≤ w0.heap.size) (hk : k < ps.length) (x y : Int) :
    LSt w0 B M r ((u.setCell ⟨g, k * 2, none⟩ (.int .i64 x)).setCell ⟨g, k * 2 + 1, none⟩ (.int .i64 y)) (.slice (some ⟨g, 0, none⟩) n cap) (ps.set k (x, y)) := by
  have hn : n = ps.length := by
    rcases h.row.2 with ⟨hv, _⟩ | ⟨_, _, _, hv, _⟩
    · cases hv
    · simp only [Value.slice.injEq] at hv; exact hv.2.1
  subst hn
  have s1 := World.ownsRow.stored h.row (k * 2) (.int .i64 x)
  have s2 := s1.1.stored (k * 2 + 1) (.int .i64 y)
  refine h.app hlt hB ?_ (s1.2.trans s2.2)
  have o := s2.1
  rw [pvals_set ps k x y hk] at o
  unfold OwnPt
  rw [List.length_set]
  exact o
end
/-- What a draw of a list says. -/
def DrawnL (B M r N : Nat) (w : World) (e : Ending) (w' : World) : Prop :=
  ∃ (s : Sl) (ps : List (Int × Int)), e = .returned (.slice s.a s.len s.cap) ∧ s.len = ps.length ∧ ps.length ≤ N ∧ SmP ps ∧ LSt w B M r w' (.slice s.a s.len s.cap) ps
theorem LSt.drawn {w0 u : World} {B M M' r N : Nat} {v : Value} {ps : List (Int × Int)} (h : LSt w0 B M r u v ps) (hM : M ≤ M') (hn : ps.length ≤ N) (hs : SmP ps) : DrawnL B M' r N w0 (.returned v) u := by
  obtain ⟨s, rfl, hl⟩ := h.row.sl
  exact ⟨s, ps, rfl, hl, hn, hs, h.mono hM⟩
end Go.Proofs.Ytppkipcgpmijpaa.Prr
