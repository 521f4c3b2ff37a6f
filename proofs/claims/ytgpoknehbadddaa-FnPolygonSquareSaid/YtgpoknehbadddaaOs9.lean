/- Drawing a list of lists of points: what it holds. -/
import Derived.Test.YtgpoknehbadddaaDp8
import Derived.Test.YtgpoknehbadddaaDl8
import Derived.Test.YtgpoknehbadddaaOq9
namespace Go.Proofs.Ytgpoknehbadddaa
set_option maxRecDepth 100000
open Go.RowKit
attribute [local go_sem ↓] Go.wp_at_zero Go.wp_at_succ
/-- A row of at most 16 points of the call's own that lies apart from block ob. -/
def RowQ (u : World) (B : Nat) (s : Sl) (ps : List P2) (ob : Option Nat) : Prop := OwnPt u B (slQ s) ps ∧ ps.length ≤ 16 ∧ ((slQ s).ownBlock = none ∨ (slQ s).ownBlock ≠ ob)
theorem RowQ.pick {u u' : World} {B r : Nat} {s : Sl} {ps : List P2} {ob : Option Nat} (h : RowQ u B s ps ob) (hg : u.grownBy u' (some r)) (hr : r < B) : RowQ u' B s ps ob := ⟨h.1.pick8 hg hr, h.2⟩
theorem RowQ.next {u u' : World} {B : Nat} {s : Sl} {ps : List P2} {ob : Option Nat} (h : RowQ u B s ps ob) (hb : Below u.heap.size u u') : RowQ u' B s ps ob := ⟨h.1.next hb, h.2⟩
theorem RowQ.app {u u' : World} {B g : Nat} {s : Sl} {ps : List P2} {ob : Option Nat} (h : RowQ u B s ps ob) (hg : u.grownBy u' ob) (hat : ob = some g ∨ g = u.heap.size) : RowQ u' B s ps (some g) := by
  refine ⟨World.ownsRow.kept h.1 hg h.2.2, h.2.1, ?_⟩
  rcases h.1.2 with ⟨hv, _⟩ | ⟨b, c, cur, hv, hB, hb, _⟩
  · left; unfold slQ; unfold slQ at hv; rw [hv]; rfl
  · right
    have lt := (World.ownsRow.lt h.1 b (by rw [hv]; rfl)).2
    have e : (slQ s).ownBlock = some b := by rw [hv]; rfl
    rcases hat with rfl | rfl
    · rcases h.2.2 with k | k
      · rw [e] at k; cases k
      · exact k
    · rw [e]; intro k; injection k with k; omega
/-- A list of lists that is being drawn. -/
structure OS (w0 : World) (B M r : Nat) (u : World) (v : Value) (ss : List Sl) (pss : List (List P2)) : Prop where
  rd : Rd B M u r
  gr : w0.grownBy u (some r)
  n : ss.length = pss.length
  row : u.ownsRow w0.heap.size 31 1 v pss.length (ss.map slQ)
  each : ∀ i, i < pss.length → RowQ u w0.heap.size (ss.getD i ⟨none, 0, 0⟩) (pss.getD i []) v.ownBlock
section
variable {w0 u u' : World} {B M M' r : Nat} {v v' : Value} {ss : List Sl} {pss : List (List P2)}
theorem OS.old (h : OS w0 B M r u v ss pss) : ∀ k, v.ownBlock = some k → w0.heap.size ≤ k := fun k hk => (World.ownsRow.lt h.row k hk).1
theorem OS.pick (h : OS w0 B M r u v ss pss) (hr : Rd B M' u' r) (hg : u.grownBy u' (some r)) (hlt : r < w0.heap.size) : OS w0 B M' r u' v ss pss :=
  ⟨hr, h.gr.trans hg, h.n, World.ownsRow.kept h.row hg (.inr (fun e => by have := h.old r e; omega)), fun i hi => (h.each i hi).pick hg hlt⟩
theorem OS.mono (h : OS w0 B M r u v ss pss) (hM : M ≤ M') : OS w0 B M' r u v ss pss := ⟨h.rd.mono hM, h.gr, h.n, h.row, h.each⟩
theorem OS.alloc (h : OS w0 B M r u v ss pss) (o : Obj) : OS w0 B M r (u.alloc o) v ss pss :=
  ⟨h.rd.alloc o, only_alloc h.gr o, h.n, World.ownsRow.kept (row := none) h.row ⟨(below_box u o).os, (below_box u o).tape, (below_box u o).output, (below_box u o).size, fun k hk _ => (below_box u o).block k hk⟩ (by cases v.ownBlock <;> simp), fun i hi => (h.each i hi).next (below_box u o)⟩
theorem OS.new (hr : Rd B M u r) (hg : w0.grownBy u (some r)) (hb : w0.heap.size ≤ u.heap.size) (T : TypeId) (hT : T = 31) : OS w0 B M r (u.alloc (.cells #[] T)) (.slice (some ⟨u.heap.size, 0, none⟩) 0 0) [] [] := by
  subst hT
  refine ⟨hr.alloc _, only_alloc hg _, rfl, ?_, fun i hi => by simp at hi⟩
  have := World.ownsRow_lit (base := w0.heap.size) (e := 31) (size := 1) u #[] 0 hb (Nat.zero_le _) rfl
  simpa using this
/-- One row more. -/
theorem OS.app {g n cap : Nat} {s : Sl} {ps : List P2} (h : OS w0 B M r u v ss pss) (hlt : r < w0.heap.size) (hB : B ≤ w0.heap.size) (hq : RowQ u w0.heap.size s ps v.ownBlock)
    (own : u'.ownsRow w0.heap.size 31 1 (.slice (some ⟨g, 0, none⟩) n cap) (pss.length + 1) (ss.map slQ ++ [slQ s])) (grow : u.grownBy u' v.ownBlock) (hat : v.ownBlock = some g ∨ g = u.heap.size) :
    OS w0 B M r u' (.slice (some ⟨g, 0, none⟩) n cap) (ss ++ [s]) (pss ++ [ps]) := by
  refine ⟨h.rd.kept grow (fun e => by have := h.old r e.symm; omega) (fun k hk => by have := h.old k hk; omega), only_row h.gr grow h.old, by simp [h.n], ?_, fun i hi => ?_⟩
  · rw [List.length_append, List.map_append]; exact own
  · rw [List.length_append] at hi
    simp only [List.length_cons, List.length_nil] at hi
    by_cases hk : i < pss.length
    · have e1 : (ss ++ [s]).getD i ⟨none, 0, 0⟩ = ss.getD i ⟨none, 0, 0⟩ := by rw [List.getD_eq_getElem?_getD, List.getD_eq_getElem?_getD, List.getElem?_append_left (by rw [h.n]; exact hk)]
      have e2 : (pss ++ [ps]).getD i [] = pss.getD i [] := by rw [List.getD_eq_getElem?_getD, List.getD_eq_getElem?_getD, List.getElem?_append_left hk]
      rw [e1, e2]
      exact (h.each i hk).app grow hat
    · obtain rfl : i = pss.length := by omega
      have e1 : (ss ++ [s]).getD pss.length ⟨none, 0, 0⟩ = s := by rw [List.getD_eq_getElem?_getD, List.getElem?_append_right (by rw [h.n]; exact Nat.le_refl _), h.n]; simp
      have e2 : (pss ++ [ps]).getD pss.length [] = ps := by rw [List.getD_eq_getElem?_getD, List.getElem?_append_right (Nat.le_refl _)]; simp
      rw [e1, e2]
      exact hq.app grow hat
theorem OS.got9 (h : OS w0 B M r u v ss pss) : ∃ s : Sl, v = .slice s.a s.len s.cap ∧ PSA u s.a s.len pss ∧ s.len ≤ s.cap := by
  rcases h.row.2 with ⟨hv, hn⟩ | ⟨g, c, cur, hv, hb, hg, hc, _⟩
  · exact ⟨⟨none, 0, 0⟩, hv, ⟨hn.symm, .inl (List.eq_nil_of_length_eq_zero hn)⟩, Nat.le_refl _⟩
  · subst hv
    refine ⟨⟨some ⟨g, 0, none⟩, pss.length, c⟩, rfl, ⟨rfl, .inr ⟨g, rfl, (World.ownsRow.lt h.row g rfl).2, fun i hi => ?_⟩⟩, hc⟩
    obtain ⟨o, hl, _⟩ := h.each i hi
    refine ⟨ss.getD i ⟨none, 0, 0⟩, ?_, o.ints, ?_⟩
    · rw [World.ownsRow.cellAt h.row i (by omega), List.getElem?_map, List.getD_eq_getElem?_getD, List.getElem?_eq_getElem (by rw [h.n]; exact hi)]
      rfl
    · have := o.ints.1; omega
end
/-- What a call that draws a polygon leaves of what is being drawn; and its row. -/
theorem OS.poly {w0 u u' : World} {B M M' r : Nat} {v : Value} {ss : List Sl} {pss : List (List P2)} {s : Sl} {ps : List P2} (h : OS w0 B M r u v ss pss) (hlt : r < w0.heap.size) (L : LSt u B M' r u' (.slice s.a s.len s.cap) ps) (hn : ps.length ≤ 16) :
    OS w0 B M' r u' v ss pss ∧ RowQ u' w0.heap.size s ps v.ownBlock := by
  refine ⟨h.pick L.rd L.gr hlt, L.row.down6 h.gr.size, hn, ?_⟩
  rcases L.row.2 with ⟨hv, _⟩ | ⟨g, c, cur, hv, hb, _⟩
  · left; unfold slQ; rw [hv]; rfl
  · right
    unfold slQ
    rw [hv]
    intro e
    have := (World.ownsRow.lt h.row g e.symm).2
    omega
/-- What a draw of a scene says. -/
def DrawnO (B M r N : Nat) (w : World) (e : Ending) (w' : World) : Prop :=
  ∃ (s : Sl) (ss : List Sl) (pss : List (List P2)), e = .returned (.slice s.a s.len s.cap) ∧ pss.length ≤ N ∧ OS w B M r w' (.slice s.a s.len s.cap) ss pss
theorem OS.drawn {w0 u : World} {B M M' r N : Nat} {v : Value} {ss : List Sl} {pss : List (List P2)} (h : OS w0 B M r u v ss pss) (hM : M ≤ M') (hn : pss.length ≤ N) : DrawnO B M' r N w0 (.returned v) u := by
  obtain ⟨s, rfl, _⟩ := h.got9
  exact ⟨s, ss, pss, rfl, hn, h.mono hM⟩
/-- What is drawn stays while a region draws its order. -/
theorem GSt.pss9 {w w0 u w1 : World} {B M M' r : Nat} {rs : List Nat} {s : Sl} {ss : List Sl} {pss : List (List P2)} (h : GSt w w0 r rs M u) (hs : OS w1 B M' r w0 (.slice s.a s.len s.cap) ss pss) (hk : ∀ k, w1.heap.size ≤ k → k ≠ r ∧ k ∉ rs) : PSA u s.a s.len pss := by
  rcases hs.row.2 with ⟨hv, hn⟩ | ⟨g, c, cur, hv, hb, hg, hc, hm, hcs, ht⟩
  · simp only [Value.slice.injEq] at hv
    rw [hv.1, hv.2.1]
    rw [List.eq_nil_of_length_eq_zero hn]
    exact PSA.nil u none
  · have e := h.keep g (Array.getElem?_eq_some_iff.1 hg).1 (hk g hb).1 (hk g hb).2
    have row : u.ownsRow w1.heap.size 31 1 (.slice s.a s.len s.cap) pss.length (ss.map slQ) := ⟨hs.row.1, .inr ⟨g, c, cur, hv, hb, e.trans hg, hc, hm, hcs, ht⟩⟩
    have hv' := hv
    simp only [Value.slice.injEq] at hv
    obtain ⟨h1, h2, h3⟩ := hv
    rw [hv'] at row
    rw [h1, h2]
    refine ⟨rfl, .inr ⟨g, rfl, (World.ownsRow.lt row g rfl).2, fun i hi => ?_⟩⟩
    obtain ⟨o, hl, _⟩ := hs.each i hi
    have o2 : OwnPt u w1.heap.size (slQ (ss.getD i ⟨none, 0, 0⟩)) (pss.getD i []) := h.ownPt o (fun k q => hk k (World.ownsRow.lt o k q).1)
    refine ⟨ss.getD i ⟨none, 0, 0⟩, ?_, o2.ints, ?_⟩
    · rw [World.ownsRow.cellAt row i (by omega), List.getElem?_map, List.getD_eq_getElem?_getD, List.getElem?_eq_getElem (by rw [hs.n]; exact hi)]
      rfl
    · have := o2.ints.1; omega
def LoopO (w0 : World) (B M r N k : Nat) (v : Value) (wr : World) : Prop := ∃ ss pss, pss.length + k = N ∧ OS w0 B (M + 200 * pss.length) r wr v ss pss
