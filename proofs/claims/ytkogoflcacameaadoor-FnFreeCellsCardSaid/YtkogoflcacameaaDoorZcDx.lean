/- Several of my texts in one: Dx8, Bx8. -/
import Derived.Test.YtkogoflcacameaaDoorZbDh
import Derived.Test.YtkogoflcacameaaDoorZbHv
import Derived.Deep.AppendLies
namespace Go.Proofs.YtkogoflcacameaaDoor
set_option maxRecDepth 100000
open Go.RowKit
attribute [local go_sem ↓] Go.wp_at_zero Go.wp_at_succ
theorem specPointValidC (p : P2) (w : World) : Calls Tryd.prog 77 #[pt p.1 p.2] w fun e w' => e = .returned (.bool (decide (okQ p))) ∧ Below w.heap.size w w' := specPointValid p.1 p.2 w
end Go.Proofs.YtkogoflcacameaaDoor
namespace Go.Proofs.YtkogoflcacameaaDoor
set_option maxRecDepth 100000
open Go.RowKit
attribute [local go_sem ↓] Go.wp_at_zero Go.wp_at_succ
/-- The cells of a slice of points, from its address on. -/
theorem PL.news {w : World} {a : Addr} {len : Nat} {ps : List P2} (h : PL w (some a) len ps) (hl : 1 ≤ len) : ∀ j u, (pvals ps)[j]? = some u → w.cell? (a.add j) = some u := by
  obtain ⟨b, o, e, lt, hc⟩ := h.somes hl
  injection e with e
  subst e
  intro j u hu
  have hj : j < ps.length * 2 := by
    rcases Nat.lt_or_ge j (ps.length * 2) with k | k
    · exact k
    · rw [List.getElem?_eq_none (by rw [pvals_len]; exact k)] at hu; cases hu
  rw [pvals_at ps j hj] at hu
  injection hu with hu
  subst hu
  have hadd : (⟨b, o, none⟩ : Addr).add j = ⟨b, o + j, none⟩ := by unfold Addr.add; split <;> simp_all
  rw [hadd]
  have := hc (j / 2) (by rw [h.1]; omega)
  unfold cz
  rcases Nat.mod_two_eq_zero_or_one j with z | z
  · rw [if_pos z]
    have e : o + j = o + j / 2 * 2 := by omega
    rw [e]; exact this.1
  · rw [if_neg (by omega)]
    have e : o + j = o + j / 2 * 2 + 1 := by omega
    rw [e]; exact this.2
theorem pvals_one8 (ps : List P2) : ∀ u ∈ pvals ps, u.oneCell' = true := by
  intro u hu
  obtain ⟨j, hj, rfl⟩ := List.getElem_of_mem hu
  have := pvals_at ps j (by rw [pvals_len] at hj; exact hj)
  rw [List.getElem?_eq_getElem hj] at this
  injection this with this
  rw [this]; rfl
theorem pvals_app8 (p1 p2 : List P2) : pvals (p1 ++ p2) = pvals p1 ++ pvals p2 := by
  apply List.ext_getElem?
  intro j
  by_cases hj : j < p1.length * 2
  · rw [List.getElem?_append_left (by rw [pvals_len]; exact hj), pvals_at _ j (by rw [List.length_append]; omega), pvals_at _ j hj]
    unfold cz
    rw [List.getD_eq_getElem?_getD, List.getD_eq_getElem?_getD, List.getElem?_append_left (by omega)]
  · rw [List.getElem?_append_right (by rw [pvals_len]; omega), pvals_len]
    by_cases hk : j < (p1 ++ p2).length * 2
    · rw [pvals_at _ j hk, pvals_at _ _ (by rw [List.length_append] at hk; omega)]
      unfold cz
      rw [List.getD_eq_getElem?_getD, List.getD_eq_getElem?_getD, List.getElem?_append_right (by omega), show (j - p1.length * 2) / 2 = j / 2 - p1.length by omega, show (j - p1.length * 2) % 2 = j % 2 by omega]
    · rw [List.getElem?_eq_none (by rw [pvals_len]; omega), List.getElem?_eq_none (by rw [pvals_len]; rw [List.length_append] at hk; omega)]
/-- Two stores into a box. -/
theorem grown_box (w : World) (b : Nat) (u v : Value) : w.grownBy ((w.setCell ⟨b, 0, none⟩ u).setCell ⟨b, 1, none⟩ v) (some b) :=
  ⟨rfl, rfl, rfl, by simp [World.setCell], fun k _ hk => (Below.heap_setCell _ _ _ k (by rintro rfl; exact hk rfl)).trans (Below.heap_setCell _ _ _ k (by rintro rfl; exact hk rfl))⟩
abbrev ptC (x : P2) : Array Value := #[.int .i64 x.1, .int .i64 x.2]
/-- The row, and all that lay before. -/
structure Ro (w u : World) (v : Value) (H : List P2) : Prop where
  own : OwnPt u w.heap.size v H
  bel : Below w.heap.size w u
/-- A box beside the row. -/
structure Bx (w u : World) (v : Value) (b : Nat) (x : P2) : Prop where
  c : Cells8 u b (ptC x) 89
  lo : w.heap.size ≤ b
  ne : v.ownBlock ≠ some b
section
variable {w u u' : World} {v : Value} {H : List P2} {b c : Nat} {x : P2}
theorem Bx.next (h : Bx w u v b x) (hb : Below u.heap.size u u') : Bx w u' v b x := ⟨h.c.next hb, h.lo, h.ne⟩
theorem Bx.at (h : Bx w u v b x) : AtP u b x.1 x.2 := ⟨h.c.lt, h.c.cell rfl, h.c.cell rfl⟩
theorem Bx.fr (h : Bx w u v b x) : u.frozen? ⟨b, 0, none⟩ = false ∧ u.frozen? ⟨b, 1, none⟩ = false := ⟨h.c.frozen, h.c.frozen⟩
theorem Bx.put (h : Bx w u v b x) (y : P2) : Bx w ((u.setCell ⟨b, 0, none⟩ (.int .i64 y.1)).setCell ⟨b, 1, none⟩ (.int .i64 y.2)) v b y :=
  ⟨by have := (h.c.set 0 (.int .i64 y.1)).set 1 (.int .i64 y.2); exact this, h.lo, h.ne⟩
theorem Bx.far (h : Bx w u v b x) (hc : b ≠ c) (p q : Value) : Bx w ((u.setCell ⟨c, 0, none⟩ p).setCell ⟨c, 1, none⟩ q) v b x :=
  ⟨(h.c.other hc p).other hc q, h.lo, h.ne⟩
theorem Bx.new (h : Ro w u v H) (x : P2) : Bx w (u.alloc (.cells (ptC x) 89)) v u.heap.size x :=
  ⟨Cells8.new _ _ _, h.bel.size, fun e => by have := (World.ownsRow.lt h.own _ e).2; omega⟩
theorem Bx.app {g n cap : Nat} (h : Bx w u v b x) (hg : u.grownBy u' v.ownBlock) (ha : v.ownBlock = some g ∨ g = u.heap.size) : Bx w u' (.slice (some ⟨g, 0, none⟩) n cap) b x := by
  refine ⟨(hg.block b h.c.lt (fun e => h.ne e.symm)).trans h.c, h.lo, fun e => ?_⟩
  have e' : g = b := by simpa [Value.ownBlock] using e
  rcases ha with k | k
  · exact h.ne (by rw [k, e'])
  · have := h.c.lt; omega
theorem Ro.next (h : Ro w u v H) (hb : Below u.heap.size u u') : Ro w u' v H := ⟨h.own.next hb, below_call h.bel hb⟩
theorem Ro.put (h : Ro w u v H) (k : Bx w u v b x) (p q : Value) : Ro w ((u.setCell ⟨b, 0, none⟩ p).setCell ⟨b, 1, none⟩ q) v H :=
  ⟨World.ownsRow.kept h.own (grown_box u b p q) (.inr k.ne), below_set h.bel k.lo p q⟩
theorem Ro.app {v' : Value} {H' : List P2} (h : Ro w u v H) (hg : u.grownBy u' v.ownBlock) (own : OwnPt u' w.heap.size v' H') : Ro w u' v' H' :=
  ⟨own, h.bel.grown hg h.bel.size (fun k hk => (World.ownsRow.lt h.own k hk).1)⟩
theorem Ro.row {a : Option Addr} {n cap : Nat} (h : Ro w u (.slice a n cap) H) : RowP H w (.returned (.slice a n cap)) u := ⟨⟨a, n, cap⟩, rfl, (own_len h.own).1, h.own, h.bel⟩
theorem Ro.sl (h : Ro w u v H) : ∃ a n cap, v = .slice a n cap ∧ n = H.length := by
  obtain ⟨s, e, k⟩ := h.own.sl
  exact ⟨s.a, s.len, s.cap, e, k⟩
theorem Ro.empty (h : Below w.heap.size w u) (T : TypeId) (hT : T = 89) : Ro w (u.alloc (.cells #[] T)) (.slice (some ⟨u.heap.size, 0, none⟩) 0 0) [] :=
  ⟨OwnPt.down6 (ownPt_empty u T hT) h.size, below_call h (below_box u _)⟩
end
/-- A slice's length. -/
def slLen : Value → Nat
  | .slice _ n _ => n
  | _ => 0
end Go.Proofs.YtkogoflcacameaaDoor
