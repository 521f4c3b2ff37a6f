/- What the laws over arms draw from a code: the state between two draws. -/
import Derived.Test.YtkmopgdnaohcdaaOp
import Derived.Test.YtkmopgdnaohcdaaArm3c
import Derived.Deep.RegionWith
import Derived.Deep.RegionLaw
import Derived.Deep.DeepCutAuto
import Derived.Deep.AppendLies
namespace Go.Proofs.Ytkmopgdnaohcdaa
set_option maxRecDepth 100000
open Go.RowKit
attribute [local go_sem ↓] Go.wp_at_zero Go.wp_at_succ

/-- Small numbers. -/
def Sm (N : Int) (zs : List Int) : Prop := ∀ i, -N ≤ zs.getD i 0 ∧ zs.getD i 0 ≤ N
abbrev Small (zs : List Int) : Prop := Sm 1000 zs
theorem Sm.nil {N : Int} (hN : 0 ≤ N) : Sm N [] := fun i => by simp; omega
theorem Sm.mono {N N' : Int} {zs : List Int} (h : Sm N zs) (hN : N ≤ N') : Sm N' zs := fun i => by have := h i; omega
theorem Sm.snoc {N : Int} {zs : List Int} (h : Sm N zs) {z : Int} (h0 : -N ≤ z) (h1 : z ≤ N) : Sm N (zs ++ [z]) := fun i => by
  have hN : 0 ≤ N := by have := h 0; omega
  rw [List.getD_eq_getElem?_getD, List.getElem?_append]
  split
  · have := h i; rw [List.getD_eq_getElem?_getD] at this; exact this
  · rw [List.getElem?_singleton]
    split
    · exact ⟨h0, h1⟩
    · simp; omega
theorem Sm.set {N : Int} {zs : List Int} (h : Sm N zs) (k : Nat) {z : Int} (h0 : -N ≤ z) (h1 : z ≤ N) : Sm N (zs.set k z) := fun i => by
  have hN : 0 ≤ N := by have := h 0; omega
  rw [List.getD_eq_getElem?_getD, List.getElem?_set]
  split
  · split
    · exact ⟨h0, h1⟩
    · simp; omega
  · have := h i; rw [List.getD_eq_getElem?_getD] at this; exact this
theorem Sm.tail {N : Int} {zs : List Int} (h : Sm N zs) : Sm N zs.tail := fun i => by
  rw [List.getD_eq_getElem?_getD, List.getElem?_tail]
  have := h (i + 1); rw [List.getD_eq_getElem?_getD] at this; exact this
theorem vals_snoc (zs : List Int) (z : Int) : vals (zs ++ [z]) = vals zs ++ [.int .i64 z] := by simp [vals]
theorem vals_set (zs : List Int) (k : Nat) (z : Int) : (vals zs).set k (.int .i64 z) = vals (zs.set k z) := by simp [vals, List.map_set]
theorem OwnI.slv {w : World} {B : Nat} {v : Value} {zs : List Int} (h : OwnI w B v zs) : ∃ s : Sl, v = .slice s.a s.len s.cap ∧ s.len = zs.length ∧ s.len ≤ s.cap := by
  rcases h.2 with ⟨hv, hn⟩ | ⟨g, c, cur, hv, _, _, hc, _⟩
  · exact ⟨⟨none, 0, 0⟩, hv, hn.symm, Nat.le_refl _⟩
  · exact ⟨⟨some ⟨g, 0, none⟩, zs.length, c⟩, hv, rfl, hc⟩
/-- Two rows lie apart. -/
def Apart (s t : Value) : Prop := s.ownBlock = none ∨ t.ownBlock = none ∨ s.ownBlock ≠ t.ownBlock
theorem Apart.symm {s t : Value} (h : Apart s t) : Apart t s := h.elim (fun h => .inr (.inl h)) fun h => h.elim .inl fun h => .inr (.inr h.symm)
theorem Apart.row {s t : Value} (h : Apart s t) : s.ownBlock = none ∨ s.ownBlock ≠ t.ownBlock := by
  rcases h with h | h | h
  · exact .inl h
  · rw [h]; cases s.ownBlock <;> simp
  · exact .inr h
/-- What the draw of an arm holds: the reader, the result's box, the variable's box, its three rows. -/
structure ArmSt (w0 : World) (B M r : Nat) (u : World) (sx sy sz : Value) (xs ys zs : List Int) : Prop where
  rd : Rd B M u r
  gr : w0.grownBy u (some r)
  res : AtA u w0.heap.size (.slice none 0 0) (.slice none 0 0) (.slice none 0 0)
  var : AtA u (w0.heap.size + 1) sx sy sz
  ox : OwnI u (w0.heap.size + 2) sx xs
  oy : OwnI u (w0.heap.size + 2) sy ys
  oz : OwnI u (w0.heap.size + 2) sz zs
  xy : Apart sx sy
  xz : Apart sx sz
  yz : Apart sy sz
theorem OwnI.row {w w' : World} {B : Nat} {v : Value} {zs : List Int} {row : Option Nat} (h : OwnI w B v zs) (hg : w.grownBy w' row) (hne : v.ownBlock = none ∨ v.ownBlock ≠ row) : OwnI w' B v zs := World.ownsRow.kept h hg hne
theorem OwnI.past {w : World} {B r : Nat} {v : Value} {zs : List Int} (h : OwnI w B v zs) (hr : r < B) : v.ownBlock = none ∨ v.ownBlock ≠ some r := by
  rcases hv : v.ownBlock with _ | g
  · exact .inl rfl
  · refine .inr fun e => ?_
    injection e with e
    have := (World.ownsRow.lt h g hv).1
    omega
theorem ArmSt.drew {w0 u : World} {B M r : Nat} {sx sy sz : Value} {xs ys zs : List Int} (h : ArmSt w0 B M r u sx sy sz xs ys zs) : ArmSt w0 B M r u.drew sx sy sz xs ys zs :=
  ⟨h.rd.drew, only_drew h.gr, h.res.next (below_drew' u), h.var.next (below_drew' u), h.ox.next (below_drew' u), h.oy.next (below_drew' u), h.oz.next (below_drew' u), h.xy, h.xz, h.yz⟩
theorem ArmSt.alloc {w0 u : World} {B M r : Nat} {sx sy sz : Value} {xs ys zs : List Int} (h : ArmSt w0 B M r u sx sy sz xs ys zs) (o : Obj) : ArmSt w0 B M r (u.alloc o) sx sy sz xs ys zs :=
  ⟨h.rd.alloc o, only_alloc h.gr o, h.res.alloc o, h.var.alloc o, h.ox.next (below_box u o), h.oy.next (below_box u o), h.oz.next (below_box u o), h.xy, h.xz, h.yz⟩
theorem ArmSt.mono {w0 u : World} {B M M' r : Nat} {sx sy sz : Value} {xs ys zs : List Int} (h : ArmSt w0 B M r u sx sy sz xs ys zs) (hM : M ≤ M') : ArmSt w0 B M' r u sx sy sz xs ys zs :=
  ⟨h.rd.mono hM, h.gr, h.res, h.var, h.ox, h.oy, h.oz, h.xy, h.xz, h.yz⟩
theorem ArmSt.pick {w0 u u' : World} {B M r : Nat} {sx sy sz : Value} {xs ys zs : List Int} (h : ArmSt w0 B M r u sx sy sz xs ys zs) (hr : Rd B (M + 1) u' r) (hg : u.grownBy u' (some r)) (hlt : r < w0.heap.size) : ArmSt w0 B (M + 1) r u' sx sy sz xs ys zs :=
  ⟨hr, h.gr.trans hg, h.res.kept hg (by simp; omega), h.var.kept hg (by simp; omega), h.ox.row hg (h.ox.past (by omega)), h.oy.row hg (h.oy.past (by omega)), h.oz.row hg (h.oz.past (by omega)), h.xy, h.xz, h.yz⟩
theorem ArmSt.base {w0 u : World} {B M r : Nat} {sx sy sz : Value} {xs ys zs : List Int} (h : ArmSt w0 B M r u sx sy sz xs ys zs) : w0.heap.size + 2 ≤ u.heap.size := by have := h.var.lt; omega
theorem cell_one_new' (w : World) (v : Value) (t : Nat) : ∀ (j : Nat) u, [v][j]? = some u → (w.alloc (.cells #[v] t)).cell? ((⟨w.heap.size, 0, none⟩ : Addr).add j) = some u := by
  intro j u hu
  obtain rfl : j = 0 := by
    have := (List.getElem?_eq_some_iff.1 hu).1
    simpa using this
  simp at hu
  subst hu
  simp [Addr.add]
/-- A reader is left alone by what grows elsewhere. -/
theorem Rd.kept {B M r : Nat} {w w' : World} {row : Option Nat} (h : Rd B M w r) (hg : w.grownBy w' row) (hr : some r ≠ row) (hB : ∀ k, row = some k → B ≤ k) : Rd B M w' r := by
  obtain ⟨a, len, cap, p, hlen, hp, h0, h1, hf, hc⟩ := h.ex
  have e := hg.block r h.lt hr
  refine ⟨h.ge, Nat.lt_of_lt_of_le h.lt hg.size, a, len, cap, p, hlen, hp, (World.cell?_of_block (a := ⟨r, 0, none⟩) e).trans h0, (World.cell?_of_block (a := ⟨r, 1, none⟩) e).trans h1, (World.frozen?_of_block (a := ⟨r, 1, none⟩) e).trans hf, ?_⟩
  exact hc.below fun x hx => World.cell?_of_block (hg.block x.block (by have := h.ge; have := h.lt; omega) (fun k => by have := hB _ k.symm; omega))
theorem only_row {a w w' : World} {r : Nat} {row : Option Nat} (h : a.grownBy w (some r)) (hg : w.grownBy w' row) (hB : ∀ k, row = some k → a.heap.size ≤ k) : a.grownBy w' (some r) :=
  ⟨hg.os.trans h.os, hg.tape.trans h.tape, hg.output.trans h.output, Nat.le_trans h.size hg.size, fun i hi hne => (hg.block i (Nat.lt_of_lt_of_le hi h.size) (fun e => by have := hB i e.symm; omega)).trans (h.block i hi hne)⟩
/-- What an append says of the row that it was given. -/
structure App (u w3 : World) (base : Nat) (v : Value) (zs : List Int) (g n cap : Nat) : Prop where
  own : w3.ownsRow base 3 1 (.slice (some ⟨g, 0, none⟩) n cap) n (vals zs)
  grow : u.grownBy w3 v.ownBlock
  at' : v.ownBlock = some g ∨ g = u.heap.size
theorem App.owns {u w3 : World} {base g n cap : Nat} {v : Value} {zs : List Int} (h : App u w3 base v zs g n cap) : n = zs.length ∧ OwnI w3 base (.slice (some ⟨g, 0, none⟩) n cap) zs := by
  have e : n = zs.length := by have := h.own.1; simp [vals] at this; exact this.symm
  subst e
  exact ⟨rfl, h.own⟩
theorem App.apart {u w3 : World} {base g n cap : Nat} {v t : Value} {zs ts : List Int} (h : App u w3 base v zs g n cap) (ht : OwnI u base t ts) (ha : Apart v t) : Apart (.slice (some ⟨g, 0, none⟩) n cap) t := by
  rcases ht' : t.ownBlock with _ | k
  · exact .inr (.inl ht')
  · refine .inr (.inr ?_)
    rw [ht']
    show some g ≠ some k
    intro e
    injection e with e
    subst e
    rcases h.at' with h1 | h1
    · rcases ha with h2 | h2 | h2
      · rw [h1] at h2; cases h2
      · rw [ht'] at h2; cases h2
      · exact h2 (h1.trans ht'.symm)
    · have := (World.ownsRow.lt ht _ ht').2; omega
theorem App.old {u w3 : World} {base g n cap : Nat} {v : Value} {zs ts : List Int} (_h : App u w3 base v zs g n cap) (hv : OwnI u base v ts) : ∀ k, v.ownBlock = some k → base ≤ k := fun k hk => (World.ownsRow.lt hv k hk).1
theorem AtA.row {w w' : World} {b base : Nat} {x y z : Value} {v : Value} {ts : List Int} (h : AtA w b x y z) (hv : OwnI w base v ts) (hg : w.grownBy w' v.ownBlock) (hb : b < base) : AtA w' b x y z :=
  h.kept hg (fun e => by have := (World.ownsRow.lt hv b e.symm).1; omega)
theorem OwnI.off {w : World} {B c o : Nat} {v : Value} {zs : List Int} (h : OwnI w B v zs) (hc : c < B) (u : Value) : OwnI (w.setCell ⟨c, o, none⟩ u) B v zs :=
  World.ownsRow.kept (row := some c) h ⟨rfl, rfl, rfl, by simp [World.setCell], fun k _ hk => Below.heap_setCell w _ _ k (by rintro rfl; exact hk rfl)⟩ (h.past hc)
theorem Rd.set' {B M : Nat} {w : World} {r : Nat} (h : Rd B M w r) {b o : Nat} (hb : b ≠ r) (hB : B ≤ b) (v : Value) : Rd B M (w.setCell ⟨b, o, none⟩ v) r :=
  h.kept (row := some b) ⟨rfl, rfl, rfl, by simp [World.setCell], fun k _ hk => Below.heap_setCell w _ _ k (by rintro rfl; exact hk rfl)⟩ (by simp; omega) (fun k hk => by injection hk with hk; omega)
theorem only_set' {a w : World} {row : Option Nat} (h : a.grownBy w row) {b o : Nat} (hb : a.heap.size ≤ b) (v : Value) : a.grownBy (w.setCell ⟨b, o, none⟩ v) row :=
  ⟨h.os, h.tape, h.output, by simpa [World.setCell] using h.size, fun i hi hne => (Below.heap_setCell w _ _ i (by simp; omega)).trans (h.block i hi hne)⟩
theorem ArmSt.app0 {w0 u w3 : World} {B M r g n cap : Nat} {sx sy sz : Value} {xs ys zs xs' : List Int} (h : ArmSt w0 B M r u sx sy sz xs ys zs) (hlt : r < w0.heap.size) (hB : B ≤ w0.heap.size) (a : App u w3 (w0.heap.size + 2) sx xs' g n cap) :
    ArmSt w0 B M r (w3.setCell ⟨w0.heap.size + 1, 0, none⟩ (.slice (some ⟨g, 0, none⟩) n cap)) (.slice (some ⟨g, 0, none⟩) n cap) sy sz xs' ys zs := by
  have ho := fun k hk => a.old h.ox k hk
  refine ⟨(h.rd.kept a.grow (fun e => by have := ho r e.symm; omega) (fun k hk => by have := ho k hk; omega)).set' (by omega) (by omega) _, only_set' (only_row h.gr a.grow (fun k hk => by have := ho k hk; omega)) (by omega) _,
    (h.res.row h.ox a.grow (by omega)).far (by omega) _, (h.var.row h.ox a.grow (by omega)).put0 _, a.owns.2.off (by omega) _, (h.oy.row a.grow h.xy.symm.row).off (by omega) _, (h.oz.row a.grow h.xz.symm.row).off (by omega) _, a.apart h.oy h.xy, a.apart h.oz h.xz, h.yz⟩
theorem ArmSt.app1 {w0 u w3 : World} {B M r g n cap : Nat} {sx sy sz : Value} {xs ys zs ys' : List Int} (h : ArmSt w0 B M r u sx sy sz xs ys zs) (hlt : r < w0.heap.size) (hB : B ≤ w0.heap.size) (a : App u w3 (w0.heap.size + 2) sy ys' g n cap) :
    ArmSt w0 B M r (w3.setCell ⟨w0.heap.size + 1, 1, none⟩ (.slice (some ⟨g, 0, none⟩) n cap)) sx (.slice (some ⟨g, 0, none⟩) n cap) sz xs ys' zs := by
  have ho := fun k hk => a.old h.oy k hk
  refine ⟨(h.rd.kept a.grow (fun e => by have := ho r e.symm; omega) (fun k hk => by have := ho k hk; omega)).set' (by omega) (by omega) _, only_set' (only_row h.gr a.grow (fun k hk => by have := ho k hk; omega)) (by omega) _,
    (h.res.row h.oy a.grow (by omega)).far (by omega) _, (h.var.row h.oy a.grow (by omega)).put1 _, (h.ox.row a.grow h.xy.row).off (by omega) _, a.owns.2.off (by omega) _, (h.oz.row a.grow h.yz.symm.row).off (by omega) _, (a.apart h.ox h.xy.symm).symm, h.xz, a.apart h.oz h.yz⟩
theorem ArmSt.app2 {w0 u w3 : World} {B M r g n cap : Nat} {sx sy sz : Value} {xs ys zs zs' : List Int} (h : ArmSt w0 B M r u sx sy sz xs ys zs) (hlt : r < w0.heap.size) (hB : B ≤ w0.heap.size) (a : App u w3 (w0.heap.size + 2) sz zs' g n cap) :
    ArmSt w0 B M r (w3.setCell ⟨w0.heap.size + 1, 2, none⟩ (.slice (some ⟨g, 0, none⟩) n cap)) sx sy (.slice (some ⟨g, 0, none⟩) n cap) xs ys zs' := by
  have ho := fun k hk => a.old h.oz k hk
  refine ⟨(h.rd.kept a.grow (fun e => by have := ho r e.symm; omega) (fun k hk => by have := ho k hk; omega)).set' (by omega) (by omega) _, only_set' (only_row h.gr a.grow (fun k hk => by have := ho k hk; omega)) (by omega) _,
    (h.res.row h.oz a.grow (by omega)).far (by omega) _, (h.var.row h.oz a.grow (by omega)).put2 _, (h.ox.row a.grow h.xz.row).off (by omega) _, (h.oy.row a.grow h.yz.row).off (by omega) _, a.owns.2.off (by omega) _, h.xy, (a.apart h.ox h.xz.symm).symm, (a.apart h.oy h.yz.symm).symm⟩
end Go.Proofs.Ytkmopgdnaohcdaa
