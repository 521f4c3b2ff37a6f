/- Several of my texts in one: DrawA, DrawO. -/
import Derived.Test.YtppkipcgpmijpaaZbRd
import Derived.Test.YtppkipcgpmijpaaZbArm
import Derived.Deep.RegionWith
import Derived.Deep.RegionLaw
import Derived.Deep.DeepCutAuto
import Derived.Deep.AppendLies
namespace Go.Proofs.Ytppkipcgpmijpaa
set_option maxRecDepth 100000
open Go.RowKit
attribute [local go_sem ↓] Go.wp_at_zero Go.wp_at_succ

/-- Small numbers. -/
def Sm (N : Int) (zs : List Int) : Prop := ∀ i, -N ≤ zs.getD i 0 ∧ zs.getD i 0 ≤ N
abbrev Small (zs : List Int) : Prop := Sm 1000 zs
theorem Sm.nil {N : Int} (hN : 0 ≤ N) : Sm N [] := fun i => by simp; omega
theorem Sm.mono {N N' : Int} {zs : List Int} (h : Sm N zs) (hN : N ≤ N') : Sm N' zs := fun i => by have := h i; omega
theorem Sm.snoc {N : Int} {zs : List Int} (h : Sm N zs) {z : Int} (h0 : -N ≤ z) (h1 : z ≤ N) : Sm N (zs ++ [z]) := fun i => by
  have hN : 0 ≤ N := by have := h 0; omega
  rw [List.getD_eq_getElem?_getD, List.getElem?_append]
  split
  · have := h i; rw [List.getD_eq_getElem?_getD] at this; exact this
  · rw [List.getElem?_singleton]
    split
    · exact ⟨h0, h1⟩
    · simp; omega
theorem Sm.set {N : Int} {zs : List Int} (h : Sm N zs) (k : Nat) {z : Int} (h0 : -N ≤ z) (h1 : z ≤ N) : Sm N (zs.set k z) := fun i => by
  have hN : 0 ≤ N := by have := h 0; omega
  rw [List.getD_eq_getElem?_getD, List.getElem?_set]
  split
  · split
    · exact ⟨h0, h1⟩
    · simp; omega
  · have := h i; rw [List.getD_eq_getElem?_getD] at this; exact this
theorem Sm.tail {N : Int} {zs : List Int} (h : Sm N zs) : Sm N zs.tail := fun i => by
  rw [List.getD_eq_getElem?_getD, List.getElem?_tail]
  have := h (i + 1); rw [List.getD_eq_getElem?_getD] at this; exact this
theorem vals_snoc (zs : List Int) (z : Int) : vals (zs ++ [z]) = vals zs ++ [.int .i64 z] := by simp [vals]
theorem vals_set (zs : List Int) (k : Nat) (z : Int) : (vals zs).set k (.int .i64 z) = vals (zs.set k z) := by simp [vals, List.map_set]
theorem OwnI.slv {w : World} {B : Nat} {v : Value} {zs : List Int} (h : OwnI w B v zs) : ∃ s : Sl, v = .slice s.a s.len s.cap ∧ s.len = zs.length ∧ s.len ≤ s.cap := by
  rcases h.2 with ⟨hv, hn⟩ | ⟨g, c, cur, hv, _, _, hc, _⟩
  · exact ⟨⟨none, 0, 0⟩, hv, hn.symm, Nat.le_refl _⟩
  · exact ⟨⟨some ⟨g, 0, none⟩, zs.length, c⟩, hv, rfl, hc⟩
/-- Two rows lie apart. -/
def Apart (s t : Value) : Prop := s.ownBlock = none ∨ t.ownBlock = none ∨ s.ownBlock ≠ t.ownBlock
theorem Apart.symm {s t : Value} (h : Apart s t) : Apart t s := h.elim (fun h => .inr (.inl h)) fun h => h.elim .inl fun h => .inr (.inr h.symm)
theorem Apart.row {s t : Value} (h : Apart s t) : s.ownBlock = none ∨ s.ownBlock ≠ t.ownBlock := by
  rcases h with h | h | h
  · exact .inl h
  · rw [h]; cases s.ownBlock <;> simp
  · exact .inr h
/-- What the draw of an arm holds: the reader, the result's box, the variable's box, its three rows. -/
structure ArmSt (w0 : World) (B M r : Nat) (u : World) (sx sy sz : Value) (xs ys zs : List Int) : Prop where
  rd : Rd B M u r
  gr : w0.grownBy u (some r)
  res : AtA u w0.heap.size (.slice none 0 0) (.slice none 0 0) (.slice none 0 0)
  var : AtA u (w0.heap.size + 1) sx sy sz
  ox : OwnI u (w0.heap.size + 2) sx xs
  oy : OwnI u (w0.heap.size + 2) sy ys
  oz : OwnI u (w0.heap.size + 2) sz zs
  xy : Apart sx sy
  xz : Apart sx sz
  yz : Apart sy sz
theorem OwnI.row {w w' : World} {B : Nat} {v : Value} {zs : List Int} {row : Option Nat} (h : OwnI w B v zs) (hg : w.grownBy w' row) (hne : v.ownBlock = none ∨ v.ownBlock ≠ row) : OwnI w' B v zs := World.ownsRow.kept h hg hne
theorem OwnI.past {w : World} {B r : Nat} {v : Value} {zs : List Int} (h : OwnI w B v zs) (hr : r < B) : v.ownBlock = none ∨ v.ownBlock ≠ some r := by
  rcases hv : v.ownBlock with _ | g
  · exact .inl rfl
  · refine .inr fun e => ?_
    injection e with e
    have := (World.ownsRow.lt h g hv).1
    omega
theorem ArmSt.drew {w0 u : World} {B M r : Nat} {sx sy sz : Value} {xs ys zs : List Int} (h : ArmSt w0 B M r u sx sy sz xs ys zs) : ArmSt w0 B M r u.drew sx sy sz xs ys zs :=
  ⟨h.rd.drew, only_drew h.gr, h.res.next (below_drew' u), h.var.next (below_drew' u), h.ox.next (below_drew' u), h.oy.next (below_drew' u), h.oz.next (below_drew' u), h.xy, h.xz, h.yz⟩
theorem ArmSt.alloc {w0 u : World} {B M r : Nat} {sx sy sz : Value} {xs ys zs : List Int} (h : ArmSt w0 B M r u sx sy sz xs ys zs) (o : Obj) : ArmSt w0 B M r (u.alloc o) sx sy sz xs ys zs :=
  ⟨h.rd.alloc o, only_alloc h.gr o, h.res.alloc o, h.var.alloc o, h.ox.next (below_box u o), h.oy.next (below_box u o), h.oz.next (below_box u o), h.xy, h.xz, h.yz⟩
theorem ArmSt.mono {w0 u : World} {B M M' r : Nat} {sx sy sz : Value} {xs ys zs : List Int} (h : ArmSt w0 B M r u sx sy sz xs ys zs) (hM : M ≤ M') : ArmSt w0 B M' r u sx sy sz xs ys zs :=
  ⟨h.rd.mono hM, h.gr, h.res, h.var, h.ox, h.oy, h.oz, h.xy, h.xz, h.yz⟩
theorem ArmSt.pick {w0 u u' : World} {B M r : Nat} {sx sy sz : Value} {xs ys zs : List Int} (h : ArmSt w0 B M r u sx sy sz xs ys zs) (hr : Rd B (M + 1) u' r) (hg : u.grownBy u' (some r)) (hlt : r < w0.heap.size) : ArmSt w0 B (M + 1) r u' sx sy sz xs ys zs :=
  ⟨hr, h.gr.trans hg, h.res.kept hg (by simp; omega), h.var.kept hg (by simp; omega), h.ox.row hg (h.ox.past (by omega)), h.oy.row hg (h.oy.past (by omega)), h.oz.row hg (h.oz.past (by omega)), h.xy, h.xz, h.yz⟩
theorem ArmSt.base {w0 u : World} {B M r : Nat} {sx sy sz : Value} {xs ys zs : List Int} (h : ArmSt w0 B M r u sx sy sz xs ys zs) : w0.heap.size + 2 ≤ u.heap.size := by have := h.var.lt; omega
theorem cell_one_new' (w : World) (v : Value) (t : Nat) : ∀ (j : Nat) u, [v][j]? = some u → (w.alloc (.cells #[v] t)).cell? ((⟨w.heap.size, 0, none⟩ : Addr).add j) = some u := by
  intro j u hu
  obtain rfl : j = 0 := by
    have := (List.getElem?_eq_some_iff.1 hu).1
    simpa using this
  simp at hu
  subst hu
  simp [Addr.add]
/-- A reader is left alone by what grows elsewhere. -/
theorem Rd.kept {B M r : Nat} {w w' : World} {row : Option Nat} (h : Rd B M w r) (hg : w.grownBy w' row) (hr : some r ≠ row) (hB : ∀ k, row = some k → B ≤ k) : Rd B M w' r := by
  obtain ⟨a, len, cap, p, hlen, hp, h0, h1, hf, hc⟩ := h.ex
  have e := hg.block r h.lt hr
  refine ⟨h.ge, Nat.lt_of_lt_of_le h.lt hg.size, a, len, cap, p, hlen, hp, (World.cell?_of_block (a := ⟨r, 0, none⟩) e).trans h0, (World.cell?_of_block (a := ⟨r, 1, none⟩) e).trans h1, (World.frozen?_of_block (a := ⟨r, 1, none⟩) e).trans hf, ?_⟩
  exact hc.below fun x hx => World.cell?_of_block (hg.block x.block (by have := h.ge; have := h.lt; omega) (fun k => by have := hB _ k.symm; omega))
theorem only_row {a w w' : World} {r : Nat} {row : Option Nat} (h : a.grownBy w (some r)) (hg : w.grownBy w' row) (hB : ∀ k, row = some k → a.heap.size ≤ k) : a.grownBy w' (some r) :=
  ⟨hg.os.trans h.os, hg.tape.trans h.tape, hg.output.trans h.output, Nat.le_trans h.size hg.size, fun i hi hne => (hg.block i (Nat.lt_of_lt_of_le hi h.size) (fun e => by have := hB i e.symm; omega)).trans (h.block i hi hne)⟩
/-- What an append says of the row that it was given. -/
structure App (u w3 : World) (base : Nat) (v : Value) (zs : List Int) (g n cap : Nat) : Prop where
  own : w3.ownsRow base 3 1 (.slice (some ⟨g, 0, none⟩) n cap) n (vals zs)
  grow : u.grownBy w3 v.ownBlock
  at' : v.ownBlock = some g ∨ g = u.heap.size
theorem App.owns {u w3 : World} {base g n cap : Nat} {v : Value} {zs : List Int} (h : App u w3 base v zs g n cap) : n = zs.length ∧ OwnI w3 base (.slice (some ⟨g, 0, none⟩) n cap) zs := by
  have e : n = zs.length := by have := h.own.1; simp [vals] at this; exact this.symm
  subst e
  exact ⟨rfl, h.own⟩
theorem App.apart {u w3 : World} {base g n cap : Nat} {v t : Value} {zs ts : List Int} (h : App u w3 base v zs g n cap) (ht : OwnI u base t ts) (ha : Apart v t) : Apart (.slice (some ⟨g, 0, none⟩) n cap) t := by
  rcases ht' : t.ownBlock with _ | k
  · exact .inr (.inl ht')
  · refine .inr (.inr ?_)
    rw [ht']
    show some g ≠ some k
    intro e
    injection e with e
    subst e
    rcases h.at' with h1 | h1
    · rcases ha with h2 | h2 | h2
      · rw [h1] at h2; cases h2
      · rw [ht'] at h2; cases h2
      · exact h2 (h1.trans ht'.symm)
    · have := (World.ownsRow.lt ht _ ht').2; omega
theorem App.old {u w3 : World} {base g n cap : Nat} {v : Value} {zs ts : List Int} (_h : App u w3 base v zs g n cap) (hv : OwnI u base v ts) : ∀ k, v.ownBlock = some k → base ≤ k := fun k hk => (World.ownsRow.lt hv k hk).1
theorem AtA.row {w w' : World} {b base : Nat} {x y z : Value} {v : Value} {ts : List Int} (h : AtA w b x y z) (hv : OwnI w base v ts) (hg : w.grownBy w' v.ownBlock) (hb : b < base) : AtA w' b x y z :=
  h.kept hg (fun e => by have := (World.ownsRow.lt hv b e.symm).1; omega)
theorem OwnI.off {w : World} {B c o : Nat} {v : Value} {zs : List Int} (h : OwnI w B v zs) (hc : c < B) (u : Value) : OwnI (w.setCell ⟨c, o, none⟩ u) B v zs :=
  World.ownsRow.kept (row := some c) h ⟨rfl, rfl, rfl, by simp [World.setCell], fun k _ hk => Below.heap_setCell w _ _ k (by rintro rfl; exact hk rfl)⟩ (h.past hc)
theorem Rd.set' {B M : Nat} {w : World} {r : Nat} (h : Rd B M w r) {b o : Nat} (hb : b ≠ r) (hB : B ≤ b) (v : Value) : Rd B M (w.setCell ⟨b, o, none⟩ v) r :=
  h.kept (row := some b) ⟨rfl, rfl, rfl, by simp [World.setCell], fun k _ hk => Below.heap_setCell w _ _ k (by rintro rfl; exact hk rfl)⟩ (by simp; omega) (fun k hk => by injection hk with hk; omega)
theorem only_set' {a w : World} {row : Option Nat} (h : a.grownBy w row) {b o : Nat} (hb : a.heap.size ≤ b) (v : Value) : a.grownBy (w.setCell ⟨b, o, none⟩ v) row :=
  ⟨h.os, h.tape, h.output, by simpa [World.setCell] using h.size, fun i hi hne => (Below.heap_setCell w _ _ i (by simp; omega)).trans (h.block i hi hne)⟩
theorem ArmSt.app0 {w0 u w3 : World} {B M r g n cap : Nat} {sx sy sz : Value} {xs ys zs xs' : List Int} (h : ArmSt w0 B M r u sx sy sz xs ys zs) (hlt : r < w0.heap.size) (hB : B ≤ w0.heap.size) (a : App u w3 (w0.heap.size + 2) sx xs' g n cap) :
    ArmSt w0 B M r (w3.setCell ⟨w0.heap.size + 1, 0, none⟩ (.slice (some ⟨g, 0, none⟩) n cap)) (.slice (some ⟨g, 0, none⟩) n cap) sy sz xs' ys zs := by
  have ho := fun k hk => a.old h.ox k hk
  refine ⟨(h.rd.kept a.grow (fun e => by have := ho r e.symm; omega) (fun k hk => by have := ho k hk; omega)).set' (by omega) (by omega) _, only_set' (only_row h.gr a.grow (fun k hk => by have := ho k hk; omega)) (by omega) _,
    (h.res.row h.ox a.grow (by omega)).far (by omega) _, (h.var.row h.ox a.grow (by omega)).put0 _, a.owns.2.off (by omega) _, (h.oy.row a.grow h.xy.symm.row).off (by omega) _, (h.oz.row a.grow h.xz.symm.row).off (by omega) _, a.apart h.oy h.xy, a.apart h.oz h.xz, h.yz⟩
theorem ArmSt.app1 {w0 u w3 : World} {B M r g n cap : Nat} {sx sy sz : Value} {xs ys zs ys' : List Int} (h : ArmSt w0 B M r u sx sy sz xs ys zs) (hlt : r < w0.heap.size) (hB : B ≤ w0.heap.size) (a : App u w3 (w0.heap.size + 2) sy ys' g n cap) :
    ArmSt w0 B M r (w3.setCell ⟨w0.heap.size + 1, 1, none⟩ (.slice (some ⟨g, 0, none⟩) n cap)) sx (.slice (some ⟨g, 0, none⟩) n cap) sz xs ys' zs := by
  have ho := fun k hk => a.old h.oy k hk
  refine ⟨(h.rd.kept a.grow (fun e => by have := ho r e.symm; omega) (fun k hk => by have := ho k hk; omega)).set' (by omega) (by omega) _, only_set' (only_row h.gr a.grow (fun k hk => by have := ho k hk; omega)) (by omega) _,
    (h.res.row h.oy a.grow (by omega)).far (by omega) _, (h.var.row h.oy a.grow (by omega)).put1 _, (h.ox.row a.grow h.xy.row).off (by omega) _, a.owns.2.off (by omega) _, (h.oz.row a.grow h.yz.symm.row).off (by omega) _, (a.apart h.ox h.xy.symm).symm, h.xz, a.apart h.oz h.yz⟩
theorem ArmSt.app2 {w0 u w3 : World} {B M r g n cap : Nat} {sx sy sz : Value} {xs ys zs zs' : List Int} (h : ArmSt w0 B M r u sx sy sz xs ys zs) (hlt : r < w0.heap.size) (hB : B ≤ w0.heap.size) (a : App u w3 (w0.heap.size + 2) sz zs' g n cap) :
    ArmSt w0 B M r (w3.setCell ⟨w0.heap.size + 1, 2, none⟩ (.slice (some ⟨g, 0, none⟩) n cap)) sx sy (.slice (some ⟨g, 0, none⟩) n cap) xs ys zs' := by
  have ho := fun k hk => a.old h.oz k hk
  refine ⟨(h.rd.kept a.grow (fun e => by have := ho r e.symm; omega) (fun k hk => by have := ho k hk; omega)).set' (by omega) (by omega) _, only_set' (only_row h.gr a.grow (fun k hk => by have := ho k hk; omega)) (by omega) _,
    (h.res.row h.oz a.grow (by omega)).far (by omega) _, (h.var.row h.oz a.grow (by omega)).put2 _, (h.ox.row a.grow h.xz.row).off (by omega) _, (h.oy.row a.grow h.yz.row).off (by omega) _, a.owns.2.off (by omega) _, h.xy, (a.apart h.ox h.xz.symm).symm, (a.apart h.oy h.yz.symm).symm⟩
end Go.Proofs.Ytppkipcgpmijpaa
namespace Go.Proofs.Ytppkipcgpmijpaa
set_option maxRecDepth 100000
open Go.RowKit
attribute [local go_sem ↓] Go.wp_at_zero Go.wp_at_succ
/-- What 'odd' says. -/
def OddA (B M r : Nat) (w : World) (e : Ending) (w' : World) : Prop :=
  ∃ b : Bool, e = .returned (.bool b) ∧ Rd B (M + 1) w' r ∧ w.grownBy w' (some r) ∧ w'.heap.size = w.heap.size
theorem oddA (B M r : Nat) (n : Int) (w : World) (hr : Rd B M w r) (hM : M ≤ 1000000) (h0 : 0 < n) (h1 : n ≤ 1000000) :
    Calls Try.prog 46 #[.pointer (some ⟨r, 0, none⟩), .int .i64 n] w (OddA B M r w) := by
  go_enter Try.func46, Try.ntmps46
  go_wp2_with fail
  refine (pick B M r n _ hr hM).mono ?_
  rintro e w1 ⟨x, a1, b1, rfl, hr1, hg1, hs1⟩
  have HS := Lib.hid (And.intro hr1 (And.intro hg1 hs1))
  clear hr1 hg1 hs1 hr b1
  go_wp2
  go_ret
  exact ⟨_, rfl, HS.out⟩
/-- What the first loop holds. -/
def LoopA (w : World) (B M r many : Nat) (i : Value) (wr : World) : Prop :=
  ∃ k : Nat, k ≤ many ∧ i = .int .i64 (k : Int) ∧ ∃ (sx sy sz : Value) (xs ys zs : List Int), ArmSt w B (M + 3 * k) r wr sx sy sz xs ys zs ∧ xs.length = k ∧ ys.length = k ∧ zs.length = k ∧ Small xs ∧ Small ys ∧ Small zs
theorem ArmSt.start (w : World) (B M r : Nat) (hr : Rd B M w r) (t : Nat) :
    ArmSt w B M r ((w.alloc (.cells #[.slice none 0 0, .slice none 0 0, .slice none 0 0] t)).alloc (.cells #[.slice none 0 0, .slice none 0 0, .slice none 0 0] t)) (.slice none 0 0) (.slice none 0 0) (.slice none 0 0) [] [] [] := by
  have V := AtA.box (w.alloc (.cells #[.slice none 0 0, .slice none 0 0, .slice none 0 0] t)) (.slice none 0 0) (.slice none 0 0) (.slice none 0 0) t
  rw [show (w.alloc (.cells #[.slice none 0 0, .slice none 0 0, .slice none 0 0] t)).heap.size = w.heap.size + 1 by simp] at V
  exact ⟨(hr.alloc _).alloc _, only_alloc (only_alloc (World.grownBy.refl w (some r)) _) _, (AtA.box w _ _ _ t).alloc _, V, World.ownsRow_nil _ _ _ _, World.ownsRow_nil _ _ _ _, World.ownsRow_nil _ _ _ _, .inl rfl, .inl rfl, .inl rfl⟩
/-- A slice reads as zs, from block base on. -/
def IntsFrom (w : World) (base : Nat) (a : Option Addr) (len : Nat) (zs : List Int) : Prop :=
  len = zs.length ∧ (zs = [] ∨ ∃ b off, a = some ⟨b, off, none⟩ ∧ base ≤ b ∧ b < w.heap.size ∧ ∀ i, i < zs.length → w.cell? ⟨b, off + i, none⟩ = some (.int .i64 (zs.getD i 0)))
theorem IntsFrom.ints {w : World} {base len : Nat} {a : Option Addr} {zs : List Int} (h : IntsFrom w base a len zs) : IntsAt w a len zs :=
  ⟨h.1, h.2.imp id fun ⟨b, off, h1, _, h3, h4⟩ => ⟨b, off, h1, h3, h4⟩⟩
theorem IntsFrom.off {w : World} {base len c o : Nat} {a : Option Addr} {zs : List Int} (h : IntsFrom w base a len zs) (hc : c < base) (v : Value) : IntsFrom (w.setCell ⟨c, o, none⟩ v) base a len zs :=
  ⟨h.1, h.2.imp id fun ⟨b, off, h1, h2, h3, h4⟩ => ⟨b, off, h1, h2, by simpa [World.setCell] using h3, fun i hi => (World.cell?_setCell_far _ _ _ _ (by show c ≠ b; omega)).trans (h4 i hi)⟩⟩
theorem OwnI.from {w : World} {base n cap : Nat} {a : Option Addr} {zs : List Int} (h : OwnI w base (.slice a n cap) zs) : IntsFrom w base a n zs := by
  have hi := h.ints
  refine ⟨hi.1, ?_⟩
  rcases h.2 with ⟨hv, hn⟩ | ⟨g, c, cur, hv, hb, hg, rest⟩
  · exact .inl (List.eq_nil_of_length_eq_zero hn)
  · rcases hi.2 with h2 | ⟨b, off, h1, h3, h4⟩
    · exact .inl h2
    · refine .inr ⟨b, off, h1, ?_, h3, h4⟩
      simp only [Value.slice.injEq] at hv
      rw [hv.1] at h1
      simp at h1
      omega
theorem IntsFrom.down {w : World} {base base' len : Nat} {a : Option Addr} {zs : List Int} (h : IntsFrom w base a len zs) (hb : base' ≤ base) : IntsFrom w base' a len zs :=
  ⟨h.1, h.2.imp id fun ⟨b, off, h1, h2, h3, h4⟩ => ⟨b, off, h1, Nat.le_trans hb h2, h3, h4⟩⟩
theorem IntsFrom.next {w w' : World} {base len : Nat} {a : Option Addr} {zs : List Int} (h : IntsFrom w base a len zs) (hb : Below w.heap.size w w') : IntsFrom w' base a len zs :=
  ⟨h.1, h.2.imp id fun ⟨b, off, h1, h2, h3, h4⟩ => ⟨b, off, h1, h2, Nat.lt_of_lt_of_le h3 hb.size, fun i hi => (hb.cell (p := ⟨b, off + i, none⟩) h3).trans (h4 i hi)⟩⟩
theorem IntsFrom.kept {w w' : World} {base len : Nat} {a : Option Addr} {zs : List Int} {row : Option Nat} (h : IntsFrom w base a len zs) (hg : w.grownBy w' row) (hr : ∀ k, row = some k → k < base) : IntsFrom w' base a len zs :=
  ⟨h.1, h.2.imp id fun ⟨b, off, h1, h2, h3, h4⟩ => ⟨b, off, h1, h2, Nat.lt_of_lt_of_le h3 hg.size, fun i hi => (World.cell?_of_block (a := ⟨b, off + i, none⟩) (hg.block b h3 (fun e => by have := hr b e.symm; omega))).trans (h4 i hi)⟩⟩
/-- What a draw of an arm says: its lists are short, its numbers small. -/
def DrawnA (B M r : Nat) (w : World) (e : Ending) (w' : World) : Prop :=
  ∃ (x y z : Sl) (ls lo hi : List Int), e = .returned (av x y z) ∧ IntsFrom w' w.heap.size x.a x.len ls ∧ IntsFrom w' w.heap.size y.a y.len lo ∧ IntsFrom w' w.heap.size z.a z.len hi ∧ x.len ≤ 5 ∧ y.len ≤ 4 ∧ z.len ≤ 4 ∧ x.len ≤ x.cap ∧ y.len ≤ y.cap ∧ z.len ≤ z.cap ∧ Sm 2000 ls ∧ Sm 2000 lo ∧ Sm 2000 hi ∧ Rd B M w' r ∧ w.grownBy w' (some r)
/-- The slice without its first number: it lies one cell further, or where it lay if nothing is left of its room. -/
theorem OwnI.tail_from {w : World} {base g n cap : Nat} {zs : List Int} (h : OwnI w base (.slice (some ⟨g, 0, none⟩) n cap) zs) (hn : 1 ≤ n) (a : Option Addr) (ha : n = 1 ∨ a = some ⟨g, 1, none⟩) : IntsFrom w base a (n - 1) zs.tail := by
  have hi := h.ints
  have e := hi.1
  refine ⟨by simp; omega, ?_⟩
  rcases ha with h1 | rfl
  · left
    apply List.eq_nil_of_length_eq_zero
    simp; omega
  · rcases hi.2 with h2 | ⟨b, off, h3, h4, h5⟩
    · rw [h2] at e; simp at e; omega
    · simp at h3
      obtain ⟨rfl, rfl⟩ := h3
      refine .inr ⟨g, 1, rfl, (World.ownsRow.lt h g rfl).1, h4, fun i hi' => ?_⟩
      simp at hi'
      have := h5 (i + 1) (by omega)
      rw [show 1 + i = 0 + (i + 1) by omega, this, List.getD_eq_getElem?_getD, List.getD_eq_getElem?_getD, List.getElem?_tail]
/-- What is there when an arm has been drawn, ahead of the return. -/
structure FinA (w0 : World) (B M r : Nat) (u : World) (x y z : Sl) (ls lo hi : List Int) : Prop where
  rd : Rd B M u r
  gr : w0.grownBy u (some r)
  res : AtA u w0.heap.size (.slice none 0 0) (.slice none 0 0) (.slice none 0 0)
  var : AtA u (w0.heap.size + 1) (.slice x.a x.len x.cap) (.slice y.a y.len y.cap) (.slice z.a z.len z.cap)
  ix : IntsFrom u (w0.heap.size + 2) x.a x.len ls
  iy : IntsFrom u (w0.heap.size + 2) y.a y.len lo
  iz : IntsFrom u (w0.heap.size + 2) z.a z.len hi
  lx : x.len ≤ 5
  ly : y.len ≤ 4
  lz : z.len ≤ 4
  kx : x.len ≤ x.cap
  ky : y.len ≤ y.cap
  kz : z.len ≤ z.cap
  sx : Sm 2000 ls
  sy : Sm 2000 lo
  sz : Sm 2000 hi
theorem ArmSt.fin {w0 u : World} {B M M' r : Nat} {sx sy sz : Value} {xs ys zs : List Int} (h : ArmSt w0 B M r u sx sy sz xs ys zs) (hM : M ≤ M') (l1 : xs.length ≤ 5) (l2 : ys.length ≤ 4) (l3 : zs.length ≤ 4) (t1 : Sm 2000 xs) (t2 : Sm 2000 ys) (t3 : Sm 2000 zs) : ∃ x y z : Sl, FinA w0 B M' r u x y z xs ys zs := by
  obtain ⟨x, rfl, ex, kx⟩ := OwnI.slv h.ox
  obtain ⟨y, rfl, ey, ky⟩ := OwnI.slv h.oy
  obtain ⟨z, rfl, ez, kz⟩ := OwnI.slv h.oz
  exact ⟨x, y, z, h.rd.mono hM, h.gr, h.res, h.var, h.ox.from, h.oy.from, h.oz.from, by omega, by omega, by omega, kx, ky, kz, t1, t2, t3⟩
theorem FinA.done {w0 u : World} {B M r : Nat} {x y z : Sl} {ls lo hi : List Int} (h : FinA w0 B M r u x y z ls lo hi) (hlt : r < w0.heap.size) (hB : B ≤ w0.heap.size) (a b c : Value) (e : Ending) (he : e = .returned (av x y z)) :
    DrawnA B M r w0 e (((u.setCell ⟨w0.heap.size, 0, none⟩ a).setCell ⟨w0.heap.size, 1, none⟩ b).setCell ⟨w0.heap.size, 2, none⟩ c) :=
  ⟨x, y, z, ls, lo, hi, he, (((h.ix.off (by omega) _).off (by omega) _).off (by omega) _).down (by omega), (((h.iy.off (by omega) _).off (by omega) _).off (by omega) _).down (by omega), (((h.iz.off (by omega) _).off (by omega) _).off (by omega) _).down (by omega), h.lx, h.ly, h.lz, h.kx, h.ky, h.kz, h.sx, h.sy, h.sz,
    ((h.rd.set' (by omega) hB _).set' (by omega) hB _).set' (by omega) hB _, only_set' (only_set' (only_set' h.gr (Nat.le_refl _) _) (Nat.le_refl _) _) (Nat.le_refl _) _⟩
/-- What the cut behind the branches says. -/
def Drew (w0 : World) (B M r : Nat) (u : World) : Prop := ∃ (x y z : Sl) (ls lo hi : List Int), FinA w0 B M r u x y z ls lo hi
theorem ArmSt.put0 {w0 u : World} {B M r g n cap p : Nat} {sy sz : Value} {xs ys zs : List Int} (h : ArmSt w0 B M r u (.slice (some ⟨g, 0, none⟩) n cap) sy sz xs ys zs) (hlt : r < w0.heap.size) (hB : B ≤ w0.heap.size) (t : Int) :
    ArmSt w0 B M r (u.setCell ⟨g, p, none⟩ (.int .i64 t)) (.slice (some ⟨g, 0, none⟩) n cap) sy sz (xs.set p t) ys zs := by
  have hg := (World.ownsRow.lt h.ox g rfl).1
  have hn : n = xs.length := h.ox.ints.1
  subst hn
  have hs := World.ownsRow.stored h.ox p (.int .i64 t)
  refine ⟨h.rd.set' (by omega) (by omega) _, only_set' h.gr (by omega) _, h.res.far (by omega) _, h.var.far (by omega) _, ?_, h.oy.row hs.2 h.xy.symm.row, h.oz.row hs.2 h.xz.symm.row, h.xy, h.xz, h.yz⟩
  unfold OwnI
  rw [List.length_set, ← vals_set]
  exact hs.1
theorem ArmSt.put1 {w0 u : World} {B M r g n cap p : Nat} {sx sz : Value} {xs ys zs : List Int} (h : ArmSt w0 B M r u sx (.slice (some ⟨g, 0, none⟩) n cap) sz xs ys zs) (hlt : r < w0.heap.size) (hB : B ≤ w0.heap.size) (t : Int) :
    ArmSt w0 B M r (u.setCell ⟨g, p, none⟩ (.int .i64 t)) sx (.slice (some ⟨g, 0, none⟩) n cap) sz xs (ys.set p t) zs := by
  have hg := (World.ownsRow.lt h.oy g rfl).1
  have hn : n = ys.length := h.oy.ints.1
  subst hn
  have hs := World.ownsRow.stored h.oy p (.int .i64 t)
  refine ⟨h.rd.set' (by omega) (by omega) _, only_set' h.gr (by omega) _, h.res.far (by omega) _, h.var.far (by omega) _, h.ox.row hs.2 h.xy.row, ?_, h.oz.row hs.2 h.yz.symm.row, h.xy, h.xz, h.yz⟩
  unfold OwnI
  rw [List.length_set, ← vals_set]
  exact hs.1
/-- A row with a number in it is no nil. -/
theorem OwnI.at {w : World} {base : Nat} {v : Value} {zs : List Int} (h : OwnI w base v zs) (hn : 1 ≤ zs.length) : ∃ g cap, v = .slice (some ⟨g, 0, none⟩) zs.length cap ∧ base ≤ g ∧ zs.length ≤ cap := by
  rcases h.2 with ⟨hv, h0⟩ | ⟨g, c, cur, hv, hb, hg, hnc, _⟩
  · omega
  · exact ⟨g, c, hv, hb, hnc⟩
theorem ArmSt.at2 {w0 u : World} {B M r g n cap : Nat} {sx sy : Value} {xs ys zs : List Int} (h : ArmSt w0 B M r u sx sy (.slice (some ⟨g, 0, none⟩) n cap) xs ys zs) (j : Nat) (hj : j < zs.length) :
    u.cell? ⟨w0.heap.size + 1, 1, none⟩ = some sy ∧ u.cell? ⟨w0.heap.size + 1, 2, none⟩ = some (.slice (some ⟨g, 0, none⟩) n cap) ∧ u.cell? ⟨g, j, none⟩ = some (.int .i64 (zs.getD j 0)) := by
  refine ⟨h.var.c1, h.var.c2, ?_⟩
  have hi := h.oz.ints
  rcases hi.2 with h2 | ⟨b, off, h3, h4, h5⟩
  · rw [h2] at hj; simp at hj
  · simp at h3
    obtain ⟨rfl, rfl⟩ := h3
    have := h5 j hj
    rwa [Nat.zero_add] at this
theorem ArmSt.cut2 {w0 u : World} {B M M' r g n cap c : Nat} {sx sy : Value} {xs ys zs : List Int} (h : ArmSt w0 B M r u sx sy (.slice (some ⟨g, 0, none⟩) n cap) xs ys zs) (hlt : r < w0.heap.size) (hB : B ≤ w0.heap.size) (hM : M ≤ M') (hn : 1 ≤ n) (a : Option Addr) (ha : n = 1 ∨ a = some ⟨g, 1, none⟩) (hc : n - 1 ≤ c) (l1 : xs.length ≤ 5) (l2 : ys.length ≤ 4) (l3 : zs.length ≤ 4) (t1 : Sm 2000 xs) (t2 : Sm 2000 ys) (t3 : Sm 2000 zs) :
    ∃ x y z : Sl, FinA w0 B M' r (u.setCell ⟨w0.heap.size + 1, 2, none⟩ (.slice a (n - 1) c)) x y z xs ys zs.tail := by
  obtain ⟨x, rfl, ex, kx⟩ := OwnI.slv h.ox
  obtain ⟨y, rfl, ey, ky⟩ := OwnI.slv h.oy
  have hz := h.oz.ints.1
  exact ⟨x, y, ⟨a, n - 1, c⟩, (h.rd.set' (by omega) (by omega) _).mono hM, only_set' h.gr (by omega) _, h.res.far (by omega) _, h.var.put2 _, h.ox.from.off (by omega) _, h.oy.from.off (by omega) _, (h.oz.tail_from hn a ha).off (by omega) _, by omega, by omega, by simp only; omega, kx, ky, hc, t1, t2, t3.tail⟩
/-- A pick, in the midst of the draw of an arm. -/
def PickedS (w0 : World) (B M r : Nat) (n : Int) (sx sy sz : Value) (xs ys zs : List Int) (u : World) (e : Ending) (u' : World) : Prop :=
  ∃ x : Int, 0 ≤ x ∧ (1 ≤ n → x < n) ∧ e = .returned (.int .i64 x) ∧ ArmSt w0 B (M + 1) r u' sx sy sz xs ys zs ∧ u'.heap.size = u.heap.size ∧ (∀ b o, b ≠ r → b < u.heap.size → u'.cell? ⟨b, o, none⟩ = u.cell? ⟨b, o, none⟩)
theorem pickS (w0 : World) (B M r : Nat) (n : Int) (sx sy sz : Value) (xs ys zs : List Int) (u : World) (h : ArmSt w0 B M r u sx sy sz xs ys zs) (hlt : r < w0.heap.size) (hM : M ≤ 1000000) :
    Calls Try.prog 45 #[.pointer (some ⟨r, 0, none⟩), .int .i64 n] u (PickedS w0 B M r n sx sy sz xs ys zs u) :=
  (pick B M r n u h.rd hM).mono fun e w' ⟨x, h0, h1, h2, h3, h4, h5⟩ => ⟨x, h0, h1, h2, h.pick h3 h4 hlt, h5, fun b o hb hl => h4.cell_far ⟨b, o, none⟩ hl (by simpa using hb)⟩
theorem tabA (a b x : Int) (ha0 : -2000 ≤ a) (ha1 : a ≤ 2000) (hb0 : -2000 ≤ b) (hb1 : b ≤ 2000) (h0 : 0 ≤ x) (h1 : x < 2) :
    ∃ t : Int, -2000 ≤ t ∧ t ≤ 2000 ∧ ∀ h : x.toNat < 2, ([Value.int .i64 a, .int .i64 b] : List Value)[x.toNat]'h = .int .i64 t := by
  have hx : x = 0 ∨ x = 1 := by omega
  rcases hx with rfl | rfl
  · exact ⟨a, by omega, by omega, fun _ => rfl⟩
  · exact ⟨b, by omega, by omega, fun _ => rfl⟩
end Go.Proofs.Ytppkipcgpmijpaa
