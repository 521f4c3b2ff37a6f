/- What the draws on collisions hold: an arm, rows of angles, a scene. -/
import Derived.Test.YtkogoflcacameaaDoorZbDbc
import Derived.Test.YtkogoflcacameaaDoorZbOs
import Derived.Test.YtkogoflcacameaaDoorZbInv
import Derived.Test.YtkogoflcacameaaDoorZb10i
import Derived.Deep.RegionHeld3
import Derived.Outline
namespace Go.Proofs.YtkogoflcacameaaDoor
set_option maxRecDepth 100000
open Go.RowKit
attribute [local go_sem ↓] Go.wp_at_zero Go.wp_at_succ
theorem GSt.ints10 {w w0 u : World} {r M len : Nat} {rs : List Nat} {a : Option Addr} {zs : List Int} (h : GSt w w0 r rs M u) (hi : IntsFrom w0 (r + 1) a len zs) (hrs : ∀ k ∈ rs, k < r) : IntsFrom u (r + 1) a len zs :=
  ⟨hi.1, hi.2.imp id fun ⟨b, off, h1, h2, h3, h4⟩ => ⟨b, off, h1, h2, Nat.lt_of_lt_of_le h3 h.size, fun i hi => (World.cell?_of_block (a := ⟨b, off + i, none⟩) (h.keep b h3 (by omega) (fun hm => by have := hrs b hm; omega))).trans (h4 i hi)⟩⟩
theorem OS.cap10 {w0 u : World} {B M r n c : Nat} {a : Option Addr} {ss : List Sl} {pss : List (List P2)} (h : OS w0 B M r u (.slice a n c) ss pss) : n ≤ c ∧ n = pss.length := by
  obtain ⟨s, e, hp, hc⟩ := h.got9
  simp only [Value.slice.injEq] at e
  obtain ⟨_, h1, h2⟩ := e
  have := hp.1
  omega
theorem PSS.take10 {w : World} {a : Option Addr} {len k : Nat} {pss : List (List P2)} (h : PSS w a len pss) (hk : k ≤ len) : PSS w a k (pss.take k) := by
  have hl := h.1
  refine ⟨by rw [List.length_take]; omega, ?_⟩
  rcases h.2 with h2 | ⟨b, h1, h2, h3⟩
  · left; rw [h2]; simp
  · right
    refine ⟨b, h1, h2, fun i hi => ?_⟩
    rw [List.length_take] at hi
    obtain ⟨s, k1, k2, k3⟩ := h3 i (by omega)
    refine ⟨s, k1, ?_, k3⟩
    rw [List.getD_eq_getElem?_getD, List.getElem?_take_of_lt (by omega), ← List.getD_eq_getElem?_getD]
    exact k2
/-- A row of numbers that lies from B on, apart from block ob. -/
def RowI (u : World) (B : Nat) (s : Sl) (js : List Int) (ob : Option Nat) : Prop :=
  s.len = js.length ∧ s.len ≤ 5 ∧ (js = [] ∨ ∃ b o, s.a = some ⟨b, o, none⟩ ∧ B ≤ b ∧ b < u.heap.size ∧ ob ≠ some b ∧ ∀ i, i < js.length → u.cell? ⟨b, o + i, none⟩ = some (.int .i64 (js.getD i 0)))
theorem RowI.of {u : World} {B B' : Nat} {s : Sl} {js : List Int} {ob : Option Nat} (h : IntsFrom u B' s.a s.len js) (hl : s.len ≤ 5) (hB : B ≤ B') (hob : ∀ k, ob = some k → k < B') : RowI u B s js ob :=
  ⟨h.1, hl, h.2.imp id fun ⟨b, o, h1, h2, h3, h4⟩ => ⟨b, o, h1, by omega, h3, fun e => by have := hob b e; omega, h4⟩⟩
theorem RowI.grow {u u' : World} {B : Nat} {s : Sl} {js : List Int} {ob row : Option Nat} (h : RowI u B s js ob) (hg : u.grownBy u' row) (hne : ∀ b, row = some b → b < B ∨ ob = some b) : RowI u' B s js ob :=
  ⟨h.1, h.2.1, h.2.2.imp id fun ⟨b, o, h1, h2, h3, h4, h5⟩ => ⟨b, o, h1, h2, Nat.lt_of_lt_of_le h3 hg.size, h4, fun i hi => (World.cell?_of_block (a := ⟨b, o + i, none⟩) (hg.block b h3 (fun e => by
    rcases hne b e.symm with k | k
    · omega
    · exact h4 k))).trans (h5 i hi)⟩⟩
theorem RowI.app {u u' : World} {B g : Nat} {s : Sl} {js : List Int} {ob : Option Nat} (h : RowI u B s js ob) (hg : u.grownBy u' ob) (hat : ob = some g ∨ g = u.heap.size) : RowI u' B s js (some g) := by
  have k := h.grow hg (fun b e => .inr e)
  refine ⟨k.1, k.2.1, ?_⟩
  rcases h.2.2 with q | ⟨b, o, h1, h2, h3, h4, h5⟩
  · exact .inl q
  · rcases k.2.2 with q | ⟨b', o', k1, k2, k3, k4, k5⟩
    · exact .inl q
    · rw [h1] at k1
      simp only [Option.some.injEq, Addr.mk.injEq, and_true] at k1
      obtain ⟨rfl, rfl⟩ := k1
      refine .inr ⟨b, o, h1, h2, k3, fun e => ?_, k5⟩
      injection e with e
      subst e
      rcases hat with hat | hat
      · exact h4 hat
      · omega
/-- A list of rows that is being drawn. -/
structure RS (w0 : World) (B M r : Nat) (u : World) (v : Value) (ss : List Sl) (rows : List (List Int)) : Prop where
  rd : Rd B M u r
  gr : w0.grownBy u (some r)
  n : ss.length = rows.length
  row : u.ownsRow w0.heap.size 23 1 v rows.length (ss.map slQ)
  each : ∀ i, i < rows.length → RowI u w0.heap.size (ss.getD i ⟨none, 0, 0⟩) (rows.getD i []) v.ownBlock
section
variable {w0 u u' : World} {B M M' r : Nat} {v : Value} {ss : List Sl} {rows : List (List Int)}
theorem RS.old (h : RS w0 B M r u v ss rows) : ∀ k, v.ownBlock = some k → w0.heap.size ≤ k := fun k hk => (World.ownsRow.lt h.row k hk).1
theorem RS.pick (h : RS w0 B M r u v ss rows) (hr : Rd B M' u' r) (hg : u.grownBy u' (some r)) (hlt : r < w0.heap.size) : RS w0 B M' r u' v ss rows :=
  ⟨hr, h.gr.trans hg, h.n, World.ownsRow.kept h.row hg (.inr (fun e => by have := h.old r e; omega)), fun i hi => (h.each i hi).grow hg (fun b e => by injection e with e; subst e; exact .inl hlt)⟩
theorem RS.drew (h : RS w0 B M r u v ss rows) : RS w0 B M r u.drew v ss rows :=
  have hb := below_drew' u
  ⟨h.rd.drew, only_drew h.gr, h.n, World.ownsRow.kept (row := none) h.row ⟨hb.os, hb.tape, hb.output, hb.size, fun k hk _ => hb.block k hk⟩ (by cases v.ownBlock <;> simp), fun i hi => (h.each i hi).grow (row := none) ⟨hb.os, hb.tape, hb.output, hb.size, fun k hk _ => hb.block k hk⟩ (fun b e => by cases e)⟩
theorem RS.mono (h : RS w0 B M r u v ss rows) (hM : M ≤ M') : RS w0 B M' r u v ss rows := ⟨h.rd.mono hM, h.gr, h.n, h.row, h.each⟩
theorem RS.alloc (h : RS w0 B M r u v ss rows) (o : Obj) : RS w0 B M r (u.alloc o) v ss rows :=
  ⟨h.rd.alloc o, only_alloc h.gr o, h.n, World.ownsRow.kept (row := none) h.row ⟨(below_box u o).os, (below_box u o).tape, (below_box u o).output, (below_box u o).size, fun k hk _ => (below_box u o).block k hk⟩ (by cases v.ownBlock <;> simp), fun i hi => (h.each i hi).grow (row := none) ⟨(below_box u o).os, (below_box u o).tape, (below_box u o).output, (below_box u o).size, fun k hk _ => (below_box u o).block k hk⟩ (fun b e => by cases e)⟩
theorem RS.new (hr : Rd B M u r) (hg : w0.grownBy u (some r)) (hb : w0.heap.size ≤ u.heap.size) (T : TypeId) (hT : T = 23) : RS w0 B M r (u.alloc (.cells #[] T)) (.slice (some ⟨u.heap.size, 0, none⟩) 0 0) [] [] := by
  subst hT
  refine ⟨hr.alloc _, only_alloc hg _, rfl, ?_, fun i hi => by simp at hi⟩
  have := World.ownsRow_lit (base := w0.heap.size) (e := 23) (size := 1) u #[] 0 hb (Nat.zero_le _) rfl
  simpa using this
/-- One row more. -/
theorem RS.app {g n cap : Nat} {s : Sl} {js : List Int} (h : RS w0 B M r u v ss rows) (hlt : r < w0.heap.size) (hB : B ≤ w0.heap.size) (hq : RowI u w0.heap.size s js v.ownBlock)
    (own : u'.ownsRow w0.heap.size 23 1 (.slice (some ⟨g, 0, none⟩) n cap) (rows.length + 1) (ss.map slQ ++ [slQ s])) (grow : u.grownBy u' v.ownBlock) (hat : v.ownBlock = some g ∨ g = u.heap.size) :
    RS w0 B M r u' (.slice (some ⟨g, 0, none⟩) n cap) (ss ++ [s]) (rows ++ [js]) := by
  refine ⟨h.rd.kept grow (fun e => by have := h.old r e.symm; omega) (fun k hk => by have := h.old k hk; omega), only_row h.gr grow h.old, by simp [h.n], ?_, fun i hi => ?_⟩
  · rw [List.length_append, List.map_append]; exact own
  · rw [List.length_append] at hi
    simp only [List.length_cons, List.length_nil] at hi
    by_cases hk : i < rows.length
    · have e1 : (ss ++ [s]).getD i ⟨none, 0, 0⟩ = ss.getD i ⟨none, 0, 0⟩ := by rw [List.getD_eq_getElem?_getD, List.getD_eq_getElem?_getD, List.getElem?_append_left (by rw [h.n]; exact hk)]
      have e2 : (rows ++ [js]).getD i [] = rows.getD i [] := by rw [List.getD_eq_getElem?_getD, List.getD_eq_getElem?_getD, List.getElem?_append_left hk]
      rw [e1, e2]
      exact (h.each i hk).app grow hat
    · obtain rfl : i = rows.length := by omega
      have e1 : (ss ++ [s]).getD rows.length ⟨none, 0, 0⟩ = s := by rw [List.getD_eq_getElem?_getD, List.getElem?_append_right (by rw [h.n]; exact Nat.le_refl _), h.n]; simp
      have e2 : (rows ++ [js]).getD rows.length [] = js := by rw [List.getD_eq_getElem?_getD, List.getElem?_append_right (Nat.le_refl _)]; simp
      rw [e1, e2]
      exact hq.app grow hat
end
/-- What is drawn stays where only r and rs may have changed. -/
theorem GSt.rows10 {w w0 u w1 : World} {B M M' r : Nat} {rs : List Nat} {s : Sl} {ss : List Sl} {rows : List (List Int)} (h : GSt w w0 r rs M u) (hs : RS w1 B M' r w0 (.slice s.a s.len s.cap) ss rows) (hk : ∀ k, w1.heap.size ≤ k → k ≠ r ∧ k ∉ rs) : RSA u s.a s.len rows := by
  rcases hs.row.2 with ⟨hv, hn⟩ | ⟨g, c, cur, hv, hb, hg, hc, hm, hcs, ht⟩
  · simp only [Value.slice.injEq] at hv
    have e : rows = [] := List.eq_nil_of_length_eq_zero hn
    rw [hv.1, hv.2.1, e]
    exact ⟨rfl, .inl rfl⟩
  · have e := h.keep g (Array.getElem?_eq_some_iff.1 hg).1 (hk g hb).1 (hk g hb).2
    have row : u.ownsRow w1.heap.size 23 1 (.slice s.a s.len s.cap) rows.length (ss.map slQ) := ⟨hs.row.1, .inr ⟨g, c, cur, hv, hb, e.trans hg, hc, hm, hcs, ht⟩⟩
    have hv' := hv
    simp only [Value.slice.injEq] at hv
    obtain ⟨h1, h2, h3⟩ := hv
    rw [hv'] at row
    rw [h1, h2]
    refine ⟨rfl, .inr ⟨g, rfl, (World.ownsRow.lt row g rfl).2, fun i hi => ?_⟩⟩
    obtain ⟨k1, k2, k3⟩ := hs.each i hi
    refine ⟨ss.getD i ⟨none, 0, 0⟩, ?_, ⟨k1, ?_⟩, by omega⟩
    · rw [World.ownsRow.cellAt row i (by omega), List.getElem?_map, List.getD_eq_getElem?_getD, List.getElem?_eq_getElem (by rw [hs.n]; exact hi)]
      rfl
    · rcases k3 with q | ⟨b, o, q1, q2, q3, _, q5⟩
      · exact .inl q
      · exact .inr ⟨b, o, q1, Nat.lt_of_lt_of_le q3 h.size, fun i hi => (World.cell?_of_block (a := ⟨b, o + i, none⟩) (h.keep b q3 (hk b q2).1 (hk b q2).2)).trans (q5 i hi)⟩
theorem RS.sl10 {w0 u : World} {B M r : Nat} {v : Value} {ss : List Sl} {rows : List (List Int)} (h : RS w0 B M r u v ss rows) : ∃ s : Sl, v = .slice s.a s.len s.cap ∧ s.len = rows.length := by
  rcases h.row.2 with ⟨hv, hn⟩ | ⟨g, c, cur, hv, _⟩
  · exact ⟨⟨none, 0, 0⟩, hv, hn.symm⟩
  · exact ⟨⟨some ⟨g, 0, none⟩, rows.length, c⟩, hv, rfl⟩
def LoopR (w0 : World) (B M r N k : Nat) (v : Value) (wr : World) : Prop := ∃ ss rows, rows.length + k = N ∧ RS w0 B (M + 16 * rows.length) r wr v ss rows
/-- What a draw of an arm, angles and a scene says. -/
def GotAS (w : World) (e : Ending) (w' : World) : Prop :=
  ∃ (x y z j s : Sl) (ls lo hi js : List Int) (pss : List (List P2)), e = .returned (.tuple #[av x y z, .slice j.a j.len j.cap, .slice s.a s.len s.cap]) ∧ (IntsAt w' x.a x.len ls ∧ IntsAt w' y.a y.len lo ∧ IntsAt w' z.a z.len hi ∧ IntsAt w' j.a j.len js ∧ PSS w' s.a s.len pss) ∧ (x.len ≤ 5 ∧ y.len ≤ 4 ∧ z.len ≤ 4 ∧ j.len ≤ 6 ∧ s.len ≤ 9) ∧ s.len ≤ s.cap ∧ Below w.heap.size w w'
/-- What a draw of an arm, rows of angles and a scene says. -/
def GotRS (w : World) (e : Ending) (w' : World) : Prop :=
  ∃ (x y z r s : Sl) (ls lo hi : List Int) (rows : List (List Int)) (pss : List (List P2)), e = .returned (.tuple #[av x y z, .slice r.a r.len r.cap, .slice s.a s.len s.cap]) ∧ (IntsAt w' x.a x.len ls ∧ IntsAt w' y.a y.len lo ∧ IntsAt w' z.a z.len hi ∧ RSA w' r.a r.len rows ∧ PSS w' s.a s.len pss) ∧ (x.len ≤ 5 ∧ y.len ≤ 4 ∧ z.len ≤ 4 ∧ r.len ≤ 6 ∧ s.len ≤ 9) ∧ s.len ≤ s.cap ∧ Below w.heap.size w w'
end Go.Proofs.YtkogoflcacameaaDoor
