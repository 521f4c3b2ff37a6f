/- The walk of the law FnSceneValid: it returns true at every code. -/
import Derived.Test.YtcifokihellcdaaSc10
import Derived.Test.YtcifokihellcdaaZbOs
import Derived.Test.YtcifokihellcdaaZbInv
import Derived.Test.YtcifokihellcdaaZbFx
import Derived.Deep.AppendLies
import Derived.ArgAppend
import Derived.OwnWalk
namespace Go.Proofs.Ytcifokihellcdaa
set_option maxRecDepth 100000
open Go.RowKit
attribute [local go_sem ↓] Go.wp_at_zero Go.wp_at_succ
/-- A scene's list and rows. -/
def Scn10 (u : World) (a : Option Addr) (len : Nat) (ss : List Sl) (pss : List (List P2)) : Prop :=
  len = pss.length ∧ ss.length = len ∧ (len = 0 ∨ ∃ b, a = some ⟨b, 0, none⟩ ∧ b < u.heap.size ∧ ∀ i, i < len → u.cell? ⟨b, i, none⟩ = some (slQ (ss.getD i ⟨none, 0, 0⟩))) ∧ ∀ i, i < len → PL u (ss.getD i ⟨none, 0, 0⟩).a (ss.getD i ⟨none, 0, 0⟩).len (pss.getD i []) ∧ (ss.getD i ⟨none, 0, 0⟩).len ≤ 9223372036854775807
theorem Scn10.next {u u' : World} {a : Option Addr} {len : Nat} {ss : List Sl} {pss : List (List P2)} (h : Scn10 u a len ss pss) (hb : Below u.heap.size u u') : Scn10 u' a len ss pss :=
  ⟨h.1, h.2.1, h.2.2.1.imp id fun ⟨b, h1, h2, h3⟩ => ⟨b, h1, Nat.lt_of_lt_of_le h2 hb.size, fun i hi => (hb.cell (p := ⟨b, i, none⟩) h2).trans (h3 i hi)⟩, fun i hi => ⟨(h.2.2.2 i hi).1.next hb, (h.2.2.2 i hi).2⟩⟩
theorem Scn10.pss {u : World} {a : Option Addr} {len : Nat} {ss : List Sl} {pss : List (List P2)} (h : Scn10 u a len ss pss) : PSS u a len pss := by
  refine ⟨h.1, ?_⟩
  rcases h.2.2.1 with h0 | ⟨b, h1, h2, h3⟩
  · left; exact List.eq_nil_of_length_eq_zero (by rw [← h.1]; exact h0)
  · right; exact ⟨b, h1, h2, fun i hi => ⟨_, h3 i (by rw [h.1]; exact hi), (h.2.2.2 i (by rw [h.1]; exact hi)).1, (h.2.2.2 i (by rw [h.1]; exact hi)).2⟩⟩
theorem Scn10.half {u : World} {a : Option Addr} {len k : Nat} {ss : List Sl} {pss : List (List P2)} (h : Scn10 u a len ss pss) (hk : k ≤ len) : PSS u a k (pss.take k) := by
  have hl := h.1
  refine ⟨by rw [List.length_take]; omega, ?_⟩
  rcases h.2.2.1 with h0 | ⟨b, h1, h2, h3⟩
  · left; apply List.eq_nil_of_length_eq_zero; rw [List.length_take]; omega
  · right
    refine ⟨b, h1, h2, fun i hi => ?_⟩
    rw [List.length_take] at hi
    refine ⟨_, h3 i (by omega), ?_, (h.2.2.2 i (by omega)).2⟩
    have e : (pss.take k).getD i [] = pss.getD i [] := by rw [List.getD_eq_getElem?_getD, List.getD_eq_getElem?_getD, List.getElem?_take_of_lt (by omega)]
    rw [e]
    exact (h.2.2.2 i (by omega)).1
theorem OS.scn10 {w0 u : World} {B M r n c : Nat} {a : Option Addr} {ss : List Sl} {pss : List (List P2)} (h : OS w0 B M r u (.slice a n c) ss pss) : Scn10 u a n ss pss ∧ n ≤ c := by
  have each : ∀ i, i < pss.length → PL u (ss.getD i ⟨none, 0, 0⟩).a (ss.getD i ⟨none, 0, 0⟩).len (pss.getD i []) ∧ (ss.getD i ⟨none, 0, 0⟩).len ≤ 9223372036854775807 := fun i hi => by
    obtain ⟨o, hl, _⟩ := h.each i hi
    exact ⟨(OwnPt.ints o).pl, by have := (OwnPt.ints o).1; omega⟩
  rcases h.row.2 with ⟨hv, hn⟩ | ⟨g, c', cur, hv, hb, hg, hc, _⟩
  · simp only [Value.slice.injEq] at hv
    obtain ⟨rfl, rfl, rfl⟩ := hv
    exact ⟨⟨hn.symm, by rw [h.n]; exact hn, .inl rfl, fun i hi => by omega⟩, Nat.le_refl _⟩
  · have row := h.row
    simp only [Value.slice.injEq] at hv
    obtain ⟨rfl, rfl, rfl⟩ := hv
    refine ⟨⟨rfl, h.n, .inr ⟨g, rfl, (World.ownsRow.lt row g rfl).2, fun i hi => ?_⟩, each⟩, hc⟩
    rw [World.ownsRow.cellAt row i (by omega), List.getElem?_map, List.getD_eq_getElem?_getD, List.getElem?_eq_getElem (by rw [h.n]; exact hi)]
    rfl
/-- What a draw of a scene says. -/
def GotO (w : World) (e : Ending) (w' : World) : Prop := ∃ (s : Sl) (ss : List Sl) (pss : List (List P2)), e = .returned (.slice s.a s.len s.cap) ∧ Scn10 w' s.a s.len ss pss ∧ pss.length ≤ 9 ∧ s.len ≤ s.cap ∧ Below w.heap.size w w'
theorem drawSceneValid (w : World) (a : Option Addr) (len cap : Nat) (zs : List Int) (h : Bytes w a len cap zs) :
    Calls Try.prog 5 #[.slice a len cap] w (GotO w) := by
  go_enter Try.func5, Try.ntmps5
  go_wp2_with fail
  refine (gopen w w a len cap zs h (Below.refl _ _) w.heap.size rfl).mono ?_
  rintro e w1 ⟨rfl, hr1, hb1⟩
  have H1 := Lib.hid hb1
  clear hb1 h
  go_wp2_with fail
  refine (l20Scene _ _ _ 2 _ hr1 (by omega) (by omega) (by omega)).mono ?_
  rintro e w2 ⟨⟨sa, sl, sc⟩, ss, pss, rfl, hn, S2⟩
  have HF := Lib.hid S2.scn10
  have H2 := Lib.hid (H1.out.grown S2.gr H1.out.size (fun q hq => by injection hq with hq; omega))
  clear S2 hr1
  go_wp2
  go_ret
  exact ⟨⟨sa, sl, sc⟩, ss, pss, rfl, HF.out.1, hn, HF.out.2, H2.out⟩
/-- An empty slice of slices in a new block. -/
def E27 (B : Nat) (u : World) (v : Value) : Prop := ∃ b1, v = .slice (some ⟨b1, 0, none⟩) 0 0 ∧ u.ownsRow B 26 1 v 0 []
theorem E27.any {B : Nat} {u : World} {v : Value} (h : E27 B u v) : ∃ b1, v = .slice (some ⟨b1, 0, none⟩) 0 0 ∧ u.ownsRow B 26 1 v 0 [] := h
theorem rowNext10 {B n : Nat} {u u' : World} {v : Value} {xs : List Value} (h : u.ownsRow B 26 1 v n xs) (hb : Below u.heap.size u u') : u'.ownsRow B 26 1 v n xs :=
  World.ownsRow.kept (row := none) h ⟨hb.os, hb.tape, hb.output, hb.size, fun k hk _ => hb.block k hk⟩ (by cases v.ownBlock <;> simp)
theorem rowFar10 {B N n c : Nat} {u : World} {v : Value} {xs : List Value} (h : u.ownsRow B 26 1 v N xs) : v.ownBlock ≠ (Value.slice (some ⟨u.heap.size, 0, none⟩) n c).ownBlock := fun e => by
  have := (World.ownsRow.lt h u.heap.size e).2
  omega
theorem E27.next {B : Nat} {u u' : World} {v : Value} (h : E27 B u v) (hb : Below u.heap.size u u') : E27 B u' v := by
  obtain ⟨b1, h1, h2⟩ := h; exact ⟨b1, h1, rowNext10 h2 hb⟩
theorem E27.new {B : Nat} (u : World) (hB : B ≤ u.heap.size) : E27 B (u.alloc (.cells #[] 26)) (.slice (some ⟨u.heap.size, 0, none⟩) 0 0) := by
  refine ⟨_, rfl, ?_⟩
  have := World.ownsRow_lit (base := B) (e := 26) (size := 1) u #[] 0 hB (Nat.zero_le _) rfl
  simpa using this
theorem E27.far {B n c : Nat} {u : World} {v : Value} (h : E27 B u v) : v.ownBlock ≠ (Value.slice (some ⟨u.heap.size, 0, none⟩) n c).ownBlock := by
  obtain ⟨_, _, h2⟩ := h; exact rowFar10 h2
/-- A slice of two zero points in a new block. -/
def Two10 (B : Nat) (u : World) (v : Value) : Prop := ∃ g, v = .slice (some ⟨g, 0, none⟩) 2 2 ∧ OwnPt u B v [(0, 0), (0, 0)]
theorem Two10.next {B : Nat} {u u' : World} {v : Value} (h : Two10 B u v) (hb : Below u.heap.size u u') : Two10 B u' v := by
  obtain ⟨g, h1, h2⟩ := h; exact ⟨g, h1, h2.next hb⟩
theorem Two10.row {B : Nat} {u u' : World} {v v' : Value} (h : Two10 B u v) (hg : u.grownBy u' v'.ownBlock) (hne : v'.ownBlock ≠ v.ownBlock) : Two10 B u' v := by
  obtain ⟨g, h1, h2⟩ := h; exact ⟨g, h1, World.ownsRow.kept h2 hg (.inr (fun e => hne e.symm))⟩
theorem Two10.cell1 {B : Nat} {u : World} {v : Value} (h : Two10 B u v) : v.oneCell' = true := by
  obtain ⟨g, rfl, _⟩ := h; rfl
theorem E27.newNe {B n c : Nat} {u : World} {v : Value} (h : Two10 B u v) : (Value.slice (some ⟨u.heap.size, 0, none⟩) n c).ownBlock ≠ v.ownBlock := fun e => by
  obtain ⟨g, rfl, h2⟩ := h
  have := (World.ownsRow.lt h2 g rfl).2
  simp [Value.ownBlock] at e
  omega
theorem ne10 {B b1 : Nat} {u : World} {v v' : Value} (h : Two10 B u v) (hne : (Value.slice (some ⟨b1, 0, none⟩) 0 0).ownBlock ≠ v.ownBlock) (hk : ∀ k, v'.ownBlock = some k → k = b1 ∨ u.heap.size ≤ k) : v'.ownBlock ≠ v.ownBlock := fun e => by
  obtain ⟨g, rfl, h2⟩ := h
  have lt := (World.ownsRow.lt h2 g rfl).2
  rcases hk g (e.trans rfl) with k | k
  · subst k; exact hne rfl
  · omega
/-- A slice of one value in a new block. -/
def One10 (u : World) (x v : Value) : Prop := ∃ g, v = .slice (some ⟨g, 0, none⟩) 1 1 ∧ u.cell? ⟨g, 0, none⟩ = some x ∧ g < u.heap.size
theorem One10.any {u : World} {x v : Value} (h : One10 u x v) : ∃ g, v = .slice (some ⟨g, 0, none⟩) 1 1 ∧ u.cell? ⟨g, 0, none⟩ = some x ∧ g < u.heap.size := h
theorem One10.next {u u' : World} {x v : Value} (h : One10 u x v) (hb : Below u.heap.size u u') : One10 u' x v := by
  obtain ⟨g, h1, h2, h3⟩ := h; exact ⟨g, h1, (hb.cell (p := ⟨g, 0, none⟩) h3).trans h2, Nat.lt_of_lt_of_le h3 hb.size⟩
theorem One10.new (u : World) (x : Value) : One10 (u.alloc (.cells #[x] 26)) x (.slice (some ⟨u.heap.size, 0, none⟩) 1 1) := ⟨_, rfl, by simp, by simp⟩
theorem one_at10 {u : World} {g : Nat} {x : Value} (h : u.cell? ⟨g, 0, none⟩ = some x) : ∀ (j : Nat) (v : Value), [x][j]? = some v → u.cell? (Addr.add ⟨g, 0, none⟩ j) = some v := by
  intro j v hv
  have hj : j = 0 := by have := (List.getElem?_eq_some_iff.1 hv).1; simp at this; omega
  subst hj
  simp at hv; subst hv
  simpa [Addr.add] using h
theorem below_none10 {u u' : World} (h : u.grownBy u' none) : Below u.heap.size u u' := (Below.refl _ _).grown h (Nat.le_refl _) (fun k hk => by cases hk)
/-- An append to an empty slice without room. -/
theorem wp_app_fresh10 {o : Oper} {a : Act} {w : World} {K : Act → World → Prop} {Q : Exit → Act → World → Prop} (s x : Operand)
    (ho : o.op = .call { callee := .builtin .append, args := #[s, x], argTypes := #[23, 23] })
    (b1 : Nat) (hs : a.eval s = .slice (some ⟨b1, 0, none⟩) 0 0) (xa : Option Addr) (m c : Nat) (hx : a.eval x = .slice xa m c) (news : List Value) (hn : news.length = m)
    (hc : m = 0 ∨ ∃ ad, xa = some ad ∧ ∀ (j : Nat) u, news[j]? = some u → w.cell? (ad.add j) = some u) (h1 : ∀ u ∈ news, u.oneCell' = true) (hm : m ≤ 1000) (B : Nat) (hB : B ≤ w.heap.size)
    (own : w.ownsRow B 26 1 (.slice (some ⟨b1, 0, none⟩) 0 0) 0 [])
    (h : ∀ v' w', w'.ownsRow B 26 1 v' m news → Below w.heap.size w w' → (∀ k, v'.ownBlock = some k → k = b1 ∨ w.heap.size ≤ k) → K (a.put o.dst v') w') : o.wp Try.prog a w K Q := by
  obtain ⟨i0, hi0, hz0, hz1, hz2⟩ := info_parts infoSl9
  rcases Nat.eq_zero_or_pos m with h0 | h0
  · subst h0
    obtain rfl : news = [] := List.eq_nil_of_length_eq_zero hn
    have hr : (Builtin.append_ #[23, 23] o.type #[.slice (some ⟨b1, 0, none⟩) 0 0, .slice xa 0 c]).run Try.prog w = .ok (.slice (some ⟨b1, 0, none⟩) 0 0) w := by
      cases xa <;> simp [Builtin.append_, run_underlying Try.underlying23, sizeOf, typeInfo, hi0, Builtin.lenOf, Builtin.firstCells, loadCells, loadCellsFrom, storeCells]
    unfold Oper.wp execOp
    simp only [ho, resolve, invoke, builtin, Sem.run_bind, Sem.run_pure, Result.andThen_ok, List.map_toArray, List.map_cons, List.map_nil, hs, hx, hr]
    exact h _ _ own (Below.refl _ _) (fun k hk => .inl (by simp [Value.ownBlock] at hk; exact hk.symm))
  · rcases hc with hc | ⟨ad, rfl, hc⟩
    · omega
    · obtain ⟨v', w', hr, h2, h3⟩ := run_append_arg_grows (P := Try.prog) w 23 o.type 26 i0 (.slice none 0 0) 1 24 Try.underlying23 hi0 hz0 hz1 hz2 rfl (by decide) ⟨b1, 0, none⟩ 0 0 [] rfl (fun j u hj => by simp at hj) ad m c news (by omega) hc (by omega) (by unfold maxLen; omega) (by omega)
      unfold Oper.wp execOp
      simp only [ho, resolve, invoke, builtin, Sem.run_bind, Sem.run_pure, Result.andThen_ok, List.map_toArray, List.map_cons, List.map_nil, hs, hx, hr]
      rw [Nat.zero_add, List.nil_append] at h2
      exact h _ _ (World.ownsRow_down h2 hB) (below_none10 h3) (fun k hk => .inr (World.ownsRow.lt h2 k hk).1)
theorem infoPt10 : (Try.prog.info? 51).map (fun i => (i.zero, i.size, i.bytes)) = some (some (pt 0 0), 2, 16) := by kernel_rfl
/-- make([]Point, 2). -/
theorem wp_make10 {o : Oper} {a : Act} {w : World} {K : Act → World → Prop} {Q : Exit → Act → World → Prop} (l c : Operand) (ho : o.op = Op.makeSlice 26 l c) (hl : a.eval l = .int .i64 2) (hc : a.eval c = .int .i64 2) (B : Nat) (hB : B ≤ w.heap.size)
    (h : ∀ w', Two10 B w' (.slice (some ⟨w.heap.size, 0, none⟩) 2 2) → Below w.heap.size w w' → K (a.put o.dst (.slice (some ⟨w.heap.size, 0, none⟩) 2 2)) w') : o.wp Try.prog a w K Q := by
  obtain ⟨i0, hi0, hz0, hz1, hz2⟩ := info_parts infoPt10
  obtain ⟨w', hrun, r1, r2⟩ := run_make_full (P := Try.prog) w B 26 51 i0 (pt 0 0) 2 Try.underlying26 hi0 hz0 hz1 .i64 .i64 2 (by rw [hz2]; omega) (by unfold maxLen; omega) hB
  have hrun' := hrun
  rw [show ((2 : Nat) : Int) = 2 from rfl] at hrun'
  unfold Oper.wp
  simp [execOp, ho, hl, hc, hrun', Result.andThen]
  have e : (madeCells (pt 0 0).cells (2 * 2)).toList = pvals [(0, 0), (0, 0)] := by kernel_rfl
  rw [e] at r1
  exact h _ ⟨_, rfl, r1⟩ (below_none10 r2)
/-- The scene with one more row reads as such. -/
theorem all10 {w1 u : World} {sa : Option Addr} {sl : Nat} {ss : List Sl} {pss : List (List P2)} {v30 v32 : Value} (hs : Scn10 u sa sl ss pss) (h30 : Two10 w1.heap.size u v30) (h32 : u.ownsRow w1.heap.size 26 1 v32 (sl + 1) (ss.map slQ ++ [v30])) :
    ∃ g c, v32 = .slice (some ⟨g, 0, none⟩) (sl + 1) c ∧ PSS u (some ⟨g, 0, none⟩) (sl + 1) (pss ++ [[(0, 0), (0, 0)]]) := by
  obtain ⟨g, c, rfl, _, hlt⟩ := h32.form (by omega)
  have hl := hs.1
  refine ⟨g, c, rfl, ⟨by simp [hl], .inr ⟨g, rfl, hlt, fun i hi => ?_⟩⟩⟩
  have hcell := h32.cellAt i (by simp at hi; omega)
  by_cases hk : i < sl
  · refine ⟨ss.getD i ⟨none, 0, 0⟩, ?_, ?_, (hs.2.2.2 i hk).2⟩
    · rw [hcell, List.getElem?_append_left (by rw [List.length_map, hs.2.1]; exact hk), List.getElem?_map, List.getD_eq_getElem?_getD, List.getElem?_eq_getElem (by rw [hs.2.1]; exact hk)]
      rfl
    · have e : (pss ++ [[(0, 0), (0, 0)]]).getD i [] = pss.getD i [] := by rw [List.getD_eq_getElem?_getD, List.getD_eq_getElem?_getD, List.getElem?_append_left (by omega)]
      rw [e]
      exact (hs.2.2.2 i hk).1
  · obtain rfl : i = sl := by simp at hi; omega
    obtain ⟨g2, rfl, h2⟩ := h30
    refine ⟨⟨some ⟨g2, 0, none⟩, 2, 2⟩, ?_, ?_, by simp⟩
    · rw [hcell, List.getElem?_append_right (by rw [List.length_map, hs.2.1]; exact Nat.le_refl _), List.length_map, hs.2.1, Nat.sub_self]
      rfl
    · have e : (pss ++ [[(0, 0), (0, 0)]]).getD i [] = [(0, 0), (0, 0)] := by rw [List.getD_eq_getElem?_getD, List.getElem?_append_right (by omega), hl, Nat.sub_self]; rfl
      rw [e]
      exact (OwnPt.ints h2).pl
theorem news10 {u : World} {sa : Option Addr} {sl : Nat} {ss : List Sl} {pss : List (List P2)} (hs : Scn10 u sa sl ss pss) : sl = 0 ∨ ∃ ad, sa = some ad ∧ ∀ (j : Nat) x, (ss.map slQ)[j]? = some x → u.cell? (ad.add j) = some x := by
  rcases hs.2.2.1 with h0 | ⟨b, h1, h2, h3⟩
  · exact .inl h0
  · refine .inr ⟨_, h1, fun j x hj => ?_⟩
    have hlt := (List.getElem?_eq_some_iff.1 hj).1
    rw [List.length_map, hs.2.1] at hlt
    have k := h3 j hlt
    rw [List.getElem?_map, List.getElem?_eq_getElem (by rw [hs.2.1]; exact hlt)] at hj
    rw [List.getD_eq_getElem?_getD, List.getElem?_eq_getElem (by rw [hs.2.1]; exact hlt)] at k
    simp only [Option.map_some, Option.some.injEq] at hj
    subst hj
    by_cases h0 : j = 0
    · subst h0; simpa [Addr.add] using k
    · simpa [Addr.add, h0] using k
theorem below_drew10 (w : World) : Below w.heap.size w w.drew := (Below.refl _ _).drew
/-- What holds when the operations of 'listed' have come up. -/
inductive RSc1 (w1 : World) (sa : Option Addr) (sl sc : Nat) (ss : List Sl) (kh : Nat) (x0 p1 p5 p6 p7 p8 p9 p10 p11 p12 p13 p14 p15 : Value) (u : World) : Array Bool → Act → Prop
  | mk (l0 l1 l2 l3 l4 l5 l6 l7 l8 l9 l10 l11 l12 l13 l14 l15 l16 l17 l18 l19 l20 l21 l22 l23 : Bool) (v2 v16 v17 v18 v19 v20 v21 v22 v23 v24 v25 v26 v27 v28 v29 v30 v31 v32 v33 v34 v35 v36 v37 v38 : Value)
    (c0 : l0 = true → v16 = .bool true) (c1 : l1 = true → v17 = .bool false) (c2 : l2 = true → v18 = .bool false) (c3 : l3 = true → v19 = .slice sa sl sc) (c4 : l4 = true → v20 = .slice sa sl sc) (c5 : l5 = true → v21 = .int .i64 (sl : Int)) (c6 : l6 = true → v22 = .int .i64 (kh : Int)) (c7 : l7 = true → v23 = .slice sa kh sc) (c8 : l8 = true → v24 = .bool true) (c9 : l9 = true → v25 = .bool true) (c10 : l10 = true → v26 = .bool true) (c11 : l11 = true → l13 = false → E27 w1.heap.size u v27) (c12 : l12 = true → v28 = .slice sa sl sc) (c13 : l13 = true → l16 = false → u.ownsRow w1.heap.size 26 1 v29 sl (ss.map slQ)) (c14 : l14 = true → Two10 w1.heap.size u v30) (c15 : l15 = true → l16 = false → One10 u v30 v31) (c16 : l16 = true → u.ownsRow w1.heap.size 26 1 v32 (sl + 1) (ss.map slQ ++ [v30])) (c17 : l17 = true → v33 = .bool false) (c18 : l18 = true → v34 = .bool true) (c19 : l19 = true → v35 = .bool true) (c20 : l20 = true → v36 = .bool true) (c21 : l21 = true → v37 = .bool true) (c22 : l22 = true → v38 = .bool true) (c23 : l23 = true → v2 = .bool true) (d1 : l11 = true → l13 = false → l14 = true → v27.ownBlock ≠ v30.ownBlock) (d2 : l13 = true → l16 = false → l14 = true → v29.ownBlock ≠ v30.ownBlock) (o1 : l16 = true → l13 = true) (o2 : l16 = true → l15 = true) (o3 : l15 = true → l14 = true) (o4 : l13 = true → l11 = true) (o5 : l17 = true → l16 = true) (HB : Below w1.heap.size w1 u) : RSc1 w1 sa sl sc ss kh x0 p1 p5 p6 p7 p8 p9 p10 p11 p12 p13 p14 p15 u #[l0, l1, l2, l3, l4, l5, l6, l7, l8, l9, l10, l11, l12, l13, l14, l15, l16, l17, l18, l19, l20, l21, l22, l23] { tmps := #[x0, p1, v2, .slice sa sl sc, .bool true, p5, p6, p7, p8, p9, p10, p11, p12, p13, p14, p15, v16, v17, v18, v19, v20, v21, v22, v23, v24, v25, v26, v27, v28, v29, v30, v31, v32, v33, v34, v35, v36, v37, v38], defers := [] }
theorem RSc1.size {w1 : World} {sa : Option Addr} {sl sc : Nat} {ss : List Sl} {kh : Nat} {x0 p1 p5 p6 p7 p8 p9 p10 p11 p12 p13 p14 p15 : Value} {u : World} {listed : Array Bool} {a : Act} (h : RSc1 w1 sa sl sc ss kh x0 p1 p5 p6 p7 p8 p9 p10 p11 p12 p13 p14 p15 u listed a) : listed.size = 24 := by cases h; rfl
/-- What holds when the operations of 'listed' have come up. -/
inductive RSc0 (w1 : World) (sa : Option Addr) (sl sc : Nat) (ss : List Sl) (kh : Nat) (x0 p1 p5 p6 p7 p8 p9 p10 p11 p12 p13 p14 p15 : Value) (u : World) : Array Bool → Act → Prop
  | mk (l0 l1 l2 l3 l4 l5 l6 l7 l8 l9 l10 l11 l12 l13 l14 l15 l16 l17 l18 l19 l20 l21 l22 l23 : Bool) (v2 v16 v17 v18 v19 v20 v21 v22 v23 v24 v25 v26 v27 v28 v29 v30 v31 v32 v33 v34 v35 v36 v37 v38 : Value)
    (c0 : l0 = true → v16 = .bool false) (c1 : l1 = true → v17 = .bool true) (c2 : l2 = true → v18 = .bool true) (c3 : l3 = true → v19 = undef) (c4 : l4 = true → v20 = undef) (c5 : l5 = true → v21 = undef) (c6 : l6 = true → v22 = undef) (c7 : l7 = true → v23 = undef) (c8 : l8 = true → v24 = undef) (c9 : l9 = true → v25 = .bool true) (c10 : l10 = true → v26 = .bool true) (c11 : l11 = true → l13 = false → E27 w1.heap.size u v27) (c12 : l12 = true → v28 = .slice sa sl sc) (c13 : l13 = true → l16 = false → u.ownsRow w1.heap.size 26 1 v29 sl (ss.map slQ)) (c14 : l14 = true → Two10 w1.heap.size u v30) (c15 : l15 = true → l16 = false → One10 u v30 v31) (c16 : l16 = true → u.ownsRow w1.heap.size 26 1 v32 (sl + 1) (ss.map slQ ++ [v30])) (c17 : l17 = true → v33 = .bool false) (c18 : l18 = true → v34 = .bool true) (c19 : l19 = true → v35 = .bool true) (c20 : l20 = true → v36 = .bool true) (c21 : l21 = true → v37 = .bool true) (c22 : l22 = true → v38 = .bool true) (c23 : l23 = true → v2 = .bool true) (d1 : l11 = true → l13 = false → l14 = true → v27.ownBlock ≠ v30.ownBlock) (d2 : l13 = true → l16 = false → l14 = true → v29.ownBlock ≠ v30.ownBlock) (o1 : l16 = true → l13 = true) (o2 : l16 = true → l15 = true) (o3 : l15 = true → l14 = true) (o4 : l13 = true → l11 = true) (o5 : l17 = true → l16 = true) (HB : Below w1.heap.size w1 u) : RSc0 w1 sa sl sc ss kh x0 p1 p5 p6 p7 p8 p9 p10 p11 p12 p13 p14 p15 u #[l0, l1, l2, l3, l4, l5, l6, l7, l8, l9, l10, l11, l12, l13, l14, l15, l16, l17, l18, l19, l20, l21, l22, l23] { tmps := #[x0, p1, v2, .slice sa sl sc, .bool false, p5, p6, p7, p8, p9, p10, p11, p12, p13, p14, p15, v16, v17, v18, v19, v20, v21, v22, v23, v24, v25, v26, v27, v28, v29, v30, v31, v32, v33, v34, v35, v36, v37, v38], defers := [] }
theorem RSc0.size {w1 : World} {sa : Option Addr} {sl sc : Nat} {ss : List Sl} {kh : Nat} {x0 p1 p5 p6 p7 p8 p9 p10 p11 p12 p13 p14 p15 : Value} {u : World} {listed : Array Bool} {a : Act} (h : RSc0 w1 sa sl sc ss kh x0 p1 p5 p6 p7 p8 p9 p10 p11 p12 p13 p14 p15 u listed a) : listed.size = 24 := by cases h; rfl
set_option maxHeartbeats 8000000 in
theorem walkFnSceneValid (w : World) (a : Option Addr) (len cap : Nat) (zs : List Int) (h : Bytes w a len cap zs) :
    Calls Try.prog 3 #[.slice a len cap] w fun e w' => e = .returned (.bool true) ∧ Below w.heap.size w w' := by
  obtain ⟨i0, hi0, hz0, hz1, hz2⟩ := info_parts infoSl9
  have hle := h.len_le
  obtain ⟨hl, hm⟩ := hle
  unfold maxLen at hm
  by_cases hbig : 1048576 < len
  · go_enter Try.func3, Try.ntmps3
    go_wp2
    go_ret
    exact ⟨rfl, Below.refl _ _⟩
  · go_enter Try.func3, Try.ntmps3
    go_wp2_with fail
    refine (drawSceneValid w a len cap zs h).mono ?_
    rintro e w0 ⟨⟨sa, sl, sc⟩, ss, pss, rfl, hS, hn, hsc, hb0⟩
    simp only at hS hsc
    have hsl : sl ≤ 9 := by rw [hS.1]; exact hn
    have HB00 := Lib.hid hb0
    have HS0 := Lib.hid hS
    clear h hl hm hbig hb0 hS hn
    obtain ⟨kh, hkh⟩ : ∃ kh, sl / 2 = kh := ⟨_, rfl⟩
    have hkl : kh ≤ sl := by omega
    have hkc : kh ≤ sc := by omega
    have HKH := Lib.hid hkh
    clear hkh
    obtain ⟨v, hv⟩ : ∃ v, decide (scnV pss) = v := ⟨_, rfl⟩
    have e0 : (v != v) = false := by simp
    have HIM := Lib.hid (implSceneValid sa sl sc pss w0 HS0.out.pss (by omega))
    have HSP := Lib.hid (fun (u : World) (hu : Below w0.heap.size w0 u) => specSceneValid sa sl sc pss u (HS0.out.next hu).pss (by omega))
    rw [hv] at HIM HSP
    go_wp2_with fail
    refine HIM.out.mono ?_
    rintro e wa ⟨rfl, Ba⟩
    have HBa := Lib.hid Ba
    clear Ba
    go_wp2_with fail
    refine (HSP.out _ HBa.out).mono ?_
    rintro e w1 ⟨rfl, B1⟩
    have HB0 := Lib.hid (below_call HB00.out (below_call HBa.out B1))
    have HS1 := Lib.hid (HS0.out.next (below_call HBa.out B1))
    clear B1 HBa HIM HSP HS0 HB00
    have HLS := Lib.hid HS1.out.2.1
    have HNW := Lib.hid (fun (u : World) (hu : Below w1.heap.size w1 u) => news10 (HS1.out.next hu))
    have HALL := Lib.hid (fun (u : World) (v30 v32 : Value) (hu : Below w1.heap.size w1 u) (h30 : Two10 w1.heap.size u v30) (h32 : u.ownsRow w1.heap.size 26 1 v32 (sl + 1) (ss.map slQ ++ [v30])) => all10 (HS1.out.next hu) h30 h32)
    have HNO := Lib.hid (fun (g c : Nat) (u : World) (hp : PSS u (some ⟨g, 0, none⟩) (sl + 1) (pss ++ [[(0, 0), (0, 0)]])) => show Calls Try.prog 6 #[.slice (some ⟨g, 0, none⟩) (sl + 1) c] u fun e u' => e = .returned (.bool false) ∧ Below u.heap.size u u' by
      have k := implSceneValid (some ⟨g, 0, none⟩) (sl + 1) c (pss ++ [[(0, 0), (0, 0)]]) u hp (by omega)
      rw [decide_eq_false (scnV_no (o := [(0, 0), (0, 0)]) (by simp) (by simp))] at k
      exact k)
    cases v with
    | true =>
      have HHALF := Lib.hid (fun (u : World) (hu : Below w1.heap.size w1 u) => show Calls Try.prog 6 #[.slice sa kh sc] u fun e u' => e = .returned (.bool true) ∧ Below u.heap.size u u' by
        have k := implSceneValid sa kh sc (pss.take kh) u ((HS1.out.next hu).half (by omega)) (by omega)
        rw [decide_eq_true (scnV.part (of_decide_eq_true hv) (take_half pss kh).1 (take_half pss kh).2)] at k
        exact k)
      clear hv HS1
      go_upto_region 7 with fail
      refine wp_region_inv (fun listed act u => RSc1 w1 sa sl sc ss kh ?x0_true ?p1_true ?p5_true ?p6_true ?p7_true ?p8_true ?p9_true ?p10_true ?p11_true ?p12_true ?p13_true ?p14_true ?p15_true u listed act) (by kernel_rfl) ?hlt_true ?hsz_true ?h0_true ?hstep_true ?hdone_true
      case h0_true =>
        exact ⟨false, false, false, false, false, false, false, false, false, false, false, false, false, false, false, false, false, false, false, false, false, false, false, false, _, _, _, _, _, _, _, _, _, _, _, _, _, _, _, _, _, _, _, _, _, _, _, _, (by intro h; cases h), (by intro h; cases h), (by intro h; cases h), (by intro h; cases h), (by intro h; cases h), (by intro h; cases h), (by intro h; cases h), (by intro h; cases h), (by intro h; cases h), (by intro h; cases h), (by intro h; cases h), (by intro h; cases h), (by intro h; cases h), (by intro h; cases h), (by intro h; cases h), (by intro h; cases h), (by intro h; cases h), (by intro h; cases h), (by intro h; cases h), (by intro h; cases h), (by intro h; cases h), (by intro h; cases h), (by intro h; cases h), (by intro h; cases h), (by intro h; cases h), (by intro h; cases h), (by intro h; cases h), (by intro h; cases h), (by intro h; cases h), (by intro h; cases h), (by intro h; cases h), (below_drew10 w1)⟩
      case hlt_true => exact backB_spec (by kernel_rfl)
      case hsz_true => exact fun listed a u h => h.size
      case hdone_true =>
        intro listed act u hR hall
        obtain ⟨l0, l1, l2, l3, l4, l5, l6, l7, l8, l9, l10, l11, l12, l13, l14, l15, l16, l17, l18, l19, l20, l21, l22, l23, v2, v16, v17, v18, v19, v20, v21, v22, v23, v24, v25, v26, v27, v28, v29, v30, v31, v32, v33, v34, v35, v36, v37, v38, c0, c1, c2, c3, c4, c5, c6, c7, c8, c9, c10, c11, c12, c13, c14, c15, c16, c17, c18, c19, c20, c21, c22, c23, d1, d2, o1, o2, o3, o4, o5, HB⟩ := hR
        obtain rfl := c23 (hall 23 (by decide))
        have HBF := Lib.hid (below_call HB0.out HB)
        clear c0 c1 c2 c3 c4 c5 c6 c7 c8 c9 c10 c11 c12 c13 c14 c15 c16 c17 c18 c19 c20 c21 c22 c23 d1 d2 o1 o2 o3 o4 o5 HB hall
        go_wp2
        go_ret
        exact ⟨rfl, HBF.out⟩
      case hstep_true =>
        intro listed act u i oo hR ho hl hd
        obtain ⟨l0, l1, l2, l3, l4, l5, l6, l7, l8, l9, l10, l11, l12, l13, l14, l15, l16, l17, l18, l19, l20, l21, l22, l23, v2, v16, v17, v18, v19, v20, v21, v22, v23, v24, v25, v26, v27, v28, v29, v30, v31, v32, v33, v34, v35, v36, v37, v38, c0, c1, c2, c3, c4, c5, c6, c7, c8, c9, c10, c11, c12, c13, c14, c15, c16, c17, c18, c19, c20, c21, c22, c23, d1, d2, o1, o2, o3, o4, o5, HB⟩ := hR
        have hi : i < 24 := by rcases Nat.lt_or_ge i 24 with h | h; exact h; rw [Array.getElem?_eq_none (by simpa using h)] at ho; cases ho
        have hi2 : i = 0 ∨ i = 1 ∨ i = 2 ∨ i = 3 ∨ i = 4 ∨ i = 5 ∨ i = 6 ∨ i = 7 ∨ i = 8 ∨ i = 9 ∨ i = 10 ∨ i = 11 ∨ i = 12 ∨ i = 13 ∨ i = 14 ∨ i = 15 ∨ i = 16 ∨ i = 17 ∨ i = 18 ∨ i = 19 ∨ i = 20 ∨ i = 21 ∨ i = 22 ∨ i = 23 := by omega
        rcases hi2 with rfl | rfl | rfl | rfl | rfl | rfl | rfl | rfl | rfl | rfl | rfl | rfl | rfl | rfl | rfl | rfl | rfl | rfl | rfl | rfl | rfl | rfl | rfl | rfl
        all_goals (cases ho)
        · skip
          refine wpOp_step rfl (fun K hK => ?_)
          go_simp
          refine hK _ _ ?_
          exact ⟨true, l1, l2, l3, l4, l5, l6, l7, l8, l9, l10, l11, l12, l13, l14, l15, l16, l17, l18, l19, l20, l21, l22, l23, _, _, _, _, _, _, _, _, _, _, _, _, _, _, _, _, _, _, _, _, _, _, _, _, (fun _ => rfl), c1, c2, c3, c4, c5, c6, c7, c8, c9, c10, c11, c12, c13, c14, c15, c16, c17, c18, c19, c20, c21, c22, c23, d1, d2, o1, o2, o3, o4, o5, HB⟩
        · obtain rfl := c0 (hd { on := 0, ground := Ground.data } (by simp) rfl)
          refine wpOp_step rfl (fun K hK => ?_)
          go_simp
          refine hK _ _ ?_
          exact ⟨l0, true, l2, l3, l4, l5, l6, l7, l8, l9, l10, l11, l12, l13, l14, l15, l16, l17, l18, l19, l20, l21, l22, l23, _, _, _, _, _, _, _, _, _, _, _, _, _, _, _, _, _, _, _, _, _, _, _, _, c0, (fun _ => rfl), c2, c3, c4, c5, c6, c7, c8, c9, c10, c11, c12, c13, c14, c15, c16, c17, c18, c19, c20, c21, c22, c23, d1, d2, o1, o2, o3, o4, o5, HB⟩
        · obtain rfl := c1 (hd { on := 1, ground := Ground.data } (by simp) rfl)
          refine wpOp_step rfl (fun K hK => ?_)
          go_simp
          refine hK _ _ ?_
          exact ⟨l0, l1, true, l3, l4, l5, l6, l7, l8, l9, l10, l11, l12, l13, l14, l15, l16, l17, l18, l19, l20, l21, l22, l23, _, _, _, _, _, _, _, _, _, _, _, _, _, _, _, _, _, _, _, _, _, _, _, _, c0, c1, (fun _ => rfl), c3, c4, c5, c6, c7, c8, c9, c10, c11, c12, c13, c14, c15, c16, c17, c18, c19, c20, c21, c22, c23, d1, d2, o1, o2, o3, o4, o5, HB⟩
        · obtain rfl := c2 (hd { on := 2, ground := Ground.guard } (by simp) rfl)
          refine wpOp_step rfl (fun K hK => ?_)
          go_simp
          refine hK _ _ ?_
          exact ⟨l0, l1, l2, true, l4, l5, l6, l7, l8, l9, l10, l11, l12, l13, l14, l15, l16, l17, l18, l19, l20, l21, l22, l23, _, _, _, _, _, _, _, _, _, _, _, _, _, _, _, _, _, _, _, _, _, _, _, _, c0, c1, c2, (fun _ => rfl), c4, c5, c6, c7, c8, c9, c10, c11, c12, c13, c14, c15, c16, c17, c18, c19, c20, c21, c22, c23, d1, d2, o1, o2, o3, o4, o5, HB⟩
        · obtain rfl := c2 (hd { on := 2, ground := Ground.guard } (by simp) rfl)
          refine wpOp_step rfl (fun K hK => ?_)
          go_simp
          refine hK _ _ ?_
          exact ⟨l0, l1, l2, l3, true, l5, l6, l7, l8, l9, l10, l11, l12, l13, l14, l15, l16, l17, l18, l19, l20, l21, l22, l23, _, _, _, _, _, _, _, _, _, _, _, _, _, _, _, _, _, _, _, _, _, _, _, _, c0, c1, c2, c3, (fun _ => rfl), c5, c6, c7, c8, c9, c10, c11, c12, c13, c14, c15, c16, c17, c18, c19, c20, c21, c22, c23, d1, d2, o1, o2, o3, o4, o5, HB⟩
        · obtain rfl := c4 (hd { on := 4, ground := Ground.data } (by simp) rfl)
          obtain rfl := c2 (hd { on := 2, ground := Ground.guard } (by simp) rfl)
          refine wpOp_step rfl (fun K hK => ?_)
          go_simp
          refine hK _ _ ?_
          exact ⟨l0, l1, l2, l3, l4, true, l6, l7, l8, l9, l10, l11, l12, l13, l14, l15, l16, l17, l18, l19, l20, l21, l22, l23, _, _, _, _, _, _, _, _, _, _, _, _, _, _, _, _, _, _, _, _, _, _, _, _, c0, c1, c2, c3, c4, (fun _ => rfl), c6, c7, c8, c9, c10, c11, c12, c13, c14, c15, c16, c17, c18, c19, c20, c21, c22, c23, d1, d2, o1, o2, o3, o4, o5, HB⟩
        · obtain rfl := c5 (hd { on := 5, ground := Ground.data } (by simp) rfl)
          obtain rfl := c2 (hd { on := 2, ground := Ground.guard } (by simp) rfl)
          have q1 : IntKind.i64.wrap ((sl : Int) / 2) = (kh : Int) := by rw [show (sl : Int) / 2 = (kh : Int) by have := HKH.out; omega]; exact wrap_in (by omega) (by omega)
          refine wpOp_step rfl (fun K hK => ?_)
          go_simp
          refine hK _ _ ?_
          exact ⟨l0, l1, l2, l3, l4, l5, true, l7, l8, l9, l10, l11, l12, l13, l14, l15, l16, l17, l18, l19, l20, l21, l22, l23, _, _, _, _, _, _, _, _, _, _, _, _, _, _, _, _, _, _, _, _, _, _, _, _, c0, c1, c2, c3, c4, c5, (fun _ => rfl), c7, c8, c9, c10, c11, c12, c13, c14, c15, c16, c17, c18, c19, c20, c21, c22, c23, d1, d2, o1, o2, o3, o4, o5, HB⟩
        · obtain rfl := c3 (hd { on := 3, ground := Ground.data } (by simp) rfl)
          obtain rfl := c6 (hd { on := 6, ground := Ground.data } (by simp) rfl)
          obtain rfl := c2 (hd { on := 2, ground := Ground.guard } (by simp) rfl)
          have q0 : (0 : Int) ≤ (kh : Int) := by omega
          have q1 : (kh : Int) ≤ (sc : Int) := by omega
          refine wpOp_step rfl (fun K hK => ?_)
          go_simp
          refine hK _ _ ?_
          exact ⟨l0, l1, l2, l3, l4, l5, l6, true, l8, l9, l10, l11, l12, l13, l14, l15, l16, l17, l18, l19, l20, l21, l22, l23, _, _, _, _, _, _, _, _, _, _, _, _, _, _, _, _, _, _, _, _, _, _, _, _, c0, c1, c2, c3, c4, c5, c6, (fun _ => rfl), c8, c9, c10, c11, c12, c13, c14, c15, c16, c17, c18, c19, c20, c21, c22, c23, d1, d2, o1, o2, o3, o4, o5, HB⟩
        · obtain rfl := c7 (hd { on := 7, ground := Ground.data } (by simp) rfl)
          obtain rfl := c2 (hd { on := 2, ground := Ground.guard } (by simp) rfl)
          refine wpOp_step rfl (fun K hK => ?_)
          go_simp
          refine (HHALF.out u HB).mono ?_
          rintro e u' ⟨rfl, BC⟩
          refine hK _ _ ?_
          exact ⟨l0, l1, l2, l3, l4, l5, l6, l7, true, l9, l10, l11, l12, l13, l14, l15, l16, l17, l18, l19, l20, l21, l22, l23, _, _, _, _, _, _, _, _, _, _, _, _, _, _, _, _, _, _, _, _, _, _, _, _, c0, c1, c2, c3, c4, c5, c6, c7, (fun _ => rfl), c9, c10, (fun h h' => (c11 h h').next BC), c12, (fun h h' => rowNext10 (c13 h h') BC), (fun h => (c14 h).next BC), (fun h h' => (c15 h h').next BC), (fun h => rowNext10 (c16 h) BC), c17, c18, c19, c20, c21, c22, c23, d1, d2, o1, o2, o3, o4, o5, (below_call HB BC)⟩
        · obtain rfl := c2 (hd { on := 2, ground := Ground.data } (by simp) rfl)
          obtain rfl := c8 (hd { on := 8, ground := Ground.data } (by simp) rfl)
          refine wpOp_step rfl (fun K hK => ?_)
          go_simp
          refine hK _ _ ?_
          exact ⟨l0, l1, l2, l3, l4, l5, l6, l7, l8, true, l10, l11, l12, l13, l14, l15, l16, l17, l18, l19, l20, l21, l22, l23, _, _, _, _, _, _, _, _, _, _, _, _, _, _, _, _, _, _, _, _, _, _, _, _, c0, c1, c2, c3, c4, c5, c6, c7, c8, (fun _ => rfl), c10, c11, c12, c13, c14, c15, c16, c17, c18, c19, c20, c21, c22, c23, d1, d2, o1, o2, o3, o4, o5, HB⟩
        · obtain rfl := c9 (hd { on := 9, ground := Ground.data } (by simp) rfl)
          refine wpOp_step rfl (fun K hK => ?_)
          go_simp
          refine hK _ _ ?_
          exact ⟨l0, l1, l2, l3, l4, l5, l6, l7, l8, l9, true, l11, l12, l13, l14, l15, l16, l17, l18, l19, l20, l21, l22, l23, _, _, _, _, _, _, _, _, _, _, _, _, _, _, _, _, _, _, _, _, _, _, _, _, c0, c1, c2, c3, c4, c5, c6, c7, c8, c9, (fun _ => rfl), c11, c12, c13, c14, c15, c16, c17, c18, c19, c20, c21, c22, c23, d1, d2, o1, o2, o3, o4, o5, HB⟩
        · obtain rfl := c10 (hd { on := 10, ground := Ground.guard } (by simp) rfl)
          have e11 : l11 = false := hl
          subst e11
          have H13 : l13 = false := by cases l13 with | false => rfl | true => exact absurd (o4 rfl) (by simp)
          refine wpOp_step rfl (fun K hK => ?_)
          go_simp
          refine hK _ _ ?_
          exact ⟨l0, l1, l2, l3, l4, l5, l6, l7, l8, l9, l10, true, l12, l13, l14, l15, l16, l17, l18, l19, l20, l21, l22, l23, _, _, _, _, _, _, _, _, _, _, _, _, _, _, _, _, _, _, _, _, _, _, _, _, c0, c1, c2, c3, c4, c5, c6, c7, c8, c9, c10, (fun _ _ => E27.new u HB.size), c12, (fun h h' => rowNext10 (c13 h h') (below_box u _)), (fun h => (c14 h).next (below_box u _)), (fun h h' => (c15 h h').next (below_box u _)), (fun h => rowNext10 (c16 h) (below_box u _)), c17, c18, c19, c20, c21, c22, c23, (fun _ _ h => E27.newNe (c14 h)), d2, o1, o2, o3, (fun _ => rfl), o5, (below_call HB (below_box u _))⟩
        · obtain rfl := c10 (hd { on := 10, ground := Ground.guard } (by simp) rfl)
          refine wpOp_step rfl (fun K hK => ?_)
          go_simp
          refine hK _ _ ?_
          exact ⟨l0, l1, l2, l3, l4, l5, l6, l7, l8, l9, l10, l11, true, l13, l14, l15, l16, l17, l18, l19, l20, l21, l22, l23, _, _, _, _, _, _, _, _, _, _, _, _, _, _, _, _, _, _, _, _, _, _, _, _, c0, c1, c2, c3, c4, c5, c6, c7, c8, c9, c10, c11, (fun _ => rfl), c13, c14, c15, c16, c17, c18, c19, c20, c21, c22, c23, d1, d2, o1, o2, o3, o4, o5, HB⟩
        · obtain rfl := c12 (hd { on := 12, ground := Ground.data } (by simp) rfl)
          obtain rfl := c10 (hd { on := 10, ground := Ground.guard } (by simp) rfl)
          have d11 := hd { on := 11, ground := Ground.data } (by simp) rfl
          have e13 : l13 = false := hl
          subst e13
          have H16 : Hid (l16 = false) := Lib.hid (by cases l16 with | false => rfl | true => exact absurd (o1 rfl) (by simp))
          obtain ⟨b1, hv27, O⟩ := (c11 d11 rfl).any
          have HD1 := Lib.hid (fun h => d1 d11 rfl h)
          subst hv27
          have HSRC := Lib.hid (HNW.out u HB)
          refine wpOp_step rfl (fun K hK => ?_)
          rw [if_pos (by first | rfl | kernel_rfl)]
          refine wp_app_fresh10 (.tmp 27) (.tmp 28) rfl b1 rfl sa sl sc rfl (ss.map slQ) (by rw [List.length_map]; exact HLS.out) HSRC.out (by intro q hq; obtain ⟨s, _, rfl⟩ := List.mem_map.1 hq; rfl) (by omega) w1.heap.size HB.size O ?_
          intro v' w3 own3 bel3 ne3
          have HO3 := Lib.hid own3
          have HG3 := Lib.hid (And.intro bel3 trivial)
          have HNE := Lib.hid (fun (h : l14 = true) => ne10 (c14 h) (HD1.out h) ne3)
          clear own3 bel3 ne3
          refine hK _ _ ?_
          exact ⟨l0, l1, l2, l3, l4, l5, l6, l7, l8, l9, l10, l11, l12, true, l14, l15, l16, l17, l18, l19, l20, l21, l22, l23, _, _, _, _, _, _, _, _, _, _, _, _, _, _, _, _, _, _, _, _, _, _, _, _, c0, c1, c2, c3, c4, c5, c6, c7, c8, c9, c10, (fun _ h => by cases h), c12, (fun _ _ => HO3.out), (fun h => (c14 h).next HG3.out.1), (fun h h' => (c15 h h').next HG3.out.1), (fun h => by rw [H16.out] at h; cases h), c17, c18, c19, c20, c21, c22, c23, (fun _ h => by cases h), (fun _ _ h => HNE.out h), (fun _ => rfl), o2, o3, (fun _ => d11), o5, (below_call HB HG3.out.1)⟩
        · obtain rfl := c10 (hd { on := 10, ground := Ground.guard } (by simp) rfl)
          have e14 : l14 = false := hl
          subst e14
          have H15 : Hid (l15 = false) := Lib.hid (by cases l15 with | false => rfl | true => exact absurd (o3 rfl) (by simp))
          have H16 : Hid (l16 = false) := Lib.hid (by cases l16 with | false => rfl | true => exact absurd (o2 rfl) (by rw [H15.out]; simp))
          refine wpOp_step rfl (fun K hK => ?_)
          rw [if_pos (by first | rfl | kernel_rfl)]
          refine wp_make10 (.const (.int .i64 2)) (.const (.int .i64 2)) rfl rfl rfl w1.heap.size HB.size ?_
          intro w3 two3 bel3
          have HO3 := Lib.hid two3
          have HG3 := Lib.hid (And.intro bel3 trivial)
          have HNE1 := Lib.hid (fun (h : l11 = true) (h' : l13 = false) => E27.far (c11 h h') (n := 2) (c := 2))
          have HNE2 := Lib.hid (fun (h : l13 = true) (h' : l16 = false) => rowFar10 (c13 h h') (n := 2) (c := 2))
          clear two3 bel3
          refine hK _ _ ?_
          exact ⟨l0, l1, l2, l3, l4, l5, l6, l7, l8, l9, l10, l11, l12, l13, true, l15, l16, l17, l18, l19, l20, l21, l22, l23, _, _, _, _, _, _, _, _, _, _, _, _, _, _, _, _, _, _, _, _, _, _, _, _, c0, c1, c2, c3, c4, c5, c6, c7, c8, c9, c10, (fun h h' => (c11 h h').next HG3.out.1), c12, (fun h h' => rowNext10 (c13 h h') HG3.out.1), (fun _ => HO3.out), (fun h => by rw [H15.out] at h; cases h), (fun h => by rw [H16.out] at h; cases h), c17, c18, c19, c20, c21, c22, c23, (fun h h' _ => HNE1.out h h'), (fun h h' _ => HNE2.out h h'), o1, o2, (fun _ => rfl), o4, o5, (below_call HB HG3.out.1)⟩
        · obtain rfl := c10 (hd { on := 10, ground := Ground.guard } (by simp) rfl)
          have d14 := hd { on := 14, ground := Ground.data } (by simp) rfl
          obtain ⟨g2, hv30, _⟩ := c14 d14
          subst hv30
          refine wpOp_step rfl (fun K hK => ?_)
          go_simp
          refine hK _ _ ?_
          exact ⟨l0, l1, l2, l3, l4, l5, l6, l7, l8, l9, l10, l11, l12, l13, l14, true, l16, l17, l18, l19, l20, l21, l22, l23, _, _, _, _, _, _, _, _, _, _, _, _, _, _, _, _, _, _, _, _, _, _, _, _, c0, c1, c2, c3, c4, c5, c6, c7, c8, c9, c10, (fun h h' => (c11 h h').next (below_box u _)), c12, (fun h h' => rowNext10 (c13 h h') (below_box u _)), (fun h => (c14 h).next (below_box u _)), (fun _ _ => One10.new u _), (fun h => rowNext10 (c16 h) (below_box u _)), c17, c18, c19, c20, c21, c22, c23, d1, d2, o1, (fun _ => rfl), (fun _ => d14), o4, o5, (below_call HB (below_box u _))⟩
        · obtain rfl := c10 (hd { on := 10, ground := Ground.guard } (by simp) rfl)
          have d13 := hd { on := 13, ground := Ground.data } (by simp) rfl
          have d15 := hd { on := 15, ground := Ground.data } (by simp) rfl
          have e16 : l16 = false := hl
          subst e16
          have O := c13 d13 rfl
          obtain ⟨g3, hv31, HX, hg3⟩ := (c15 d15 rfl).any
          subst hv31
          have HNE := Lib.hid (fun (h : l14 = true) => d2 d13 rfl h)
          have HTW := Lib.hid (c14 (o3 d15))
          have HNW1 := Lib.hid (one_at10 HX)
          have HBE := Lib.hid (World.ownsRow.lt O)
          refine wpOp_step rfl (fun K hK => ?_)
          rw [if_pos (by first | rfl | kernel_rfl)]
          refine wp_append_lies u (.tmp 29) (.tmp 31) 23 rfl w1.heap.size 26 i0 (.slice none 0 0) 1 24 Try.underlying23 hi0 hz0 hz1 hz2 rfl (by decide) v29 sl (ss.map slQ) rfl O ⟨g3, 0, none⟩ 1 1 [v30] rfl rfl HNW1.out (by intro q hq; simp at hq; subst hq; exact HTW.out.cell1) (by omega) (by unfold maxLen; omega) (by omega) HB.size _ rfl ?_
          intro g cap3 w3 own3 grow3 at3 ltg
          have HO3 := Lib.hid own3
          have HGR := Lib.hid grow3
          have HBG := Lib.hid (HB.grown grow3 HB.size (fun k hk => (HBE.out k hk).1))
          clear own3 grow3 at3 ltg
          refine hK _ _ ?_
          exact ⟨l0, l1, l2, l3, l4, l5, l6, l7, l8, l9, l10, l11, l12, l13, l14, l15, true, l17, l18, l19, l20, l21, l22, l23, _, _, _, _, _, _, _, _, _, _, _, _, _, _, _, _, _, _, _, _, _, _, _, _, c0, c1, c2, c3, c4, c5, c6, c7, c8, c9, c10, (fun _ h => by rw [show l13 = true from d13] at h; cases h), c12, (fun _ h => by cases h), (fun h => (c14 h).row HGR.out (HNE.out h)), (fun _ h => by cases h), (fun _ => HO3.out), c17, c18, c19, c20, c21, c22, c23, (fun _ h => by rw [show l13 = true from d13] at h; cases h), (fun _ h => by cases h), (fun _ => d13), (fun _ => d15), o3, o4, (fun _ => rfl), (HBG.out)⟩
        · obtain rfl := c10 (hd { on := 10, ground := Ground.guard } (by simp) rfl)
          have d16 := hd { on := 16, ground := Ground.data } (by simp) rfl
          obtain ⟨g, c, hv32, HP⟩ := HALL.out u v30 v32 HB (c14 (o3 (o2 d16))) (c16 d16)
          subst hv32
          have HC := Lib.hid (HNO.out g c u HP)
          refine wpOp_step rfl (fun K hK => ?_)
          go_simp
          refine HC.out.mono ?_
          rintro e u' ⟨rfl, BC⟩
          refine hK _ _ ?_
          exact ⟨l0, l1, l2, l3, l4, l5, l6, l7, l8, l9, l10, l11, l12, l13, l14, l15, l16, true, l18, l19, l20, l21, l22, l23, _, _, _, _, _, _, _, _, _, _, _, _, _, _, _, _, _, _, _, _, _, _, _, _, c0, c1, c2, c3, c4, c5, c6, c7, c8, c9, c10, (fun h h' => (c11 h h').next BC), c12, (fun h h' => rowNext10 (c13 h h') BC), (fun h => (c14 h).next BC), (fun h h' => (c15 h h').next BC), (fun h => rowNext10 (c16 h) BC), (fun _ => rfl), c18, c19, c20, c21, c22, c23, d1, d2, o1, o2, o3, o4, (fun _ => d16), (below_call HB BC)⟩
        · obtain rfl := c17 (hd { on := 17, ground := Ground.data } (by simp) rfl)
          obtain rfl := c10 (hd { on := 10, ground := Ground.guard } (by simp) rfl)
          refine wpOp_step rfl (fun K hK => ?_)
          go_simp
          refine hK _ _ ?_
          exact ⟨l0, l1, l2, l3, l4, l5, l6, l7, l8, l9, l10, l11, l12, l13, l14, l15, l16, l17, true, l19, l20, l21, l22, l23, _, _, _, _, _, _, _, _, _, _, _, _, _, _, _, _, _, _, _, _, _, _, _, _, c0, c1, c2, c3, c4, c5, c6, c7, c8, c9, c10, c11, c12, c13, c14, c15, c16, c17, (fun _ => rfl), c19, c20, c21, c22, c23, d1, d2, o1, o2, o3, o4, o5, HB⟩
        · obtain rfl := c10 (hd { on := 10, ground := Ground.data } (by simp) rfl)
          obtain rfl := c18 (hd { on := 18, ground := Ground.data } (by simp) rfl)
          refine wpOp_step rfl (fun K hK => ?_)
          go_simp
          refine hK _ _ ?_
          exact ⟨l0, l1, l2, l3, l4, l5, l6, l7, l8, l9, l10, l11, l12, l13, l14, l15, l16, l17, l18, true, l20, l21, l22, l23, _, _, _, _, _, _, _, _, _, _, _, _, _, _, _, _, _, _, _, _, _, _, _, _, c0, c1, c2, c3, c4, c5, c6, c7, c8, c9, c10, c11, c12, c13, c14, c15, c16, c17, c18, (fun _ => rfl), c20, c21, c22, c23, d1, d2, o1, o2, o3, o4, o5, HB⟩
        · obtain rfl := c19 (hd { on := 19, ground := Ground.data } (by simp) rfl)
          refine wpOp_step rfl (fun K hK => ?_)
          go_simp
          refine hK _ _ ?_
          exact ⟨l0, l1, l2, l3, l4, l5, l6, l7, l8, l9, l10, l11, l12, l13, l14, l15, l16, l17, l18, l19, true, l21, l22, l23, _, _, _, _, _, _, _, _, _, _, _, _, _, _, _, _, _, _, _, _, _, _, _, _, c0, c1, c2, c3, c4, c5, c6, c7, c8, c9, c10, c11, c12, c13, c14, c15, c16, c17, c18, c19, (fun _ => rfl), c21, c22, c23, d1, d2, o1, o2, o3, o4, o5, HB⟩
        · obtain rfl := c20 (hd { on := 20, ground := Ground.guard } (by simp) rfl)
          refine wpOp_step rfl (fun K hK => ?_)
          go_simp
          refine (alive u).mono ?_
          rintro e u' ⟨rfl, rfl⟩
          refine hK _ _ ?_
          exact ⟨l0, l1, l2, l3, l4, l5, l6, l7, l8, l9, l10, l11, l12, l13, l14, l15, l16, l17, l18, l19, l20, true, l22, l23, _, _, _, _, _, _, _, _, _, _, _, _, _, _, _, _, _, _, _, _, _, _, _, _, c0, c1, c2, c3, c4, c5, c6, c7, c8, c9, c10, c11, c12, c13, c14, c15, c16, c17, c18, c19, c20, (fun _ => rfl), c22, c23, d1, d2, o1, o2, o3, o4, o5, HB⟩
        · obtain rfl := c20 (hd { on := 20, ground := Ground.data } (by simp) rfl)
          obtain rfl := c21 (hd { on := 21, ground := Ground.data } (by simp) rfl)
          refine wpOp_step rfl (fun K hK => ?_)
          go_simp
          refine hK _ _ ?_
          exact ⟨l0, l1, l2, l3, l4, l5, l6, l7, l8, l9, l10, l11, l12, l13, l14, l15, l16, l17, l18, l19, l20, l21, true, l23, _, _, _, _, _, _, _, _, _, _, _, _, _, _, _, _, _, _, _, _, _, _, _, _, c0, c1, c2, c3, c4, c5, c6, c7, c8, c9, c10, c11, c12, c13, c14, c15, c16, c17, c18, c19, c20, c21, (fun _ => rfl), c23, d1, d2, o1, o2, o3, o4, o5, HB⟩
        · obtain rfl := c22 (hd { on := 22, ground := Ground.data } (by simp) rfl)
          refine wpOp_step rfl (fun K hK => ?_)
          go_simp
          refine hK _ _ ?_
          exact ⟨l0, l1, l2, l3, l4, l5, l6, l7, l8, l9, l10, l11, l12, l13, l14, l15, l16, l17, l18, l19, l20, l21, l22, true, _, _, _, _, _, _, _, _, _, _, _, _, _, _, _, _, _, _, _, _, _, _, _, _, c0, c1, c2, c3, c4, c5, c6, c7, c8, c9, c10, c11, c12, c13, c14, c15, c16, c17, c18, c19, c20, c21, c22, (fun _ => rfl), d1, d2, o1, o2, o3, o4, o5, HB⟩
    | false =>
      clear hv HS1
      go_upto_region 7 with fail
      refine wp_region_inv (fun listed act u => RSc0 w1 sa sl sc ss kh ?x0_false ?p1_false ?p5_false ?p6_false ?p7_false ?p8_false ?p9_false ?p10_false ?p11_false ?p12_false ?p13_false ?p14_false ?p15_false u listed act) (by kernel_rfl) ?hlt_false ?hsz_false ?h0_false ?hstep_false ?hdone_false
      case h0_false =>
        exact ⟨false, false, false, false, false, false, false, false, false, false, false, false, false, false, false, false, false, false, false, false, false, false, false, false, _, _, _, _, _, _, _, _, _, _, _, _, _, _, _, _, _, _, _, _, _, _, _, _, (by intro h; cases h), (by intro h; cases h), (by intro h; cases h), (by intro h; cases h), (by intro h; cases h), (by intro h; cases h), (by intro h; cases h), (by intro h; cases h), (by intro h; cases h), (by intro h; cases h), (by intro h; cases h), (by intro h; cases h), (by intro h; cases h), (by intro h; cases h), (by intro h; cases h), (by intro h; cases h), (by intro h; cases h), (by intro h; cases h), (by intro h; cases h), (by intro h; cases h), (by intro h; cases h), (by intro h; cases h), (by intro h; cases h), (by intro h; cases h), (by intro h; cases h), (by intro h; cases h), (by intro h; cases h), (by intro h; cases h), (by intro h; cases h), (by intro h; cases h), (by intro h; cases h), (below_drew10 w1)⟩
      case hlt_false => exact backB_spec (by kernel_rfl)
      case hsz_false => exact fun listed a u h => h.size
      case hdone_false =>
        intro listed act u hR hall
        obtain ⟨l0, l1, l2, l3, l4, l5, l6, l7, l8, l9, l10, l11, l12, l13, l14, l15, l16, l17, l18, l19, l20, l21, l22, l23, v2, v16, v17, v18, v19, v20, v21, v22, v23, v24, v25, v26, v27, v28, v29, v30, v31, v32, v33, v34, v35, v36, v37, v38, c0, c1, c2, c3, c4, c5, c6, c7, c8, c9, c10, c11, c12, c13, c14, c15, c16, c17, c18, c19, c20, c21, c22, c23, d1, d2, o1, o2, o3, o4, o5, HB⟩ := hR
        obtain rfl := c23 (hall 23 (by decide))
        have HBF := Lib.hid (below_call HB0.out HB)
        clear c0 c1 c2 c3 c4 c5 c6 c7 c8 c9 c10 c11 c12 c13 c14 c15 c16 c17 c18 c19 c20 c21 c22 c23 d1 d2 o1 o2 o3 o4 o5 HB hall
        go_wp2
        go_ret
        exact ⟨rfl, HBF.out⟩
      case hstep_false =>
        intro listed act u i oo hR ho hl hd
        obtain ⟨l0, l1, l2, l3, l4, l5, l6, l7, l8, l9, l10, l11, l12, l13, l14, l15, l16, l17, l18, l19, l20, l21, l22, l23, v2, v16, v17, v18, v19, v20, v21, v22, v23, v24, v25, v26, v27, v28, v29, v30, v31, v32, v33, v34, v35, v36, v37, v38, c0, c1, c2, c3, c4, c5, c6, c7, c8, c9, c10, c11, c12, c13, c14, c15, c16, c17, c18, c19, c20, c21, c22, c23, d1, d2, o1, o2, o3, o4, o5, HB⟩ := hR
        have hi : i < 24 := by rcases Nat.lt_or_ge i 24 with h | h; exact h; rw [Array.getElem?_eq_none (by simpa using h)] at ho; cases ho
        have hi2 : i = 0 ∨ i = 1 ∨ i = 2 ∨ i = 3 ∨ i = 4 ∨ i = 5 ∨ i = 6 ∨ i = 7 ∨ i = 8 ∨ i = 9 ∨ i = 10 ∨ i = 11 ∨ i = 12 ∨ i = 13 ∨ i = 14 ∨ i = 15 ∨ i = 16 ∨ i = 17 ∨ i = 18 ∨ i = 19 ∨ i = 20 ∨ i = 21 ∨ i = 22 ∨ i = 23 := by omega
        rcases hi2 with rfl | rfl | rfl | rfl | rfl | rfl | rfl | rfl | rfl | rfl | rfl | rfl | rfl | rfl | rfl | rfl | rfl | rfl | rfl | rfl | rfl | rfl | rfl | rfl
        all_goals (cases ho)
        · skip
          refine wpOp_step rfl (fun K hK => ?_)
          go_simp
          refine hK _ _ ?_
          exact ⟨true, l1, l2, l3, l4, l5, l6, l7, l8, l9, l10, l11, l12, l13, l14, l15, l16, l17, l18, l19, l20, l21, l22, l23, _, _, _, _, _, _, _, _, _, _, _, _, _, _, _, _, _, _, _, _, _, _, _, _, (fun _ => rfl), c1, c2, c3, c4, c5, c6, c7, c8, c9, c10, c11, c12, c13, c14, c15, c16, c17, c18, c19, c20, c21, c22, c23, d1, d2, o1, o2, o3, o4, o5, HB⟩
        · obtain rfl := c0 (hd { on := 0, ground := Ground.data } (by simp) rfl)
          refine wpOp_step rfl (fun K hK => ?_)
          go_simp
          refine hK _ _ ?_
          exact ⟨l0, true, l2, l3, l4, l5, l6, l7, l8, l9, l10, l11, l12, l13, l14, l15, l16, l17, l18, l19, l20, l21, l22, l23, _, _, _, _, _, _, _, _, _, _, _, _, _, _, _, _, _, _, _, _, _, _, _, _, c0, (fun _ => rfl), c2, c3, c4, c5, c6, c7, c8, c9, c10, c11, c12, c13, c14, c15, c16, c17, c18, c19, c20, c21, c22, c23, d1, d2, o1, o2, o3, o4, o5, HB⟩
        · obtain rfl := c1 (hd { on := 1, ground := Ground.data } (by simp) rfl)
          refine wpOp_step rfl (fun K hK => ?_)
          go_simp
          refine hK _ _ ?_
          exact ⟨l0, l1, true, l3, l4, l5, l6, l7, l8, l9, l10, l11, l12, l13, l14, l15, l16, l17, l18, l19, l20, l21, l22, l23, _, _, _, _, _, _, _, _, _, _, _, _, _, _, _, _, _, _, _, _, _, _, _, _, c0, c1, (fun _ => rfl), c3, c4, c5, c6, c7, c8, c9, c10, c11, c12, c13, c14, c15, c16, c17, c18, c19, c20, c21, c22, c23, d1, d2, o1, o2, o3, o4, o5, HB⟩
        · obtain rfl := c2 (hd { on := 2, ground := Ground.guard } (by simp) rfl)
          refine wpOp_step rfl (fun K hK => ?_)
          go_simp
          refine hK _ _ ?_
          exact ⟨l0, l1, l2, true, l4, l5, l6, l7, l8, l9, l10, l11, l12, l13, l14, l15, l16, l17, l18, l19, l20, l21, l22, l23, _, _, _, _, _, _, _, _, _, _, _, _, _, _, _, _, _, _, _, _, _, _, _, _, c0, c1, c2, (fun _ => rfl), c4, c5, c6, c7, c8, c9, c10, c11, c12, c13, c14, c15, c16, c17, c18, c19, c20, c21, c22, c23, d1, d2, o1, o2, o3, o4, o5, HB⟩
        · obtain rfl := c2 (hd { on := 2, ground := Ground.guard } (by simp) rfl)
          refine wpOp_step rfl (fun K hK => ?_)
          go_simp
          refine hK _ _ ?_
          exact ⟨l0, l1, l2, l3, true, l5, l6, l7, l8, l9, l10, l11, l12, l13, l14, l15, l16, l17, l18, l19, l20, l21, l22, l23, _, _, _, _, _, _, _, _, _, _, _, _, _, _, _, _, _, _, _, _, _, _, _, _, c0, c1, c2, c3, (fun _ => rfl), c5, c6, c7, c8, c9, c10, c11, c12, c13, c14, c15, c16, c17, c18, c19, c20, c21, c22, c23, d1, d2, o1, o2, o3, o4, o5, HB⟩
        · obtain rfl := c2 (hd { on := 2, ground := Ground.guard } (by simp) rfl)
          refine wpOp_step rfl (fun K hK => ?_)
          go_simp
          refine hK _ _ ?_
          exact ⟨l0, l1, l2, l3, l4, true, l6, l7, l8, l9, l10, l11, l12, l13, l14, l15, l16, l17, l18, l19, l20, l21, l22, l23, _, _, _, _, _, _, _, _, _, _, _, _, _, _, _, _, _, _, _, _, _, _, _, _, c0, c1, c2, c3, c4, (fun _ => rfl), c6, c7, c8, c9, c10, c11, c12, c13, c14, c15, c16, c17, c18, c19, c20, c21, c22, c23, d1, d2, o1, o2, o3, o4, o5, HB⟩
        · obtain rfl := c2 (hd { on := 2, ground := Ground.guard } (by simp) rfl)
          refine wpOp_step rfl (fun K hK => ?_)
          go_simp
          refine hK _ _ ?_
          exact ⟨l0, l1, l2, l3, l4, l5, true, l7, l8, l9, l10, l11, l12, l13, l14, l15, l16, l17, l18, l19, l20, l21, l22, l23, _, _, _, _, _, _, _, _, _, _, _, _, _, _, _, _, _, _, _, _, _, _, _, _, c0, c1, c2, c3, c4, c5, (fun _ => rfl), c7, c8, c9, c10, c11, c12, c13, c14, c15, c16, c17, c18, c19, c20, c21, c22, c23, d1, d2, o1, o2, o3, o4, o5, HB⟩
        · obtain rfl := c2 (hd { on := 2, ground := Ground.guard } (by simp) rfl)
          refine wpOp_step rfl (fun K hK => ?_)
          go_simp
          refine hK _ _ ?_
          exact ⟨l0, l1, l2, l3, l4, l5, l6, true, l8, l9, l10, l11, l12, l13, l14, l15, l16, l17, l18, l19, l20, l21, l22, l23, _, _, _, _, _, _, _, _, _, _, _, _, _, _, _, _, _, _, _, _, _, _, _, _, c0, c1, c2, c3, c4, c5, c6, (fun _ => rfl), c8, c9, c10, c11, c12, c13, c14, c15, c16, c17, c18, c19, c20, c21, c22, c23, d1, d2, o1, o2, o3, o4, o5, HB⟩
        · obtain rfl := c2 (hd { on := 2, ground := Ground.guard } (by simp) rfl)
          refine wpOp_step rfl (fun K hK => ?_)
          go_simp
          refine hK _ _ ?_
          exact ⟨l0, l1, l2, l3, l4, l5, l6, l7, true, l9, l10, l11, l12, l13, l14, l15, l16, l17, l18, l19, l20, l21, l22, l23, _, _, _, _, _, _, _, _, _, _, _, _, _, _, _, _, _, _, _, _, _, _, _, _, c0, c1, c2, c3, c4, c5, c6, c7, (fun _ => rfl), c9, c10, c11, c12, c13, c14, c15, c16, c17, c18, c19, c20, c21, c22, c23, d1, d2, o1, o2, o3, o4, o5, HB⟩
        · obtain rfl := c2 (hd { on := 2, ground := Ground.data } (by simp) rfl)
          obtain rfl := c8 (hd { on := 8, ground := Ground.data } (by simp) rfl)
          refine wpOp_step rfl (fun K hK => ?_)
          go_simp
          refine hK _ _ ?_
          exact ⟨l0, l1, l2, l3, l4, l5, l6, l7, l8, true, l10, l11, l12, l13, l14, l15, l16, l17, l18, l19, l20, l21, l22, l23, _, _, _, _, _, _, _, _, _, _, _, _, _, _, _, _, _, _, _, _, _, _, _, _, c0, c1, c2, c3, c4, c5, c6, c7, c8, (fun _ => rfl), c10, c11, c12, c13, c14, c15, c16, c17, c18, c19, c20, c21, c22, c23, d1, d2, o1, o2, o3, o4, o5, HB⟩
        · obtain rfl := c9 (hd { on := 9, ground := Ground.data } (by simp) rfl)
          refine wpOp_step rfl (fun K hK => ?_)
          go_simp
          refine hK _ _ ?_
          exact ⟨l0, l1, l2, l3, l4, l5, l6, l7, l8, l9, true, l11, l12, l13, l14, l15, l16, l17, l18, l19, l20, l21, l22, l23, _, _, _, _, _, _, _, _, _, _, _, _, _, _, _, _, _, _, _, _, _, _, _, _, c0, c1, c2, c3, c4, c5, c6, c7, c8, c9, (fun _ => rfl), c11, c12, c13, c14, c15, c16, c17, c18, c19, c20, c21, c22, c23, d1, d2, o1, o2, o3, o4, o5, HB⟩
        · obtain rfl := c10 (hd { on := 10, ground := Ground.guard } (by simp) rfl)
          have e11 : l11 = false := hl
          subst e11
          have H13 : l13 = false := by cases l13 with | false => rfl | true => exact absurd (o4 rfl) (by simp)
          refine wpOp_step rfl (fun K hK => ?_)
          go_simp
          refine hK _ _ ?_
          exact ⟨l0, l1, l2, l3, l4, l5, l6, l7, l8, l9, l10, true, l12, l13, l14, l15, l16, l17, l18, l19, l20, l21, l22, l23, _, _, _, _, _, _, _, _, _, _, _, _, _, _, _, _, _, _, _, _, _, _, _, _, c0, c1, c2, c3, c4, c5, c6, c7, c8, c9, c10, (fun _ _ => E27.new u HB.size), c12, (fun h h' => rowNext10 (c13 h h') (below_box u _)), (fun h => (c14 h).next (below_box u _)), (fun h h' => (c15 h h').next (below_box u _)), (fun h => rowNext10 (c16 h) (below_box u _)), c17, c18, c19, c20, c21, c22, c23, (fun _ _ h => E27.newNe (c14 h)), d2, o1, o2, o3, (fun _ => rfl), o5, (below_call HB (below_box u _))⟩
        · obtain rfl := c10 (hd { on := 10, ground := Ground.guard } (by simp) rfl)
          refine wpOp_step rfl (fun K hK => ?_)
          go_simp
          refine hK _ _ ?_
          exact ⟨l0, l1, l2, l3, l4, l5, l6, l7, l8, l9, l10, l11, true, l13, l14, l15, l16, l17, l18, l19, l20, l21, l22, l23, _, _, _, _, _, _, _, _, _, _, _, _, _, _, _, _, _, _, _, _, _, _, _, _, c0, c1, c2, c3, c4, c5, c6, c7, c8, c9, c10, c11, (fun _ => rfl), c13, c14, c15, c16, c17, c18, c19, c20, c21, c22, c23, d1, d2, o1, o2, o3, o4, o5, HB⟩
        · obtain rfl := c12 (hd { on := 12, ground := Ground.data } (by simp) rfl)
          obtain rfl := c10 (hd { on := 10, ground := Ground.guard } (by simp) rfl)
          have d11 := hd { on := 11, ground := Ground.data } (by simp) rfl
          have e13 : l13 = false := hl
          subst e13
          have H16 : Hid (l16 = false) := Lib.hid (by cases l16 with | false => rfl | true => exact absurd (o1 rfl) (by simp))
          obtain ⟨b1, hv27, O⟩ := (c11 d11 rfl).any
          have HD1 := Lib.hid (fun h => d1 d11 rfl h)
          subst hv27
          have HSRC := Lib.hid (HNW.out u HB)
          refine wpOp_step rfl (fun K hK => ?_)
          rw [if_pos (by first | rfl | kernel_rfl)]
          refine wp_app_fresh10 (.tmp 27) (.tmp 28) rfl b1 rfl sa sl sc rfl (ss.map slQ) (by rw [List.length_map]; exact HLS.out) HSRC.out (by intro q hq; obtain ⟨s, _, rfl⟩ := List.mem_map.1 hq; rfl) (by omega) w1.heap.size HB.size O ?_
          intro v' w3 own3 bel3 ne3
          have HO3 := Lib.hid own3
          have HG3 := Lib.hid (And.intro bel3 trivial)
          have HNE := Lib.hid (fun (h : l14 = true) => ne10 (c14 h) (HD1.out h) ne3)
          clear own3 bel3 ne3
          refine hK _ _ ?_
          exact ⟨l0, l1, l2, l3, l4, l5, l6, l7, l8, l9, l10, l11, l12, true, l14, l15, l16, l17, l18, l19, l20, l21, l22, l23, _, _, _, _, _, _, _, _, _, _, _, _, _, _, _, _, _, _, _, _, _, _, _, _, c0, c1, c2, c3, c4, c5, c6, c7, c8, c9, c10, (fun _ h => by cases h), c12, (fun _ _ => HO3.out), (fun h => (c14 h).next HG3.out.1), (fun h h' => (c15 h h').next HG3.out.1), (fun h => by rw [H16.out] at h; cases h), c17, c18, c19, c20, c21, c22, c23, (fun _ h => by cases h), (fun _ _ h => HNE.out h), (fun _ => rfl), o2, o3, (fun _ => d11), o5, (below_call HB HG3.out.1)⟩
        · obtain rfl := c10 (hd { on := 10, ground := Ground.guard } (by simp) rfl)
          have e14 : l14 = false := hl
          subst e14
          have H15 : Hid (l15 = false) := Lib.hid (by cases l15 with | false => rfl | true => exact absurd (o3 rfl) (by simp))
          have H16 : Hid (l16 = false) := Lib.hid (by cases l16 with | false => rfl | true => exact absurd (o2 rfl) (by rw [H15.out]; simp))
          refine wpOp_step rfl (fun K hK => ?_)
          rw [if_pos (by first | rfl | kernel_rfl)]
          refine wp_make10 (.const (.int .i64 2)) (.const (.int .i64 2)) rfl rfl rfl w1.heap.size HB.size ?_
          intro w3 two3 bel3
          have HO3 := Lib.hid two3
          have HG3 := Lib.hid (And.intro bel3 trivial)
          have HNE1 := Lib.hid (fun (h : l11 = true) (h' : l13 = false) => E27.far (c11 h h') (n := 2) (c := 2))
          have HNE2 := Lib.hid (fun (h : l13 = true) (h' : l16 = false) => rowFar10 (c13 h h') (n := 2) (c := 2))
          clear two3 bel3
          refine hK _ _ ?_
          exact ⟨l0, l1, l2, l3, l4, l5, l6, l7, l8, l9, l10, l11, l12, l13, true, l15, l16, l17, l18, l19, l20, l21, l22, l23, _, _, _, _, _, _, _, _, _, _, _, _, _, _, _, _, _, _, _, _, _, _, _, _, c0, c1, c2, c3, c4, c5, c6, c7, c8, c9, c10, (fun h h' => (c11 h h').next HG3.out.1), c12, (fun h h' => rowNext10 (c13 h h') HG3.out.1), (fun _ => HO3.out), (fun h => by rw [H15.out] at h; cases h), (fun h => by rw [H16.out] at h; cases h), c17, c18, c19, c20, c21, c22, c23, (fun h h' _ => HNE1.out h h'), (fun h h' _ => HNE2.out h h'), o1, o2, (fun _ => rfl), o4, o5, (below_call HB HG3.out.1)⟩
        · obtain rfl := c10 (hd { on := 10, ground := Ground.guard } (by simp) rfl)
          have d14 := hd { on := 14, ground := Ground.data } (by simp) rfl
          obtain ⟨g2, hv30, _⟩ := c14 d14
          subst hv30
          refine wpOp_step rfl (fun K hK => ?_)
          go_simp
          refine hK _ _ ?_
          exact ⟨l0, l1, l2, l3, l4, l5, l6, l7, l8, l9, l10, l11, l12, l13, l14, true, l16, l17, l18, l19, l20, l21, l22, l23, _, _, _, _, _, _, _, _, _, _, _, _, _, _, _, _, _, _, _, _, _, _, _, _, c0, c1, c2, c3, c4, c5, c6, c7, c8, c9, c10, (fun h h' => (c11 h h').next (below_box u _)), c12, (fun h h' => rowNext10 (c13 h h') (below_box u _)), (fun h => (c14 h).next (below_box u _)), (fun _ _ => One10.new u _), (fun h => rowNext10 (c16 h) (below_box u _)), c17, c18, c19, c20, c21, c22, c23, d1, d2, o1, (fun _ => rfl), (fun _ => d14), o4, o5, (below_call HB (below_box u _))⟩
        · obtain rfl := c10 (hd { on := 10, ground := Ground.guard } (by simp) rfl)
          have d13 := hd { on := 13, ground := Ground.data } (by simp) rfl
          have d15 := hd { on := 15, ground := Ground.data } (by simp) rfl
          have e16 : l16 = false := hl
          subst e16
          have O := c13 d13 rfl
          obtain ⟨g3, hv31, HX, hg3⟩ := (c15 d15 rfl).any
          subst hv31
          have HNE := Lib.hid (fun (h : l14 = true) => d2 d13 rfl h)
          have HTW := Lib.hid (c14 (o3 d15))
          have HNW1 := Lib.hid (one_at10 HX)
          have HBE := Lib.hid (World.ownsRow.lt O)
          refine wpOp_step rfl (fun K hK => ?_)
          rw [if_pos (by first | rfl | kernel_rfl)]
          refine wp_append_lies u (.tmp 29) (.tmp 31) 23 rfl w1.heap.size 26 i0 (.slice none 0 0) 1 24 Try.underlying23 hi0 hz0 hz1 hz2 rfl (by decide) v29 sl (ss.map slQ) rfl O ⟨g3, 0, none⟩ 1 1 [v30] rfl rfl HNW1.out (by intro q hq; simp at hq; subst hq; exact HTW.out.cell1) (by omega) (by unfold maxLen; omega) (by omega) HB.size _ rfl ?_
          intro g cap3 w3 own3 grow3 at3 ltg
          have HO3 := Lib.hid own3
          have HGR := Lib.hid grow3
          have HBG := Lib.hid (HB.grown grow3 HB.size (fun k hk => (HBE.out k hk).1))
          clear own3 grow3 at3 ltg
          refine hK _ _ ?_
          exact ⟨l0, l1, l2, l3, l4, l5, l6, l7, l8, l9, l10, l11, l12, l13, l14, l15, true, l17, l18, l19, l20, l21, l22, l23, _, _, _, _, _, _, _, _, _, _, _, _, _, _, _, _, _, _, _, _, _, _, _, _, c0, c1, c2, c3, c4, c5, c6, c7, c8, c9, c10, (fun _ h => by rw [show l13 = true from d13] at h; cases h), c12, (fun _ h => by cases h), (fun h => (c14 h).row HGR.out (HNE.out h)), (fun _ h => by cases h), (fun _ => HO3.out), c17, c18, c19, c20, c21, c22, c23, (fun _ h => by rw [show l13 = true from d13] at h; cases h), (fun _ h => by cases h), (fun _ => d13), (fun _ => d15), o3, o4, (fun _ => rfl), (HBG.out)⟩
        · obtain rfl := c10 (hd { on := 10, ground := Ground.guard } (by simp) rfl)
          have d16 := hd { on := 16, ground := Ground.data } (by simp) rfl
          obtain ⟨g, c, hv32, HP⟩ := HALL.out u v30 v32 HB (c14 (o3 (o2 d16))) (c16 d16)
          subst hv32
          have HC := Lib.hid (HNO.out g c u HP)
          refine wpOp_step rfl (fun K hK => ?_)
          go_simp
          refine HC.out.mono ?_
          rintro e u' ⟨rfl, BC⟩
          refine hK _ _ ?_
          exact ⟨l0, l1, l2, l3, l4, l5, l6, l7, l8, l9, l10, l11, l12, l13, l14, l15, l16, true, l18, l19, l20, l21, l22, l23, _, _, _, _, _, _, _, _, _, _, _, _, _, _, _, _, _, _, _, _, _, _, _, _, c0, c1, c2, c3, c4, c5, c6, c7, c8, c9, c10, (fun h h' => (c11 h h').next BC), c12, (fun h h' => rowNext10 (c13 h h') BC), (fun h => (c14 h).next BC), (fun h h' => (c15 h h').next BC), (fun h => rowNext10 (c16 h) BC), (fun _ => rfl), c18, c19, c20, c21, c22, c23, d1, d2, o1, o2, o3, o4, (fun _ => d16), (below_call HB BC)⟩
        · obtain rfl := c17 (hd { on := 17, ground := Ground.data } (by simp) rfl)
          obtain rfl := c10 (hd { on := 10, ground := Ground.guard } (by simp) rfl)
          refine wpOp_step rfl (fun K hK => ?_)
          go_simp
          refine hK _ _ ?_
          exact ⟨l0, l1, l2, l3, l4, l5, l6, l7, l8, l9, l10, l11, l12, l13, l14, l15, l16, l17, true, l19, l20, l21, l22, l23, _, _, _, _, _, _, _, _, _, _, _, _, _, _, _, _, _, _, _, _, _, _, _, _, c0, c1, c2, c3, c4, c5, c6, c7, c8, c9, c10, c11, c12, c13, c14, c15, c16, c17, (fun _ => rfl), c19, c20, c21, c22, c23, d1, d2, o1, o2, o3, o4, o5, HB⟩
        · obtain rfl := c10 (hd { on := 10, ground := Ground.data } (by simp) rfl)
          obtain rfl := c18 (hd { on := 18, ground := Ground.data } (by simp) rfl)
          refine wpOp_step rfl (fun K hK => ?_)
          go_simp
          refine hK _ _ ?_
          exact ⟨l0, l1, l2, l3, l4, l5, l6, l7, l8, l9, l10, l11, l12, l13, l14, l15, l16, l17, l18, true, l20, l21, l22, l23, _, _, _, _, _, _, _, _, _, _, _, _, _, _, _, _, _, _, _, _, _, _, _, _, c0, c1, c2, c3, c4, c5, c6, c7, c8, c9, c10, c11, c12, c13, c14, c15, c16, c17, c18, (fun _ => rfl), c20, c21, c22, c23, d1, d2, o1, o2, o3, o4, o5, HB⟩
        · obtain rfl := c19 (hd { on := 19, ground := Ground.data } (by simp) rfl)
          refine wpOp_step rfl (fun K hK => ?_)
          go_simp
          refine hK _ _ ?_
          exact ⟨l0, l1, l2, l3, l4, l5, l6, l7, l8, l9, l10, l11, l12, l13, l14, l15, l16, l17, l18, l19, true, l21, l22, l23, _, _, _, _, _, _, _, _, _, _, _, _, _, _, _, _, _, _, _, _, _, _, _, _, c0, c1, c2, c3, c4, c5, c6, c7, c8, c9, c10, c11, c12, c13, c14, c15, c16, c17, c18, c19, (fun _ => rfl), c21, c22, c23, d1, d2, o1, o2, o3, o4, o5, HB⟩
        · obtain rfl := c20 (hd { on := 20, ground := Ground.guard } (by simp) rfl)
          refine wpOp_step rfl (fun K hK => ?_)
          go_simp
          refine (alive u).mono ?_
          rintro e u' ⟨rfl, rfl⟩
          refine hK _ _ ?_
          exact ⟨l0, l1, l2, l3, l4, l5, l6, l7, l8, l9, l10, l11, l12, l13, l14, l15, l16, l17, l18, l19, l20, true, l22, l23, _, _, _, _, _, _, _, _, _, _, _, _, _, _, _, _, _, _, _, _, _, _, _, _, c0, c1, c2, c3, c4, c5, c6, c7, c8, c9, c10, c11, c12, c13, c14, c15, c16, c17, c18, c19, c20, (fun _ => rfl), c22, c23, d1, d2, o1, o2, o3, o4, o5, HB⟩
        · obtain rfl := c20 (hd { on := 20, ground := Ground.data } (by simp) rfl)
          obtain rfl := c21 (hd { on := 21, ground := Ground.data } (by simp) rfl)
          refine wpOp_step rfl (fun K hK => ?_)
          go_simp
          refine hK _ _ ?_
          exact ⟨l0, l1, l2, l3, l4, l5, l6, l7, l8, l9, l10, l11, l12, l13, l14, l15, l16, l17, l18, l19, l20, l21, true, l23, _, _, _, _, _, _, _, _, _, _, _, _, _, _, _, _, _, _, _, _, _, _, _, _, c0, c1, c2, c3, c4, c5, c6, c7, c8, c9, c10, c11, c12, c13, c14, c15, c16, c17, c18, c19, c20, c21, (fun _ => rfl), c23, d1, d2, o1, o2, o3, o4, o5, HB⟩
        · obtain rfl := c22 (hd { on := 22, ground := Ground.data } (by simp) rfl)
          refine wpOp_step rfl (fun K hK => ?_)
          go_simp
          refine hK _ _ ?_
          exact ⟨l0, l1, l2, l3, l4, l5, l6, l7, l8, l9, l10, l11, l12, l13, l14, l15, l16, l17, l18, l19, l20, l21, l22, true, _, _, _, _, _, _, _, _, _, _, _, _, _, _, _, _, _, _, _, _, _, _, _, _, c0, c1, c2, c3, c4, c5, c6, c7, c8, c9, c10, c11, c12, c13, c14, c15, c16, c17, c18, c19, c20, c21, c22, (fun _ => rfl), d1, d2, o1, o2, o3, o4, o5, HB⟩
end Go.Proofs.Ytcifokihellcdaa
