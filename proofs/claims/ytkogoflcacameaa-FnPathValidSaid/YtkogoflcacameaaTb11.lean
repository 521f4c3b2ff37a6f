/- The draw of a table of cells: rows of booleans of the call's own, kept while the reader goes on. -/
import Derived.Test.YtkogoflcacameaaBd11
import Derived.Test.YtkogoflcacameaaZbDr
import Derived.Test.YtkogoflcacameaaZbInv
import Derived.Test.YtkogoflcacameaaSp11
namespace Go.Proofs.Ytkogoflcacameaa
set_option maxRecDepth 100000
open Go.RowKit
attribute [local go_sem ↓] Go.wp_at_zero Go.wp_at_succ
abbrev dS : Sl := ⟨none, 0, 0⟩
/-- A slice's own block. -/
abbrev ob (s : Sl) : Option Nat := (Bol.slQ s).ownBlock
/-- A slice of booleans that lies from block B on. -/
def BoolsFrom (w : World) (B : Nat) (s : Sl) (zs : List Bool) : Prop :=
  s.len = zs.length ∧ (zs = [] ∨ ∃ b off, s.a = some ⟨b, off, none⟩ ∧ B ≤ b ∧ b < w.heap.size ∧ ∀ i, i < zs.length → w.cell? ⟨b, off + i, none⟩ = some (.bool (zs.getD i false)))
theorem BoolsFrom.kept {w w' : World} {B : Nat} {s : Sl} {zs : List Bool} {row : Option Nat} (h : BoolsFrom w B s zs) (hg : w.grownBy w' row) (hr : ∀ k, row = some k → k < B) : BoolsFrom w' B s zs :=
  ⟨h.1, h.2.imp id fun ⟨b, off, h1, h2, h3, h4⟩ => ⟨b, off, h1, h2, Nat.lt_of_lt_of_le h3 hg.size, fun i hi => (World.cell?_of_block (a := ⟨b, off + i, none⟩) (hg.block b h3 (fun e => by have := hr b e.symm; omega))).trans (h4 i hi)⟩⟩
theorem OwnB.fromB {w : World} {B : Nat} {s : Sl} {zs : List Bool} (h : Bol.OwnB w B (Bol.slQ s) zs) : BoolsFrom w B s zs := by
  have hi := Bol.OwnB.ints10 h
  refine ⟨hi.1, ?_⟩
  rcases h.2 with ⟨hv, hn⟩ | ⟨g, c, cur, hv, hb, rest⟩
  · exact .inl (List.eq_nil_of_length_eq_zero hn)
  · rcases hi.2 with h2 | ⟨b, off, h1, h3, h4⟩
    · exact .inl h2
    · refine .inr ⟨b, off, h1, ?_, h3, h4⟩
      unfold Bol.slQ at hv
      simp only [Value.slice.injEq] at hv
      rw [hv.1] at h1
      simp at h1
      omega
/-- A table that lies from block B on. -/
def TabF (w : World) (B : Nat) (s : Sl) (T : List (List Bool)) : Prop :=
  s.len = T.length ∧ ∃ (b : Nat) (ss : List Sl), s.a = some ⟨b, 0, none⟩ ∧ B ≤ b ∧ b < w.heap.size ∧ (∀ i, i < T.length → w.cell? ⟨b, i, none⟩ = some (Bol.slQ (ss.getD i dS))) ∧ ∀ i, i < T.length → BoolsFrom w B (ss.getD i dS) (T.getD i [])
theorem TabF.kept {w w' : World} {B : Nat} {s : Sl} {T : List (List Bool)} {row : Option Nat} (h : TabF w B s T) (hg : w.grownBy w' row) (hr : ∀ k, row = some k → k < B) : TabF w' B s T := by
  obtain ⟨h0, b, ss, h1, h2, h3, h4, h5⟩ := h
  exact ⟨h0, b, ss, h1, h2, Nat.lt_of_lt_of_le h3 hg.size, fun i hi => (World.cell?_of_block (a := ⟨b, i, none⟩) (hg.block b h3 (fun e => by have := hr b e.symm; omega))).trans (h4 i hi), fun i hi => (h5 i hi).kept hg hr⟩
theorem below_grown {w w' : World} (hb : Below w.heap.size w w') : w.grownBy w' none := ⟨hb.os, hb.tape, hb.output, hb.size, fun k hk _ => hb.block k hk⟩
theorem TabF.next {w w' : World} {B : Nat} {s : Sl} {T : List (List Bool)} (h : TabF w B s T) (hb : Below w.heap.size w w') : TabF w' B s T := h.kept (below_grown hb) (fun k e => by cases e)
theorem TabF.down {w : World} {B B' : Nat} {s : Sl} {T : List (List Bool)} (h : TabF w B s T) (hB : B' ≤ B) : TabF w B' s T := by
  obtain ⟨h0, b, ss, h1, h2, h3, h4, h5⟩ := h
  exact ⟨h0, b, ss, h1, by omega, h3, h4, fun i hi => ⟨(h5 i hi).1, (h5 i hi).2.imp id fun ⟨b, off, q1, q2, q3⟩ => ⟨b, off, q1, by omega, q3⟩⟩⟩
theorem TabF.rsa {w : World} {B : Nat} {s : Sl} {T : List (List Bool)} (h : TabF w B s T) (hr : ∀ i, i < T.length → (T.getD i []).length ≤ 1048576) : Bol.RSA w s.a s.len T := by
  obtain ⟨h0, b, ss, h1, h2, h3, h4, h5⟩ := h
  refine ⟨h0, .inr ⟨b, h1, h3, fun i hi => ⟨ss.getD i dS, h4 i hi, ⟨(h5 i hi).1, (h5 i hi).2.imp id fun ⟨b, off, q1, q2, q3, q4⟩ => ⟨b, off, q1, q3, q4⟩⟩, by rw [(h5 i hi).1]; have := hr i hi; omega⟩⟩⟩
/-- A table that is being drawn: its rows lie in blocks of their own. -/
structure TbS (w0 : World) (B M r : Nat) (u : World) (v : Value) (ss : List Sl) (T : List (List Bool)) : Prop where
  rd : Rd B M u r
  gr : w0.grownBy u (some r)
  n : ss.length = T.length
  row : u.ownsRow w0.heap.size 46 1 v T.length (ss.map Bol.slQ)
  each : ∀ i, i < T.length → Bol.OwnB u w0.heap.size (Bol.slQ (ss.getD i dS)) (T.getD i [])
  off : ∀ i, i < T.length → ∀ g, ob (ss.getD i dS) = some g → v.ownBlock ≠ some g
  apart : ∀ i j, i < j → j < T.length → ∀ g, ob (ss.getD i dS) = some g → ob (ss.getD j dS) ≠ some g
section
variable {w0 u u' : World} {B M M' r : Nat} {v : Value} {ss : List Sl} {T : List (List Bool)}
theorem TbS.vlt (h : TbS w0 B M r u v ss T) : ∀ k, v.ownBlock = some k → w0.heap.size ≤ k ∧ k < u.heap.size := fun k hk => World.ownsRow.lt h.row k hk
theorem TbS.rlt (h : TbS w0 B M r u v ss T) : ∀ i, i < T.length → ∀ k, ob (ss.getD i dS) = some k → w0.heap.size ≤ k ∧ k < u.heap.size := fun i hi k hk => World.ownsRow.lt (h.each i hi) k hk
/-- Whatever writes none of its blocks leaves it. -/
theorem TbS.away {o : Option Nat} (h : TbS w0 B M r u v ss T) (hr : Rd B M' u' r) (h0 : w0.grownBy u' (some r)) (hg : u.grownBy u' o) (hv : ∀ k, o = some k → v.ownBlock ≠ some k) (hs : ∀ i, i < T.length → ∀ k, o = some k → ob (ss.getD i dS) ≠ some k) : TbS w0 B M' r u' v ss T :=
  ⟨hr, h0, h.n, World.ownsRow.kept h.row hg (by
    cases ho : v.ownBlock with
    | none => exact .inl rfl
    | some g => exact .inr (fun e => hv g e.symm ho)), fun i hi => Bol.OwnB.away (h.each i hi) hg (hs i hi), h.off, h.apart⟩
theorem TbS.pick (h : TbS w0 B M r u v ss T) (hr : Rd B M' u' r) (hg : u.grownBy u' (some r)) (hlt : r < w0.heap.size) : TbS w0 B M' r u' v ss T :=
  h.away hr (h.gr.trans hg) hg (fun k e q => by injection e with e; subst e; have := h.vlt r q; omega) (fun i hi k e q => by injection e with e; subst e; have := h.rlt i hi r q; omega)
theorem TbS.alloc (h : TbS w0 B M r u v ss T) (o : Obj) : TbS w0 B M r (u.alloc o) v ss T :=
  h.away (h.rd.alloc o) (only_alloc h.gr o) (below_grown (below_box u o)) (fun k e => by cases e) (fun i hi k e => by cases e)
theorem TbS.mono (h : TbS w0 B M r u v ss T) (hM : M ≤ M') : TbS w0 B M' r u v ss T := ⟨h.rd.mono hM, h.gr, h.n, h.row, h.each, h.off, h.apart⟩
theorem TbS.new (hr : Rd B M u r) (hg : w0.grownBy u (some r)) (hb : w0.heap.size ≤ u.heap.size) (t : TypeId) (hT : t = 46) : TbS w0 B M r (u.alloc (.cells #[] t)) (.slice (some ⟨u.heap.size, 0, none⟩) 0 0) [] [] := by
  subst hT
  refine ⟨hr.alloc _, only_alloc hg _, rfl, ?_, fun i hi => by simp at hi, fun i hi => by simp at hi, fun i j hi hj => by simp at hj⟩
  have := World.ownsRow_lit (base := w0.heap.size) (e := 46) (size := 1) u #[] 0 hb (Nat.zero_le _) rfl
  simpa using this
theorem getD_last {α : Type} (xs : List α) (x d : α) : (xs ++ [x]).getD xs.length d = x := by rw [List.getD_eq_getElem?_getD, List.getElem?_append_right (Nat.le_refl _)]; simp
theorem getD_left {α : Type} (xs : List α) (x d : α) {i : Nat} (h : i < xs.length) : (xs ++ [x]).getD i d = xs.getD i d := by rw [List.getD_eq_getElem?_getD, List.getD_eq_getElem?_getD, List.getElem?_append_left h]
/-- One row more: it lies behind all others. -/
theorem TbS.app {g n cap H : Nat} {s : Sl} {zs : List Bool} (h : TbS w0 B M r u v ss T) (hlt : r < w0.heap.size) (hB : B ≤ w0.heap.size) (hq : Bol.OwnB u H (Bol.slQ s) zs) (hH : w0.heap.size ≤ H) (hv : ∀ k, v.ownBlock = some k → k < H) (hs : ∀ i, i < T.length → ∀ k, ob (ss.getD i dS) = some k → k < H)
    (own : u'.ownsRow w0.heap.size 46 1 (.slice (some ⟨g, 0, none⟩) n cap) (T.length + 1) (ss.map Bol.slQ ++ [Bol.slQ s])) (grow : u.grownBy u' v.ownBlock) (hat : v.ownBlock = some g ∨ g = u.heap.size) :
    TbS w0 B M r u' (.slice (some ⟨g, 0, none⟩) n cap) (ss ++ [s]) (T ++ [zs]) := by
  have hsH : ∀ k, ob s = some k → H ≤ k ∧ k < u.heap.size := fun k hk => World.ownsRow.lt hq k hk
  refine ⟨h.rd.kept grow (fun e => by have := h.vlt r e.symm; omega) (fun k hk => by have := h.vlt k hk; omega), only_row h.gr grow (fun k hk => (h.vlt k hk).1), by simp [h.n], ?_, fun i hi => ?_, fun i hi k hk => ?_, fun i j hij hj k hk => ?_⟩
  · rw [List.length_append, List.map_append]; exact own
  · rw [List.length_append] at hi
    simp only [List.length_cons, List.length_nil] at hi
    by_cases hk : i < T.length
    · rw [getD_left _ _ _ (by rw [h.n]; exact hk), getD_left _ _ _ hk]
      exact Bol.OwnB.away (h.each i hk) grow (fun k e q => h.off i hk k q e)
    · obtain rfl : i = T.length := by omega
      rw [getD_last]
      rw [show (ss ++ [s]).getD T.length dS = s by rw [← h.n]; exact getD_last _ _ _]
      exact Bol.OwnB.away (Bol.OwnB.downI hq hH) grow (fun k e q => by have := hv k e; have := hsH k q; omega)
  · rw [List.length_append] at hi
    simp only [List.length_cons, List.length_nil] at hi
    intro e
    have e : g = k := by simpa [Value.ownBlock] using e
    subst e
    by_cases hk2 : i < T.length
    · rw [getD_left _ _ _ (by rw [h.n]; exact hk2)] at hk
      rcases hat with q | q
      · exact h.off i hk2 g hk q
      · have := h.rlt i hk2 g hk; omega
    · obtain rfl : i = T.length := by omega
      rw [show (ss ++ [s]).getD T.length dS = s by rw [← h.n]; exact getD_last _ _ _] at hk
      have := hsH g hk
      rcases hat with q | q
      · have := hv g q; omega
      · omega
  · rw [List.length_append] at hj
    simp only [List.length_cons, List.length_nil] at hj
    rw [getD_left _ _ _ (by rw [h.n]; omega)] at hk
    by_cases hk2 : j < T.length
    · rw [getD_left _ _ _ (by rw [h.n]; exact hk2)]
      exact h.apart i j hij hk2 k hk
    · obtain rfl : j = T.length := by omega
      rw [show (ss ++ [s]).getD T.length dS = s by rw [← h.n]; exact getD_last _ _ _]
      intro q
      have := hs i (by omega) k hk
      have := hsH k q
      omega
theorem TbS.vform (h : TbS w0 B M r u v ss T) (hT : 1 ≤ T.length) : ∃ g c, v = .slice (some ⟨g, 0, none⟩) T.length c := by
  rcases h.row.2 with ⟨_, hn⟩ | ⟨g, c, cur, hv, _⟩
  · omega
  · exact ⟨g, c, hv⟩
/-- The first row is one longer. -/
theorem TbS.fin {g c g2 n2 cap2 : Nat} (h : TbS w0 B M r u (.slice (some ⟨g, 0, none⟩) T.length c) ss T) (hT : 1 ≤ T.length) (hlt : r < w0.heap.size) (hB : B ≤ w0.heap.size)
    (own : u'.ownsRow w0.heap.size 4 1 (.slice (some ⟨g2, 0, none⟩) n2 cap2) ((T.getD 0 []).length + 1) (Bol.vals (T.getD 0 []) ++ [.bool true])) (grow : u.grownBy u' (ob (ss.getD 0 dS))) (hat : ob (ss.getD 0 dS) = some g2 ∨ g2 = u.heap.size) :
    (u'.cell? ⟨g, 0, none⟩ = some (Bol.slQ (ss.getD 0 dS)) ∧ u'.frozen? ⟨g, 0, none⟩ = false) ∧ TabF (u'.setCell ⟨g, 0, none⟩ (.slice (some ⟨g2, 0, none⟩) n2 cap2)) w0.heap.size ⟨some ⟨g, 0, none⟩, T.length, c⟩ (T.set 0 (T.getD 0 [] ++ [true])) ∧
    Rd B M (u'.setCell ⟨g, 0, none⟩ (.slice (some ⟨g2, 0, none⟩) n2 cap2)) r ∧ w0.grownBy (u'.setCell ⟨g, 0, none⟩ (.slice (some ⟨g2, 0, none⟩) n2 cap2)) (some r) := by
  have hg := h.vlt g rfl
  have row1 := World.ownsRow.kept h.row grow (.inr (fun e => h.off 0 (by omega) g e.symm rfl))
  have st := row1.stored 0 (Bol.slQ ⟨some ⟨g2, 0, none⟩, n2, cap2⟩)
  have hne : g2 ≠ g := fun e => by
    subst e
    rcases hat with q | q
    · exact h.off 0 (by omega) g2 q rfl
    · omega
  have own2 : Bol.OwnB u' w0.heap.size (Bol.slQ ⟨some ⟨g2, 0, none⟩, n2, cap2⟩) (T.getD 0 [] ++ [true]) := by
    unfold Bol.OwnB
    rw [List.length_append, show Bol.vals (T.getD 0 [] ++ [true]) = Bol.vals (T.getD 0 []) ++ [.bool true] by simp [Bol.vals]]
    exact own
  have hlen : n2 = (T.getD 0 []).length + 1 := by
    have := (Bol.OwnB.ints10 own2).1
    simpa using this
  refine ⟨⟨?_, World.ownsRow.frozenAt row1 0⟩, ⟨by simp, g, ss.set 0 ⟨some ⟨g2, 0, none⟩, n2, cap2⟩, rfl, hg.1, (World.ownsRow.lt st.1 g rfl).2, fun i hi => ?_, fun i hi => ?_⟩, (h.rd.kept grow (fun e => by have := h.rlt 0 (by omega) r e.symm; omega) (fun k hk => by have := h.rlt 0 (by omega) k hk; omega)).kept st.2 (fun e => by injection e with e; omega) (fun k hk => by injection hk with hk; omega), only_row (only_row h.gr grow (fun k hk => (h.rlt 0 (by omega) k hk).1)) st.2 (fun k hk => by injection hk with hk; omega)⟩
  · rw [World.ownsRow.cellAt row1 0 (by omega), List.getElem?_map, List.getD_eq_getElem?_getD, List.getElem?_eq_getElem (by rw [h.n]; omega)]
    rfl
  · rw [List.length_set] at hi
    have hi2 : i < (ss.set 0 ⟨some ⟨g2, 0, none⟩, n2, cap2⟩).length := by rw [List.length_set, h.n]; exact hi
    refine (World.ownsRow.cellAt st.1 i (by omega)).trans ?_
    rw [← List.map_set, List.getElem?_map, List.getD_eq_getElem?_getD, List.getElem?_eq_getElem hi2]
    rfl
  · rw [List.length_set] at hi
    by_cases e : i = 0
    · subst e
      have e1 : (ss.set 0 ⟨some ⟨g2, 0, none⟩, n2, cap2⟩).getD 0 dS = ⟨some ⟨g2, 0, none⟩, n2, cap2⟩ := by rw [List.getD_eq_getElem?_getD, List.getElem?_set_self (by rw [h.n]; exact hi)]; rfl
      have e2 : (T.set 0 (T.getD 0 [] ++ [true])).getD 0 [] = T.getD 0 [] ++ [true] := by
        generalize T.getD 0 [] ++ [true] = y
        rw [List.getD_eq_getElem?_getD, List.getElem?_set_self hi]; rfl
      rw [e1, e2]
      exact OwnB.fromB (Bol.OwnB.away own2 st.2 (fun k hk q => by injection hk with hk; subst hk; injection q with q; exact hne q))
    · have e1 : (ss.set 0 ⟨some ⟨g2, 0, none⟩, n2, cap2⟩).getD i dS = ss.getD i dS := by rw [List.getD_eq_getElem?_getD, List.getElem?_set_ne (by omega), ← List.getD_eq_getElem?_getD]
      have e2 : (T.set 0 (T.getD 0 [] ++ [true])).getD i [] = T.getD i [] := by rw [List.getD_eq_getElem?_getD, List.getElem?_set_ne (by omega), ← List.getD_eq_getElem?_getD]
      rw [e1, e2]
      refine OwnB.fromB (Bol.OwnB.away (Bol.OwnB.away (h.each i hi) grow (fun k hk => h.apart 0 i (by omega) hi k hk)) st.2 (fun k hk q => ?_))
      injection hk with hk
      subst hk
      exact h.off i hi _ q rfl
theorem TbS.tab (h : TbS w0 B M r u v ss T) (hT : 1 ≤ T.length) : ∃ s : Sl, v = .slice s.a s.len s.cap ∧ TabF u w0.heap.size s T := by
  rcases h.row.2 with ⟨_, hn⟩ | ⟨g, c, cur, hv, hb, hg, rest⟩
  · omega
  · refine ⟨⟨some ⟨g, 0, none⟩, T.length, c⟩, hv, rfl, g, ss, rfl, hb, (Array.getElem?_eq_some_iff.1 hg).1, fun i hi => ?_, fun i hi => OwnB.fromB (h.each i hi)⟩
    have row := h.row
    rw [hv] at row
    rw [World.ownsRow.cellAt row i (by omega), List.getElem?_map, List.getD_eq_getElem?_getD, List.getElem?_eq_getElem (by rw [h.n]; exact hi)]
    rfl
end
theorem odd0T (r : Nat) (w : World) : Calls Try.prog 30 #[.pointer (some ⟨r, 0, none⟩), .int .i64 0] w fun e w' => e = .returned (.bool false) ∧ w = w' := by
  go_enter Try.func30, Try.ntmps30
  go_wp2
  go_ret
  exact ⟨rfl, rfl⟩
theorem oddT (B M r : Nat) (n : Int) (w : World) (hr : Rd B M w r) (hM : M ≤ 1000000) (h0 : 0 ≤ n) (h1 : n ≤ 1000000) :
    Calls Try.prog 30 #[.pointer (some ⟨r, 0, none⟩), .int .i64 n] w fun e w' => ∃ b : Bool, e = .returned (.bool b) ∧ Rd B (M + 1) w' r ∧ w.grownBy w' (some r) := by
  by_cases hn : 0 < n
  · exact (oddA B M r n w hr hM hn h1).mono fun _ _ ⟨b, he, h1, h2, _⟩ => ⟨b, he, h1, h2⟩
  · obtain rfl : n = 0 := by omega
    exact (odd0T r w).mono fun _ _ ⟨he, hw⟩ => ⟨false, he, hw ▸ hr.mono (by omega), hw ▸ World.grownBy.refl w (some r)⟩
/-- What the draw of a table says. -/
def GotT (B M r : Nat) (w : World) (e : Ending) (w' : World) : Prop :=
  ∃ (s : Sl) (T : List (List Bool)), e = .returned (.slice s.a s.len s.cap) ∧ TabF w' w.heap.size s T ∧ (1 ≤ T.length ∧ T.length ≤ 6) ∧ (∀ i, i < T.length → 1 ≤ (T.getD i []).length ∧ (T.getD i []).length ≤ 7) ∧ Rd B M w' r ∧ w.grownBy w' (some r)
/-- What the loop over the rows holds. -/
def LoopT (w0 : World) (B M r h wd k : Nat) (v : Value) (wr : World) : Prop := ∃ ss T, T.length = k ∧ k ≤ h ∧ (∀ i, i < T.length → (T.getD i []).length = wd) ∧ TbS w0 B (M + 6 * k) r wr v ss T
/-- What the loop over a row's cells holds. -/
def LoopU (w0 : World) (B M r k H j : Nat) (ss : List Sl) (T : List (List Bool)) (v rv : Value) (wr : World) : Prop := ∃ zs : List Bool, zs.length = j ∧ TbS w0 B (M + 6 * k + j) r wr v ss T ∧ Bol.OwnB wr H rv zs ∧ H ≤ wr.heap.size
theorem vals_snocB (zs : List Bool) (z : Bool) : Bol.vals (zs ++ [z]) = Bol.vals zs ++ [.bool z] := by simp [Bol.vals]
theorem newB (u : World) (H : Nat) (hH : H ≤ u.heap.size) (t : TypeId) (hT : t = 4) : Bol.OwnB (u.alloc (.cells #[] t)) H (.slice (some ⟨u.heap.size, 0, none⟩) 0 0) [] := by
  subst hT
  have := World.ownsRow_lit (base := H) (e := 4) (size := 1) u #[] 0 hH (Nat.zero_le _) rfl
  unfold Bol.OwnB
  simpa [Bol.vals] using this
set_option maxHeartbeats 8000000 in
theorem drawTable (B M r : Nat) (n : Int) (w : World) (hr : Rd B M w r) (hM : M ≤ 900000) (h0 : 0 ≤ n) (h1 : n ≤ 1000000) :
    Calls Try.prog 41 #[.pointer (some ⟨r, 0, none⟩), .int .i64 n] w (GotT B (M + 40) r w) := by
  obtain ⟨i0, hi0, hz0, hz1, hz2⟩ := info_parts Bol.infoBool
  obtain ⟨j0, hj0, hy0, hy1, hy2⟩ := info_parts Bol.infoSlB
  have hrw := hr.lt
  have hBw : B ≤ w.heap.size := by have := hr.ge; omega
  go_enter Try.func41, Try.ntmps41
  go_wp2_with fail
  refine (pick _ _ _ 6 _ hr (by omega)).mono ?_
  rintro e w1 ⟨p, p0, p1', rfl, hr1, hg1, -⟩
  have p1 := p1' (by omega)
  obtain ⟨wd, hwd⟩ : ∃ wd : Nat, 1 + p = (wd : Int) := ⟨(1 + p).toNat, by omega⟩
  have wd0 : 1 ≤ wd ∧ wd ≤ 6 := by omega
  have o1 : IntKind.i64.wrap (1 + p) = (wd : Int) := by rw [hwd]; exact IntWalk.i64_in _ (by omega)
  clear p1' hr hwd
  go_wp2_with fail
  refine (pick _ _ _ 6 _ hr1 (by omega)).mono ?_
  rintro e w2 ⟨q, q0, q1', rfl, hr2, hg2, -⟩
  have q1 := q1' (by omega)
  obtain ⟨ht, hht⟩ : ∃ ht : Nat, 1 + q = (ht : Int) := ⟨(1 + q).toNat, by omega⟩
  have ht0 : 1 ≤ ht ∧ ht ≤ 6 := by omega
  have o2 : IntKind.i64.wrap (1 + q) = (ht : Int) := by rw [hht]; exact IntWalk.i64_in _ (by omega)
  have HS := Lib.hid (TbS.new hr2 (hg1.trans hg2) (hg1.trans hg2).size 46 rfl)
  have HL : Hid (LoopT w B (M + 1 + 1) r ht wd 0 (.slice (some ⟨w2.heap.size, 0, none⟩) 0 0) (w2.alloc (.cells #[] 46))) := Lib.hid ⟨[], [], rfl, Nat.zero_le _, fun i hi => by simp at hi, HS.out⟩
  clear q1' hht hr1 hr2 hg1 hg2 HS
  go_wp2
  clear o1 o2
  go_loopw [7, 8] (fun v i wr => ∃ k : Nat, k ≤ ht ∧ i = .int .i64 (k : Int) ∧ Hid (LoopT w B (M + 1 + 1) r ht wd k v wr)) (fun _ i _ => ht - (intOf i).toNat)
  case atStart => exact ⟨0, Nat.zero_le _, rfl, HL⟩
  case round =>
    obtain ⟨k, hk, rfl, HS⟩ := hrel
    clear HL
    obtain ⟨ss, T, hT, _, hwid, S⟩ := HS.out
    have HWID := Lib.hid hwid
    have HTL := Lib.hid hT
    have hTk : T.length ≤ 6 := by omega
    clear hwid hT
    by_cases hlt : k < ht
    · obtain ⟨H, hH⟩ : ∃ H, H = wr.heap.size := ⟨_, rfl⟩
      have HU : Hid (LoopU w B (M + 1 + 1) r k H 0 ss T u7 (.slice (some ⟨wr.heap.size, 0, none⟩) 0 0) (wr.alloc (.cells #[] 4))) := Lib.hid ⟨[], rfl, S.alloc _, newB wr H (by omega) 4 rfl, by simp; omega⟩
      have HVL := Lib.hid (And.intro (fun k hk => show k < H from hH ▸ (S.vlt k hk).2) (fun i hi k hk => show k < H from hH ▸ (S.rlt i hi k hk).2))
      have hHw : w.heap.size ≤ H := hH ▸ S.gr.size
      clear S HS hH
      go_wp2
      go_loopw [9, 10] (fun rv j wq => ∃ jj : Nat, jj ≤ wd ∧ j = .int .i64 (jj : Int) ∧ Hid (LoopU w B (M + 1 + 1) r k H jj ss T u7 rv wq)) (fun _ j _ => wd - (intOf j).toNat)
      case atStart => exact ⟨0, Nat.zero_le _, rfl, HU⟩
      case round =>
        obtain ⟨jj, hjj, rfl, HQ⟩ := hrel
        clear HU
        obtain ⟨zs, hz, S, O, hge⟩ := HQ.out
        have hz7 : zs.length ≤ 6 := by omega
        have HZL := Lib.hid hz
        clear hz
        by_cases hlt2 : jj < wd
        · have hj1 : (jj : Int) < (wd : Int) := by omega
          go_wp2_with fail
          refine (pick _ _ _ 4 _ S.rd (by omega)).mono ?_
          rintro e w5 ⟨x5, a5, -, rfl, hr5, hg5, -⟩
          obtain ⟨b, hb⟩ : ∃ b, decide (0 < x5) = b := ⟨_, rfl⟩
          have S5' := S.pick hr5 hg5 hrw
          have O5' := Bol.OwnB.away O hg5 (fun k5 e5 q5 => by injection e5 with e5; have := World.ownsRow.lt O k5 q5; omega)
          have hge5 : H ≤ w5.heap.size := Nat.le_trans hge hg5.size
          have S6 := Lib.hid (S5'.alloc (.cells #[.bool b] 4))
          have O6 := Lib.hid (O5'.next (below_box w5 (.cells #[.bool b] 4)))
          have HN := Lib.hid (one_new11 w5 (.bool b) 4)
          have HZ := Lib.hid (show H ≤ (w5.alloc (.cells #[.bool b] 4)).heap.size by simp; omega)
          clear S O HQ S5' O5' hr5 hg5
          go_wp2_with (at_builtin; refine wpList_append_lies _ rfl (.tmp 29) (.tmp 33) 46 rfl H 4 i0 (.bool false) 1 1 Try.underlying46 hi0 hz0 hz1 hz2 rfl (by decide) _ zs.length (Bol.vals zs) rfl O6.out ⟨w5.heap.size, 0, none⟩ 1 1 [.bool b] rfl rfl HN.out (by intro u hu; simp at hu; subst hu; rfl) (by omega) (by unfold maxLen; omega) (by omega) HZ.out _ rfl ?_; intro g cap6 w7 own7 grow7 at7 ltg7; have HA7 := Lib.hid (And.intro own7 (And.intro grow7 at7)); clear own7 grow7 at7 ltg7)
          have S7 := Lib.hid (S6.out.away (S6.out.rd.kept HA7.out.2.1 (fun e => by have := World.ownsRow.lt O6.out r e.symm; omega) (fun k5 e5 => by have := World.ownsRow.lt O6.out k5 e5; omega)) (only_row S6.out.gr HA7.out.2.1 (fun k5 e5 => by have := World.ownsRow.lt O6.out k5 e5; omega)) HA7.out.2.1 (fun k5 e5 q5 => by have := World.ownsRow.lt O6.out k5 e5; have := HVL.out.1 k5 q5; omega) (fun i hi k5 e5 q5 => by have := World.ownsRow.lt O6.out k5 e5; have := HVL.out.2 i hi k5 q5; omega))
          have O7 : Hid (Bol.OwnB w7 H (.slice (some ⟨g, 0, none⟩) (zs.length + 1) cap6) (zs ++ [b])) := Lib.hid (by
            unfold Bol.OwnB
            rw [vals_snocB, List.length_append]
            exact HA7.out.1)
          have HZ7 := Lib.hid (Nat.le_trans HZ.out HA7.out.2.1.size)
          clear HA7 S6 O6 hb
          go_roundw
          case rel => exact ⟨jj + 1, by omega, by congr 1, Lib.hid ⟨zs ++ [b], by simp [HZL.out], S7.out.mono (by omega), O7.out, HZ7.out⟩⟩
          case measure => simp [intOf]; omega
        · obtain rfl : jj = wd := by omega
          obtain ⟨s, hse, hsl⟩ := Bol.OwnB.sl10 O
          subst hse
          clear hsl
          have S6 := Lib.hid (S.alloc (.cells #[Bol.slQ s] 46))
          have O6 := Lib.hid (O.next (below_box wr (.cells #[Bol.slQ s] 46)))
          have HN := Lib.hid (one_new11 wr (Bol.slQ s) 46)
          have HZ := Lib.hid S6.out.gr.size
          have hT6 : T.length ≤ 6 := by have := HTL.out; omega
          have HTL2 := Lib.hid (show T.length = k from HTL.out)
          clear S O HQ
          unfold Bol.slQ at HN S6
          go_wp2_with (at_builtin; refine wpList_append_lies _ rfl (.tmp 35) (.tmp 37) 39 rfl w.heap.size 46 j0 (.slice none 0 0) 1 24 Try.underlying39 hj0 hy0 hy1 hy2 rfl (by decide) _ T.length (ss.map Bol.slQ) rfl S6.out.row ⟨wr.heap.size, 0, none⟩ 1 1 [.slice s.a s.len s.cap] rfl rfl HN.out (by intro u hu; simp at hu; subst hu; rfl) (by omega) (by unfold maxLen; omega) (by omega) HZ.out _ rfl ?_; intro g cap6 w7 own7 grow7 at7 ltg7; have HA7 := Lib.hid (And.intro own7 (And.intro grow7 at7)); clear own7 grow7 at7 ltg7)
          have S7 := Lib.hid (S6.out.app hrw hBw O6.out hHw HVL.out.1 HVL.out.2 HA7.out.1 HA7.out.2.1 HA7.out.2.2)
          have HW7 := Lib.hid (show ∀ i, i < (T ++ [zs]).length → ((T ++ [zs]).getD i []).length = zs.length from fun i hi => by
            by_cases q : i < T.length
            · rw [getD_left _ _ _ q, HWID.out i q, HZL.out]
            · rw [show i = T.length by simp at hi; omega, getD_last])
          clear HA7 S6 O6
          go_wp2
          go_roundw
          case rel => exact ⟨k + 1, by omega, by congr 1, Lib.hid ⟨_, T ++ [zs], by have := HTL2.out; simp [this], by omega, fun i hi => by rw [HW7.out i hi, HZL.out], S7.out.mono (by omega)⟩⟩
          case measure => simp [intOf]; omega
    · obtain rfl : k = ht := by omega
      have hT := HTL.out
      have hT1 : 1 ≤ T.length := by omega
      have S0 := S.mono (show M + 1 + 1 + 6 * k ≤ M + 39 by omega)
      have HTT := Lib.hid (show 1 ≤ T.length ∧ T.length ≤ 6 by omega)
      have HWW := Lib.hid (show ∀ i, i < T.length → 1 ≤ (T.getD i []).length ∧ (T.getD i []).length ≤ 6 from fun i hi => by have := HWID.out i hi; omega)
      obtain ⟨g, c, hv⟩ := S.vform hT1
      subst hv
      clear S HS HWID HTL hT
      go_wp2_with fail
      refine (oddT B (M + 39) r n _ S0.rd (by omega) h0 h1).mono ?_
      rintro e w2 ⟨b, rfl, hr2, hg2⟩
      have S2 := Lib.hid (S0.pick hr2 hg2 hrw)
      clear S0 hr2 hg2
      cases b
      · go_wp2
        go_ret
        obtain ⟨s, hs, hF⟩ := S2.out.tab hT1
        exact ⟨s, T, congrArg Ending.returned hs, hF, HTT.out, fun i hi => by have := HWW.out i hi; omega, S2.out.rd, S2.out.gr⟩
      · have c0 : w2.cell? ⟨g, 0, none⟩ = some (Bol.slQ (ss.getD 0 dS)) := by
          rw [World.ownsRow.cellAt S2.out.row 0 (by omega), List.getElem?_map, List.getD_eq_getElem?_getD, List.getElem?_eq_getElem (by rw [S2.out.n]; omega)]
          rfl
        have hrow := S2.out.each 0 (by omega)
        have hz7 : (T.getD 0 []).length ≤ 6 := (HWW.out 0 (by omega)).2
        have HFIN := Lib.hid (fun (u' : World) (g2 n2 cap2 : Nat) => (S2.out.alloc (.cells #[.bool true] 4)).fin (u' := u') (g2 := g2) (n2 := n2) (cap2 := cap2) hT1 hrw hBw)
        have O6 := Lib.hid (Bol.OwnB.next hrow (below_box w2 (.cells #[.bool true] 4)))
        have HN := Lib.hid (one_new11 w2 (.bool true) 4)
        have HZ := Lib.hid (show w.heap.size ≤ (w2.alloc (.cells #[.bool true] 4)).heap.size from (S2.out.alloc (.cells #[.bool true] 4)).gr.size)
        clear S2 hrow
        obtain ⟨⟨sa, sl, sc⟩, hs0⟩ : ∃ s0, ss.getD 0 dS = s0 := ⟨_, rfl⟩
        obtain ⟨zs, hzs⟩ : ∃ zs, T.getD 0 [] = zs := ⟨_, rfl⟩
        rw [hs0] at c0 O6 HFIN
        rw [hzs] at O6 HFIN hz7
        have HZS := Lib.hid hzs
        clear hs0 hzs
        unfold Bol.slQ at c0
        have hT0 : (0 : Int) < (T.length : Int) := by omega
        go_wp2_with (at_builtin; refine wpList_append_lies _ rfl (.tmp 45) (.tmp 46) 46 rfl w.heap.size 4 i0 (.bool false) 1 1 Try.underlying46 hi0 hz0 hz1 hz2 rfl (by decide) _ zs.length (Bol.vals zs) rfl O6.out ⟨w2.heap.size, 0, none⟩ 1 1 [.bool true] rfl rfl HN.out (by intro u hu; simp at hu; subst hu; rfl) (by omega) (by unfold maxLen; omega) (by omega) HZ.out _ rfl ?_; intro g2 cap6 w7 own7 grow7 at7 ltg7; have HA7 := Lib.hid (HFIN.out w7 g2 _ _ own7 grow7 at7); clear own7 grow7 at7 ltg7; obtain ⟨e0, e1⟩ := HA7.out.1)
        go_ret
        refine ⟨⟨some ⟨g, 0, none⟩, T.length, c⟩, T.set 0 (zs ++ [true]), rfl, HA7.out.2.1, by rw [List.length_set]; exact HTT.out, fun i hi => ?_, HA7.out.2.2.1, HA7.out.2.2.2⟩
        rw [List.length_set] at hi
        by_cases e : i = 0
        · subst e
          rw [List.getD_eq_getElem?_getD, List.getElem?_set_self hi]
          simp
          omega
        · rw [List.getD_eq_getElem?_getD, List.getElem?_set_ne (by omega), ← List.getD_eq_getElem?_getD]
          have := HWW.out i hi
          omega
end Go.Proofs.Ytkogoflcacameaa
