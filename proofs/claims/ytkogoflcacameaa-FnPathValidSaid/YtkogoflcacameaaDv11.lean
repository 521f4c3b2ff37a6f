/- What the law on valid paths draws: a table and a planned path, or one that is a little spoilt. -/
import Derived.Test.YtkogoflcacameaaDp11
import Derived.Test.YtkogoflcacameaaIm11k
import Derived.Test.YtkogoflcacameaaZbKt
namespace Go.Proofs.Ytkogoflcacameaa
set_option maxRecDepth 100000
open Go.RowKit
attribute [local go_sem ↓] Go.wp_at_zero Go.wp_at_succ
/-- A table that lies in the blocks from B to E. -/
def TabG (w : World) (B E : Nat) (s : Sl) (T : List (List Bool)) : Prop :=
  s.len = T.length ∧ ∃ (b : Nat) (ss : List Sl), s.a = some ⟨b, 0, none⟩ ∧ B ≤ b ∧ b < E ∧ b < w.heap.size ∧ (∀ i, i < T.length → w.cell? ⟨b, i, none⟩ = some (Bol.slQ (ss.getD i dS))) ∧ ∀ i, i < T.length → (ss.getD i dS).len = (T.getD i []).length ∧ (T.getD i [] = [] ∨ ∃ c off, (ss.getD i dS).a = some ⟨c, off, none⟩ ∧ B ≤ c ∧ c < E ∧ c < w.heap.size ∧ ∀ j, j < (T.getD i []).length → w.cell? ⟨c, off + j, none⟩ = some (.bool ((T.getD i []).getD j false)))
theorem TabF.ends {w : World} {B : Nat} {s : Sl} {T : List (List Bool)} (h : TabF w B s T) : TabG w B w.heap.size s T := by
  obtain ⟨h0, b, ss, h1, h2, h3, h4, h5⟩ := h
  exact ⟨h0, b, ss, h1, h2, h3, h3, h4, fun i hi => ⟨(h5 i hi).1, (h5 i hi).2.imp id fun ⟨c, off, q1, q2, q3, q4⟩ => ⟨c, off, q1, q2, q3, q3, q4⟩⟩⟩
theorem TabG.tab {w : World} {B E : Nat} {s : Sl} {T : List (List Bool)} (h : TabG w B E s T) : TabF w B s T := by
  obtain ⟨h0, b, ss, h1, h2, _, h3, h4, h5⟩ := h
  exact ⟨h0, b, ss, h1, h2, h3, h4, fun i hi => ⟨(h5 i hi).1, (h5 i hi).2.imp id fun ⟨c, off, q1, q2, _, q3, q4⟩ => ⟨c, off, q1, q2, q3, q4⟩⟩⟩
theorem TabG.kept {w w' : World} {B E : Nat} {s : Sl} {T : List (List Bool)} {row : Option Nat} (h : TabG w B E s T) (hg : w.grownBy w' row) (hr : ∀ k, row = some k → k < B ∨ E ≤ k) : TabG w' B E s T := by
  obtain ⟨h0, b, ss, h1, h2, h2', h3, h4, h5⟩ := h
  exact ⟨h0, b, ss, h1, h2, h2', Nat.lt_of_lt_of_le h3 hg.size, fun i hi => (World.cell?_of_block (a := ⟨b, i, none⟩) (hg.block b h3 (fun e => by have := hr b e.symm; omega))).trans (h4 i hi),
    fun i hi => ⟨(h5 i hi).1, (h5 i hi).2.imp id fun ⟨c, off, q1, q2, q2', q3, q4⟩ => ⟨c, off, q1, q2, q2', Nat.lt_of_lt_of_le q3 hg.size, fun j hj => (World.cell?_of_block (a := ⟨c, off + j, none⟩) (hg.block c q3 (fun e => by have := hr c e.symm; omega))).trans (q4 j hj)⟩⟩⟩
/-- A row's beginning. -/
theorem ownsRow_take11 {w : World} {base g n cap k size : Nat} {e : TypeId} {xs : List Value} (h : w.ownsRow base e size (.slice (some ⟨g, 0, none⟩) n cap) n xs) (hk : k ≤ n) : w.ownsRow base e size (.slice (some ⟨g, 0, none⟩) k cap) k (xs.take (k * size)) := by
  have hks : k * size ≤ n * size := Nat.mul_le_mul_right _ hk
  refine ⟨by rw [List.length_take, h.1]; omega, ?_⟩
  rcases h.2 with ⟨hv, _⟩ | ⟨g', c, cur, hv, hb, hg, hc, hm, hs, ht⟩
  · cases hv
  · simp only [Value.slice.injEq, Option.some.injEq, Addr.mk.injEq, and_true, true_and] at hv
    obtain ⟨rfl, rfl⟩ := hv
    exact .inr ⟨g, cap, cur, rfl, hb, hg, by omega, hm, hs, by rw [← ht, List.take_take, Nat.min_eq_left hks]⟩
/-- A cell's first coordinate changed. -/
theorem pvals_set0 (L : List C2) (k : Nat) (x : Int) (hk : k < L.length) : (Cel.pvals L).set (k * 2) (.int .i64 x) = Cel.pvals (L.set k (x, (L.getD k (0, 0)).2)) := by
  apply List.ext_getElem?
  intro i
  by_cases hi : i < L.length * 2
  · rw [List.getElem?_set, Cel.pvals_len, Cel.pvals_at _ i hi, Cel.pvals_at _ i (by rw [List.length_set]; exact hi)]
    by_cases e : k * 2 = i
    · subst e
      rw [if_pos rfl, if_pos hi, Cel.cz0, List.getD_eq_getElem?_getD, List.getElem?_set_self hk]
      rfl
    · rw [if_neg e]
      unfold Cel.cz
      by_cases e2 : k = i / 2
      · have h1 : i % 2 = 1 := by omega
        subst e2
        have e3 : (L.set (i / 2) (x, (L.getD (i / 2) (0, 0)).2)).getD (i / 2) (0, 0) = (x, (L.getD (i / 2) (0, 0)).2) := by
          generalize (x, (L.getD (i / 2) (0, 0)).2) = y
          rw [List.getD_eq_getElem?_getD, List.getElem?_set_self hk]; rfl
        rw [if_neg (by omega), if_neg (by omega), e3]
      · have e3 : (L.set k (x, (L.getD k (0, 0)).2)).getD (i / 2) (0, 0) = L.getD (i / 2) (0, 0) := by
          rw [List.getD_eq_getElem?_getD, List.getElem?_set_ne e2, ← List.getD_eq_getElem?_getD]
        rw [e3]
  · rw [List.getElem?_eq_none (by rw [List.length_set, Cel.pvals_len]; omega), List.getElem?_eq_none (by rw [Cel.pvals_len, List.length_set]; omega)]
/-- A cell taken out. -/
theorem pvals_erase (L : List C2) (k : Nat) (hk : k < L.length) : (Cel.pvals L).take (k * 2) ++ (Cel.pvals L).drop ((k + 1) * 2) = Cel.pvals (L.eraseIdx k) := by
  apply List.ext_getElem?
  intro i
  have hl : (L.eraseIdx k).length = L.length - 1 := List.length_eraseIdx_of_lt hk
  by_cases hi : i < (L.length - 1) * 2
  · rw [Cel.pvals_at _ i (by rw [hl]; exact hi)]
    have hz : Cel.cz (L.eraseIdx k) i = if i < k * 2 then Cel.cz L i else Cel.cz L (i + 2) := by
      unfold Cel.cz
      rw [List.getD_eq_getElem?_getD, List.getElem?_eraseIdx, show (i + 2) / 2 = i / 2 + 1 by omega, show (i + 2) % 2 = i % 2 by omega, List.getD_eq_getElem?_getD, List.getD_eq_getElem?_getD]
      by_cases e : i < k * 2
      · rw [if_pos (show i / 2 < k by omega), if_pos e]
      · rw [if_neg (show ¬ i / 2 < k by omega), if_neg e]
    rw [hz]
    by_cases e : i < k * 2
    · rw [if_pos e, List.getElem?_append_left (by rw [List.length_take, Cel.pvals_len]; omega), List.getElem?_take_of_lt e, Cel.pvals_at _ i (by omega)]
    · rw [if_neg e, List.getElem?_append_right (by rw [List.length_take, Cel.pvals_len]; omega), List.length_take, Cel.pvals_len, List.getElem?_drop]
      rw [show (k + 1) * 2 + (i - min (k * 2) (L.length * 2)) = i + 2 by omega, Cel.pvals_at _ _ (by omega)]
  · rw [List.getElem?_eq_none (by rw [List.length_append, List.length_take, List.length_drop, Cel.pvals_len]; omega), List.getElem?_eq_none (by rw [Cel.pvals_len, hl]; omega)]
theorem OwnPt.form11 {w : World} {B n cap : Nat} {a : Option Addr} {L : List C2} (h : Cel.OwnPt w B (.slice a n cap) L) (hn : 1 ≤ L.length) : ∃ g, a = some ⟨g, 0, none⟩ ∧ n = L.length ∧ n ≤ cap ∧ B ≤ g ∧ g < w.heap.size := by
  rcases h.2 with ⟨_, h0⟩ | ⟨g, c, cur, hv, hb, hg, hc, _⟩
  · omega
  · simp only [Value.slice.injEq] at hv
    obtain ⟨rfl, rfl, rfl⟩ := hv
    exact ⟨g, rfl, rfl, hc, hb, (Array.getElem?_eq_some_iff.1 hg).1⟩
theorem OwnPt.cap11 {w : World} {B n cap : Nat} {a : Option Addr} {L : List C2} (h : Cel.OwnPt w B (.slice a n cap) L) : n = L.length ∧ n ≤ cap := by
  rcases h.2 with ⟨hv, h0⟩ | ⟨g, c, cur, hv, hb, hg, hc, _⟩
  · simp only [Value.slice.injEq] at hv; omega
  · simp only [Value.slice.injEq] at hv
    obtain ⟨_, rfl, rfl⟩ := hv
    exact ⟨rfl, hc⟩
theorem OwnPt.pick11 {w w' : World} {B n cap r : Nat} {a : Option Addr} {L : List C2} (h : Cel.OwnPt w B (.slice a n cap) L) (hg : w.grownBy w' (some r)) (hr : r < B) : Cel.OwnPt w' B (.slice a n cap) L :=
  h.same fun g e => hg.block g (World.ownsRow.lt h g e).2 (fun q => by injection q with q; have := World.ownsRow.lt h g e; omega)
/-- What the draw of a table and a path says. -/
def GotPV (w : World) (e : Ending) (w' : World) : Prop :=
  ∃ (s p : Sl) (T : List (List Bool)) (L : List C2), e = .returned (.tuple #[.slice s.a s.len s.cap, .slice p.a p.len p.cap]) ∧ TabF w' w.heap.size s T ∧ SzT T ∧ Cel.PtsAt w' p.a p.len L ∧ (p.len ≤ p.cap ∧ L.length ≤ 401) ∧ Below w.heap.size w w'
/-- What it holds when the path is there. -/
structure PvS (w : World) (B E M r : Nat) (u : World) (s : Sl) (T : List (List Bool)) (pv : Value) (L : List C2) : Prop where
  rd : Rd w.heap.size M u r
  old : Below w.heap.size w u
  tab : TabG u B E s T
  own : Cel.OwnPt u E pv L
theorem PvS.fin {w u : World} {B E M r n cap : Nat} {s : Sl} {T : List (List Bool)} {a : Option Addr} {L : List C2} (h : PvS w B E M r u s T (.slice a n cap) L) (hT : SzT T) (hL : L.length ≤ 401) (hB : w.heap.size ≤ B) :
    GotPV w (.returned (.tuple #[.slice s.a s.len s.cap, .slice a n cap])) u :=
  ⟨s, ⟨a, n, cap⟩, T, L, rfl, h.tab.tab.down hB, hT, h.own.ints, ⟨(OwnPt.cap11 h.own).2, hL⟩, h.old⟩
theorem PvS.pick {w u u' : World} {B E M M' r n cap : Nat} {s : Sl} {T : List (List Bool)} {a : Option Addr} {L : List C2} (h : PvS w B E M r u s T (.slice a n cap) L) (hr : Rd w.heap.size M' u' r) (hg : u.grownBy u' (some r)) (hB : r < B) (hE : r < E) : PvS w B E M' r u' s T (.slice a n cap) L :=
  ⟨hr, h.old.grown hg h.old.size (fun k hk => by injection hk with hk; subst hk; exact h.rd.ge), h.tab.kept hg (fun k hk => by injection hk with hk; subst hk; exact .inl hB), OwnPt.pick11 h.own hg hE⟩
/-- The path written, or another one made. -/
theorem PvS.put {w u u' : World} {B E M r : Nat} {s : Sl} {T : List (List Bool)} {pv v' : Value} {L L' : List C2} {row : Option Nat} (h : PvS w B E M r u s T pv L) (hg : u.grownBy u' row) (hrow : ∀ k, row = some k → E ≤ k) (hr : r < E) (hB : w.heap.size ≤ E) (ho : Cel.OwnPt u' E v' L') : PvS w B E M r u' s T v' L' :=
  ⟨h.rd.kept hg (fun e => by have := hrow r e.symm; omega) (fun k hk => by have := hrow k hk; omega), h.old.grown hg h.old.size (fun k hk => by have := hrow k hk; omega), h.tab.kept hg (fun k hk => .inr (hrow k hk)), ho⟩
set_option maxHeartbeats 8000000 in
theorem drawPathValid (w : World) (a : Option Addr) (len cap : Nat) (zs : List Int) (h : Bytes w a len cap zs) :
    Calls Try.prog 23 #[.slice a len cap] w (GotPV w) := by
  obtain ⟨i0, hi0, hz0, hz1, hz2⟩ := info_parts Cel.infoPt6
  go_enter Try.func23, Try.ntmps23
  go_wp2_with fail
  refine (gopen w _ a len cap zs h (Below.refl _ _) w.heap.size rfl).mono ?_
  rintro e w1 ⟨rfl, hr1, H1⟩
  have hlt1 := hr1.lt
  clear h
  go_wp2_with fail
  refine (drawTable _ _ _ 14 _ hr1 (by omega) (by omega) (by omega)).mono ?_
  rintro e w2 ⟨s, T, rfl, hF2, hT1, hT2, hr2, hg2⟩
  have H2 := H1.grown hg2 H1.size (fun k hk => by injection hk with hk; omega)
  have hT3 := hT2 0 (by omega)
  have hrl : ∀ i, i < T.length → (T.getD i []).length ≤ 1048576 := fun i hi => by have := hT2 i hi; omega
  have HSZ := Lib.hid (show SzT T from ⟨hT1, hT2⟩)
  clear H1 hg2 hr1
  go_wp2_with fail
  refine (drawCell w _ _ _ _ s T hr2 H2 (by omega) hF2 (by omega) hT1 hT3).mono ?_
  rintro e w3 ⟨⟨cx, cy⟩, hc, rfl, hr3, hg3⟩
  have H3 := H2.grown hg3 H2.size (fun k hk => by injection hk with hk; omega)
  have hF3 := hF2.kept hg3 (fun k hk => by injection hk with hk; omega)
  clear hr2 hg3 hF2 H2 hc
  go_wp2_with fail
  refine (drawCell w _ _ _ _ s T hr3 H3 (by omega) hF3 (by omega) hT1 hT3).mono ?_
  rintro e w4 ⟨⟨dx, dy⟩, hd, rfl, hr4, hg4⟩
  have hlt4 := hr4.lt
  have H4 := H3.grown hg4 H3.size (fun k hk => by injection hk with hk; omega)
  have hF4 := hF3.kept hg4 (fun k hk => by injection hk with hk; omega)
  have hR := hF4.rsa hrl
  have hsl : s.len ≤ 9223372036854775807 := by have := hF4.1; omega
  have hG4 := hF4.ends
  clear hr3 hg4 hF3 H3 hd
  go_wp2_with fail
  refine (specPlanPath s.a s.len s.cap T (cx, cy) (dx, dy) _ hR hsl).mono ?_
  rintro e w5 ⟨⟨pa, pl, pc⟩, rfl, hp, O5, B5⟩
  simp only at O5 hp
  have S5 : PvS w w1.heap.size w4.heap.size (0 + 40 + 4 + 4) w.heap.size w5 s T (.slice pa pl pc) (planV T (cx, cy) (dx, dy)) :=
    ⟨hr4.kept (below_grown B5) (by simp) (fun k e => by cases e), below_call H4 B5, hG4.kept (below_grown B5) (fun k e => by cases e), O5⟩
  have hst := plan_straight T (cx, cy) (dx, dy)
  have hpl : pl ≤ 400 := by
    rw [hp]
    by_cases q : planV T (cx, cy) (dx, dy) = []
    · rw [q]; simp
    · exact (plan_valid q).2.2.1
  have HP := Lib.hid hp
  have HST := Lib.hid hst
  have hBB : w.heap.size ≤ w1.heap.size := by omega
  have HS5 := Lib.hid S5
  clear O5 B5 H4 hF4 hR hr4 hG4 hsl hT1 hT2 hrl hst S5 hp
  generalize planV T (cx, cy) (dx, dy) = L at *
  by_cases hpz : pl = 0
  · subst hpz
    go_wp2_with fail
    exact bodyPost_ret (v := .tuple #[.slice s.a s.len s.cap, .slice pa 0 pc]) (by simp [results, Try.results23, go_sem]) rfl (HS5.out.fin HSZ.out (by have := HP.out; omega) hBB)
  have hpos : (0 : Int) < (pl : Int) := by omega
  go_wp2_with fail
  refine (pick _ _ _ 2 _ HS5.out.rd (by omega)).mono ?_
  rintro e w6 ⟨x6, x60, x61, rfl, hr6, hg6, -⟩
  have S6 := Lib.hid (HS5.out.pick hr6 hg6 (by omega) hlt4)
  clear HS5 hr6 hg6 x61
  by_cases hx6 : x6 = 0
  rotate_left
  · have q6 : (x6 == 0) = false := by simp [hx6]
    clear hx6
    go_wp2_with fail
    exact bodyPost_ret (v := .tuple #[.slice s.a s.len s.cap, .slice pa pl pc]) (by simp [results, Try.results23, go_sem]) rfl (S6.out.fin HSZ.out (by have := HP.out; omega) hBB)
  subst hx6
  go_wp2_with fail
  refine (pick _ _ _ (pl : Int) _ S6.out.rd (by omega)).mono ?_
  rintro e w7 ⟨x7, x70, x71', rfl, hr7, hg7, -⟩
  have x71 := x71' (by omega)
  obtain ⟨k, rfl⟩ : ∃ k : Nat, x7 = (k : Int) := ⟨x7.toNat, by omega⟩
  have S7 := Lib.hid (S6.out.pick hr7 hg7 (by omega) hlt4)
  have hkp : k < pl := by omega
  clear S6 hr7 hg7 x71'
  go_wp2_with fail
  refine (pick _ _ _ 3 _ S7.out.rd (by omega)).mono ?_
  rintro e w8 ⟨y, y0, y1', rfl, hr8, hg8, -⟩
  have y1 := y1' (by omega)
  have S8 := Lib.hid (S7.out.pick hr8 hg8 (by omega) hlt4)
  clear S7 hr8 hg8 y1'
  obtain ⟨g, rfl, hgl, hgc, hgE, hgs⟩ := OwnPt.form11 S8.out.own (by have := HP.out; omega)
  have HGL := Lib.hid hgl
  clear hgl
  have hy : y = 0 ∨ y = 1 ∨ y = 2 := by omega
  clear y0 y1
  rcases hy with rfl | rfl | rfl
  · have own := S8.out.own
    unfold Cel.OwnPt at own
    rw [← HGL.out] at own
    have c0 := World.ownsRow.cellAt own (k * 2) (by omega)
    have f0 := World.ownsRow.frozenAt own (k * 2)
    rw [Cel.pvals_at _ _ (by have := HGL.out; omega), Cel.cz0] at c0
    have hsm := HST.out.1 k (by have := HGL.out; omega)
    obtain ⟨A, hA⟩ : ∃ A, (L.getD k (0, 0)).1 = A := ⟨_, rfl⟩
    rw [hA] at c0 hsm
    have o1 : IntKind.i64.wrap (A + 1) = A + 1 := IntWalk.i64_in _ (by omega)
    have st := World.ownsRow.stored own (k * 2) (.int .i64 (A + 1))
    rw [pvals_set0 L k (A + 1) (by have := HGL.out; omega)] at st
    have S9 := Lib.hid (S8.out.put st.2 (fun q hq => by injection hq with hq; omega) hlt4 (by omega) (show Cel.OwnPt _ _ (.slice (some ⟨g, 0, none⟩) pl pc) (L.set k (A + 1, (L.getD k (0, 0)).2)) by
      unfold Cel.OwnPt
      rw [List.length_set, ← HGL.out]
      exact st.1))
    have HLL := Lib.hid (show (L.set k (A + 1, (L.getD k (0, 0)).2)).length ≤ 401 by rw [List.length_set]; have := HGL.out; omega)
    have k0 : (0 : Int) ≤ (k : Int) := by omega
    have k1 : (k : Int) < (pl : Int) := by omega
    clear st own S8 hA hsm
    go_wp2_with fail
    exact bodyPost_ret (v := .tuple #[.slice s.a s.len s.cap, .slice (some ⟨g, 0, none⟩) pl pc]) (by simp [results, Try.results23, go_sem]) rfl (S9.out.fin HSZ.out HLL.out hBB)
  · have own := S8.out.own
    unfold Cel.OwnPt at own
    rw [← HGL.out] at own
    have HTK := Lib.hid (ownsRow_take11 own (show k ≤ pl by omega))
    have HCA := Lib.hid (fun j (hj : j < pl * 2) => (World.ownsRow.cellAt own j hj))
    have HER := Lib.hid (pvals_erase L k (by have := HGL.out; omega))
    have HEL := Lib.hid (show (L.eraseIdx k).length = pl - 1 by have e := List.length_eraseIdx_of_lt (l := L) (i := k) (by have := HGL.out; omega); have := HGL.out; omega)
    have k0 : (0 : Int) ≤ (k : Int) := by omega
    have k1 : (k : Int) < (pl : Int) := by omega
    have k2 : (k : Int) + 1 ≤ (pl : Int) := by omega
    have k3 : (k : Int) ≤ (pc : Int) := by omega
    have k4 : (pl : Int) ≤ (pc : Int) := by omega
    have o1 : IntKind.i64.wrap ((k : Int) + 1) = (k : Int) + 1 := IntWalk.i64_in _ (by omega)
    clear own
    go_upto_region 11 with fail
    refine wp_region_ktail 7 (by kernel_rfl) (by kernel_rfl) ?_
    simp only [List.take_succ_cons, List.take_zero, List.drop_succ_cons, List.drop_zero]
    by_cases hlast : k + 1 < pl
    · have hpc : ¬ pc = k + 1 := by omega
      repeat (go_big_quiet_step (fail))
      refine wpQuiet_nil ?_
      rintro w9 ⟨⟨_, K9⟩, rfl⟩
      have S9 := Lib.hid (S8.out.put (below_grown K9) (fun k e => by cases e) hlt4 (by omega) (S8.out.own.next K9))
      have HT9 := Lib.hid (World.ownsRow.kept HTK.out (below_grown K9) (.inr (by simp [Value.ownBlock])))
      have HN9 := Lib.hid (show ∀ j u, ((Cel.pvals L).drop ((k + 1) * 2))[j]? = some u → w9.cell? ((⟨g, (k + 1) * 2, none⟩ : Addr).add j) = some u from fun j u hu => by
        have hj : j < ((Cel.pvals L).drop ((k + 1) * 2)).length := (List.getElem?_eq_some_iff.1 hu).1
        rw [List.length_drop, Cel.pvals_len, ← HGL.out] at hj
        have e : (⟨g, (k + 1) * 2, none⟩ : Addr).add j = ⟨g, (k + 1) * 2 + j, none⟩ := by
          unfold Addr.add
          split
          · rename_i h0; rw [h0]; rfl
          · rfl
        rw [e]
        have hc := HCA.out ((k + 1) * 2 + j) (by omega)
        rw [List.getElem?_drop] at hu
        exact ((K9.cell (p := ⟨g, (k + 1) * 2 + j, none⟩) hgs).trans hc).trans hu)
      have HH := Lib.hid (Nat.le_trans hgE (Nat.le_trans (Nat.le_of_lt hgs) K9.size))
      have HL9 := Lib.hid (show ((Cel.pvals L).drop ((k + 1) * 2)).length = (pl - (k + 1)) * 2 by rw [List.length_drop, Cel.pvals_len, ← HGL.out]; omega)
      have HO9 := Lib.hid (show ∀ u ∈ (Cel.pvals L).drop ((k + 1) * 2), u.oneCell' = true from fun u hu => by
        have := List.mem_of_mem_drop hu
        unfold Cel.pvals at this
        obtain ⟨i, _, rfl⟩ := List.mem_map.1 this
        rfl)
      clear K9 S8
      go_wp2_with (at_builtin; refine wpList_append_lies _ rfl (.tmp 56) (.tmp 60) 42 rfl w4.heap.size 33 i0 (pt 0 0) 2 16 Try.underlying42 hi0 hz0 hz1 hz2 rfl (by decide) (.slice (some ⟨g, 0, none⟩) k pc) k _ rfl HT9.out ⟨g, (k + 1) * 2, none⟩ (pl - (k + 1)) (pc - (k + 1)) _ rfl HL9.out HN9.out HO9.out (by omega) (by unfold maxLen; omega) (by omega) HH.out _ rfl ?_; intro g2 cap6 w10 own7 grow7 at7 ltg7; have HA7 := Lib.hid (And.intro own7 grow7); clear own7 grow7 at7 ltg7)
      have HO7 : Hid (Cel.OwnPt w10 w4.heap.size (.slice (some ⟨g2, 0, none⟩) (k + (pl - (k + 1))) cap6) (L.eraseIdx k)) := Lib.hid (by
        have e : k + (pl - (k + 1)) = pl - 1 := by omega
        have o := HA7.out.1
        unfold Cel.OwnPt
        rw [HEL.out, ← HER.out]
        rw [e] at o ⊢
        exact o)
      have S11 := Lib.hid (S9.out.put HA7.out.2 (fun q hq => by have : q = g := by simpa [Value.ownBlock] using hq.symm
                                                                omega) hlt4 (by omega) HO7.out)
      exact bodyPost_ret (v := .tuple #[.slice s.a s.len s.cap, .slice (some ⟨g2, 0, none⟩) (k + (pl - (k + 1))) cap6]) (by simp [results, Try.results23, go_sem]) rfl (S11.out.fin HSZ.out (by rw [HEL.out]; omega) hBB)
    · obtain rfl : pl = k + 1 := by omega
      have hend : (Cel.pvals L).take (k * 2) = Cel.pvals (L.eraseIdx k) := by
        have e := HER.out
        rw [List.drop_eq_nil_of_le (show (Cel.pvals L).length ≤ (k + 1) * 2 by rw [Cel.pvals_len]; have := HGL.out; omega), List.append_nil] at e
        exact e
      by_cases hpc : pc = k + 1
      · subst hpc
        repeat (go_big_quiet_step (fail))
        refine wpQuiet_nil ?_
        rintro w9 ⟨⟨_, K9⟩, rfl⟩
        have HT9 := Lib.hid (World.ownsRow.kept HTK.out (below_grown K9) (.inr (by simp [Value.ownBlock])))
        have S9 := Lib.hid (S8.out.put (v' := .slice (some ⟨g, 0, none⟩) k (k + 1)) (L' := L.eraseIdx k) (below_grown K9) (fun k e => by cases e) hlt4 (by omega) (by
          unfold Cel.OwnPt
          rw [← hend, HEL.out]
          exact HT9.out))
        have HLL := Lib.hid (show (L.eraseIdx k).length ≤ 401 by rw [HEL.out]; omega)
        clear K9 S8 hend
        go_wp2_with fail
        exact bodyPost_ret (v := .tuple #[.slice s.a s.len s.cap, .slice (some ⟨g, 0, none⟩) k (k + 1)]) (by simp [results, Try.results23, go_sem]) rfl (S9.out.fin HSZ.out HLL.out hBB)
      · repeat (go_big_quiet_step (fail))
        refine wpQuiet_nil ?_
        rintro w9 ⟨⟨_, K9⟩, rfl⟩
        have HT9 := Lib.hid (World.ownsRow.kept HTK.out (below_grown K9) (.inr (by simp [Value.ownBlock])))
        have S9 := Lib.hid (S8.out.put (v' := .slice (some ⟨g, 0, none⟩) k pc) (L' := L.eraseIdx k) (below_grown K9) (fun k e => by cases e) hlt4 (by omega) (by
          unfold Cel.OwnPt
          rw [← hend, HEL.out]
          exact HT9.out))
        have HLL := Lib.hid (show (L.eraseIdx k).length ≤ 401 by rw [HEL.out]; omega)
        clear K9 S8 hend
        go_wp2_with fail
        exact bodyPost_ret (v := .tuple #[.slice s.a s.len s.cap, .slice (some ⟨g, 0, none⟩) k pc]) (by simp [results, Try.results23, go_sem]) rfl (S9.out.fin HSZ.out HLL.out hBB)
  · have hgap : s.len = s.len := rfl
    go_wp2_with fail
    refine (drawCell w _ _ _ _ s T S8.out.rd S8.out.old (by omega) S8.out.tab.tab (by omega) HSZ.out.1 hT3).mono ?_
    rintro e w9 ⟨⟨qx, qy⟩, hq, rfl, hr9, hg9⟩
    have S9 := S8.out.pick hr9 hg9 (by omega) hlt4
    have S10 := Lib.hid (S9.put (below_grown (below_box w9 (.cells #[.int .i64 qx, .int .i64 qy] 33))) (fun k e => by cases e) hlt4 (by omega) (S9.own.next (below_box w9 (.cells #[.int .i64 qx, .int .i64 qy] 33))))
    have own := S10.out.own
    unfold Cel.OwnPt at own
    rw [← HGL.out] at own
    have HO := Lib.hid own
    have HNW := Lib.hid (Cel.two_new w9 (.int .i64 qx) (.int .i64 qy) 33)
    have HH := Lib.hid (show w4.heap.size ≤ (w9.alloc (.cells #[.int .i64 qx, .int .i64 qy] 33)).heap.size by have := S9.own.2; have := hgs; have := hg9.size; simp; omega)
    have HPL := HGL
    clear S8 S9 hr9 hg9 hq own hgap
    simp only
    go_wp2_with (at_builtin; refine wpList_append_lies _ rfl (.tmp 34) (.tmp 38) 42 rfl w4.heap.size 33 i0 (pt 0 0) 2 16 Try.underlying42 hi0 hz0 hz1 hz2 rfl (by decide) (.slice (some ⟨g, 0, none⟩) pl pc) pl (Cel.pvals L) rfl HO.out ⟨w9.heap.size, 0, none⟩ 1 1 [.int .i64 qx, .int .i64 qy] rfl rfl HNW.out (by intro u hu; simp at hu; rcases hu with rfl | rfl <;> rfl) (by omega) (by unfold maxLen; omega) (by omega) HH.out _ rfl ?_; intro g2 cap6 w10 own7 grow7 at7 ltg7; have HA7 := Lib.hid (And.intro own7 grow7); clear own7 grow7 at7 ltg7)
    have HO7 : Hid (Cel.OwnPt w10 w4.heap.size (.slice (some ⟨g2, 0, none⟩) (pl + 1) cap6) (L ++ [(qx, qy)])) := Lib.hid (by
      unfold Cel.OwnPt
      rw [Cel.pvals_snoc, List.length_append, List.length_singleton, ← HPL.out]
      exact HA7.out.1)
    have S11 := Lib.hid (S10.out.put HA7.out.2 (fun q hq => by have : q = g := by simpa [Value.ownBlock] using hq.symm
                                                               omega) hlt4 (by omega) HO7.out)
    exact bodyPost_ret (v := .tuple #[.slice s.a s.len s.cap, .slice (some ⟨g2, 0, none⟩) (pl + 1) cap6]) (by simp [results, Try.results23, go_sem]) rfl (S11.out.fin HSZ.out (by rw [List.length_append, List.length_singleton, ← HPL.out]; omega) hBB)
end Go.Proofs.Ytkogoflcacameaa
