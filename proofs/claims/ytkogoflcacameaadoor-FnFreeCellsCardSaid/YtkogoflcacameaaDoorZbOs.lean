/- Several of my texts in one: Os9, Sc9. -/
import Derived.Test.YtkogoflcacameaaDoorZcSh
import Derived.Test.YtkogoflcacameaaDoorOq9
import Derived.Deep.AppendLies
namespace Go.Proofs.YtkogoflcacameaaDoor
set_option maxRecDepth 100000
open Go.RowKit
attribute [local go_sem ↓] Go.wp_at_zero Go.wp_at_succ
/-- A row of at most 16 points of the call's own that lies apart from block ob. -/
def RowQ (u : World) (B : Nat) (s : Sl) (ps : List P2) (ob : Option Nat) : Prop := OwnPt u B (slQ s) ps ∧ ps.length ≤ 16 ∧ ((slQ s).ownBlock = none ∨ (slQ s).ownBlock ≠ ob)
theorem RowQ.pick {u u' : World} {B r : Nat} {s : Sl} {ps : List P2} {ob : Option Nat} (h : RowQ u B s ps ob) (hg : u.grownBy u' (some r)) (hr : r < B) : RowQ u' B s ps ob := ⟨h.1.pick8 hg hr, h.2⟩
theorem RowQ.next {u u' : World} {B : Nat} {s : Sl} {ps : List P2} {ob : Option Nat} (h : RowQ u B s ps ob) (hb : Below u.heap.size u u') : RowQ u' B s ps ob := ⟨h.1.next hb, h.2⟩
theorem RowQ.app {u u' : World} {B g : Nat} {s : Sl} {ps : List P2} {ob : Option Nat} (h : RowQ u B s ps ob) (hg : u.grownBy u' ob) (hat : ob = some g ∨ g = u.heap.size) : RowQ u' B s ps (some g) := by
  refine ⟨World.ownsRow.kept h.1 hg h.2.2, h.2.1, ?_⟩
  rcases h.1.2 with ⟨hv, _⟩ | ⟨b, c, cur, hv, hB, hb, _⟩
  · left; unfold slQ; unfold slQ at hv; rw [hv]; rfl
  · right
    have lt := (World.ownsRow.lt h.1 b (by rw [hv]; rfl)).2
    have e : (slQ s).ownBlock = some b := by rw [hv]; rfl
    rcases hat with rfl | rfl
    · rcases h.2.2 with k | k
      · rw [e] at k; cases k
      · exact k
    · rw [e]; intro k; injection k with k; omega
/-- A list of lists that is being drawn. -/
structure OS (w0 : World) (B M r : Nat) (u : World) (v : Value) (ss : List Sl) (pss : List (List P2)) : Prop where
  rd : Rd B M u r
  gr : w0.grownBy u (some r)
  n : ss.length = pss.length
  row : u.ownsRow w0.heap.size 72 1 v pss.length (ss.map slQ)
  each : ∀ i, i < pss.length → RowQ u w0.heap.size (ss.getD i ⟨none, 0, 0⟩) (pss.getD i []) v.ownBlock
section
variable {w0 u u' : World} {B M M' r : Nat} {v v' : Value} {ss : List Sl} {pss : List (List P2)}
theorem OS.old (h : OS w0 B M r u v ss pss) : ∀ k, v.ownBlock = some k → w0.heap.size ≤ k := fun k hk => (World.ownsRow.lt h.row k hk).1
theorem OS.pick (h : OS w0 B M r u v ss pss) (hr : Rd B M' u' r) (hg : u.grownBy u' (some r)) (hlt : r < w0.heap.size) : OS w0 B M' r u' v ss pss :=
  ⟨hr, h.gr.trans hg, h.n, World.ownsRow.kept h.row hg (.inr (fun e => by have := h.old r e; omega)), fun i hi => (h.each i hi).pick hg hlt⟩
theorem OS.mono (h : OS w0 B M r u v ss pss) (hM : M ≤ M') : OS w0 B M' r u v ss pss := ⟨h.rd.mono hM, h.gr, h.n, h.row, h.each⟩
theorem OS.alloc (h : OS w0 B M r u v ss pss) (o : Obj) : OS w0 B M r (u.alloc o) v ss pss :=
  ⟨h.rd.alloc o, only_alloc h.gr o, h.n, World.ownsRow.kept (row := none) h.row ⟨(below_box u o).os, (below_box u o).tape, (below_box u o).output, (below_box u o).size, fun k hk _ => (below_box u o).block k hk⟩ (by cases v.ownBlock <;> simp), fun i hi => (h.each i hi).next (below_box u o)⟩
theorem OS.new (hr : Rd B M u r) (hg : w0.grownBy u (some r)) (hb : w0.heap.size ≤ u.heap.size) (T : TypeId) (hT : T = 72) : OS w0 B M r (u.alloc (.cells #[] T)) (.slice (some ⟨u.heap.size, 0, none⟩) 0 0) [] [] := by
  subst hT
  refine ⟨hr.alloc _, only_alloc hg _, rfl, ?_, fun i hi => by simp at hi⟩
  have := World.ownsRow_lit (base := w0.heap.size) (e := 72) (size := 1) u #[] 0 hb (Nat.zero_le _) rfl
  simpa using this
/-- One row more. -/
theorem OS.app {g n cap : Nat} {s : Sl} {ps : List P2} (h : OS w0 B M r u v ss pss) (hlt : r < w0.heap.size) (hB : B ≤ w0.heap.size) (hq : RowQ u w0.heap.size s ps v.ownBlock)
    (own : u'.ownsRow w0.heap.size 72 1 (.slice (some ⟨g, 0, none⟩) n cap) (pss.length + 1) (ss.map slQ ++ [slQ s])) (grow : u.grownBy u' v.ownBlock) (hat : v.ownBlock = some g ∨ g = u.heap.size) :
    OS w0 B M r u' (.slice (some ⟨g, 0, none⟩) n cap) (ss ++ [s]) (pss ++ [ps]) := by
  refine ⟨h.rd.kept grow (fun e => by have := h.old r e.symm; omega) (fun k hk => by have := h.old k hk; omega), only_row h.gr grow h.old, by simp [h.n], ?_, fun i hi => ?_⟩
  · rw [List.length_append, List.map_append]; exact own
  · rw [List.length_append] at hi
    simp only [List.length_cons, List.length_nil] at hi
    by_cases hk : i < pss.length
    · have e1 : (ss ++ [s]).getD i ⟨none, 0, 0⟩ = ss.getD i ⟨none, 0, 0⟩ := by rw [List.getD_eq_getElem?_getD, List.getD_eq_getElem?_getD, List.getElem?_append_left (by rw [h.n]; exact hk)]
      have e2 : (pss ++ [ps]).getD i [] = pss.getD i [] := by rw [List.getD_eq_getElem?_getD, List.getD_eq_getElem?_getD, List.getElem?_append_left hk]
      rw [e1, e2]
      exact (h.each i hk).app grow hat
    · obtain rfl : i = pss.length := by omega
      have e1 : (ss ++ [s]).getD pss.length ⟨none, 0, 0⟩ = s := by rw [List.getD_eq_getElem?_getD, List.getElem?_append_right (by rw [h.n]; exact Nat.le_refl _), h.n]; simp
      have e2 : (pss ++ [ps]).getD pss.length [] = ps := by rw [List.getD_eq_getElem?_getD, List.getElem?_append_right (Nat.le_refl _)]; simp
      rw [e1, e2]
      exact hq.app grow hat
theorem OS.got9 (h : OS w0 B M r u v ss pss) : ∃ s : Sl, v = .slice s.a s.len s.cap ∧ PSA u s.a s.len pss ∧ s.len ≤ s.cap := by
  rcases h.row.2 with ⟨hv, hn⟩ | ⟨g, c, cur, hv, hb, hg, hc, _⟩
  · exact ⟨⟨none, 0, 0⟩, hv, ⟨hn.symm, .inl (List.eq_nil_of_length_eq_zero hn)⟩, Nat.le_refl _⟩
  · subst hv
    refine ⟨⟨some ⟨g, 0, none⟩, pss.length, c⟩, rfl, ⟨rfl, .inr ⟨g, rfl, (World.ownsRow.lt h.row g rfl).2, fun i hi => ?_⟩⟩, hc⟩
    obtain ⟨o, hl, _⟩ := h.each i hi
    refine ⟨ss.getD i ⟨none, 0, 0⟩, ?_, o.ints, ?_⟩
    · rw [World.ownsRow.cellAt h.row i (by omega), List.getElem?_map, List.getD_eq_getElem?_getD, List.getElem?_eq_getElem (by rw [h.n]; exact hi)]
      rfl
    · have := o.ints.1; omega
end
/-- What a call that draws a polygon leaves of what is being drawn; and its row. -/
theorem OS.poly {w0 u u' : World} {B M M' r : Nat} {v : Value} {ss : List Sl} {pss : List (List P2)} {s : Sl} {ps : List P2} (h : OS w0 B M r u v ss pss) (hlt : r < w0.heap.size) (L : LSt u B M' r u' (.slice s.a s.len s.cap) ps) (hn : ps.length ≤ 16) :
    OS w0 B M' r u' v ss pss ∧ RowQ u' w0.heap.size s ps v.ownBlock := by
  refine ⟨h.pick L.rd L.gr hlt, L.row.down6 h.gr.size, hn, ?_⟩
  rcases L.row.2 with ⟨hv, _⟩ | ⟨g, c, cur, hv, hb, _⟩
  · left; unfold slQ; rw [hv]; rfl
  · right
    unfold slQ
    rw [hv]
    intro e
    have := (World.ownsRow.lt h.row g e.symm).2
    omega
/-- What a draw of a scene says. -/
def DrawnO (B M r N : Nat) (w : World) (e : Ending) (w' : World) : Prop :=
  ∃ (s : Sl) (ss : List Sl) (pss : List (List P2)), e = .returned (.slice s.a s.len s.cap) ∧ pss.length ≤ N ∧ OS w B M r w' (.slice s.a s.len s.cap) ss pss
theorem OS.drawn {w0 u : World} {B M M' r N : Nat} {v : Value} {ss : List Sl} {pss : List (List P2)} (h : OS w0 B M r u v ss pss) (hM : M ≤ M') (hn : pss.length ≤ N) : DrawnO B M' r N w0 (.returned v) u := by
  obtain ⟨s, rfl, _⟩ := h.got9
  exact ⟨s, ss, pss, rfl, hn, h.mono hM⟩
/-- What is drawn stays while a region draws its order. -/
theorem GSt.pss9 {w w0 u w1 : World} {B M M' r : Nat} {rs : List Nat} {s : Sl} {ss : List Sl} {pss : List (List P2)} (h : GSt w w0 r rs M u) (hs : OS w1 B M' r w0 (.slice s.a s.len s.cap) ss pss) (hk : ∀ k, w1.heap.size ≤ k → k ≠ r ∧ k ∉ rs) : PSA u s.a s.len pss := by
  rcases hs.row.2 with ⟨hv, hn⟩ | ⟨g, c, cur, hv, hb, hg, hc, hm, hcs, ht⟩
  · simp only [Value.slice.injEq] at hv
    rw [hv.1, hv.2.1]
    rw [List.eq_nil_of_length_eq_zero hn]
    exact PSA.nil u none
  · have e := h.keep g (Array.getElem?_eq_some_iff.1 hg).1 (hk g hb).1 (hk g hb).2
    have row : u.ownsRow w1.heap.size 72 1 (.slice s.a s.len s.cap) pss.length (ss.map slQ) := ⟨hs.row.1, .inr ⟨g, c, cur, hv, hb, e.trans hg, hc, hm, hcs, ht⟩⟩
    have hv' := hv
    simp only [Value.slice.injEq] at hv
    obtain ⟨h1, h2, h3⟩ := hv
    rw [hv'] at row
    rw [h1, h2]
    refine ⟨rfl, .inr ⟨g, rfl, (World.ownsRow.lt row g rfl).2, fun i hi => ?_⟩⟩
    obtain ⟨o, hl, _⟩ := hs.each i hi
    have o2 : OwnPt u w1.heap.size (slQ (ss.getD i ⟨none, 0, 0⟩)) (pss.getD i []) := h.ownPt o (fun k q => hk k (World.ownsRow.lt o k q).1)
    refine ⟨ss.getD i ⟨none, 0, 0⟩, ?_, o2.ints, ?_⟩
    · rw [World.ownsRow.cellAt row i (by omega), List.getElem?_map, List.getD_eq_getElem?_getD, List.getElem?_eq_getElem (by rw [hs.n]; exact hi)]
      rfl
    · have := o2.ints.1; omega
def LoopO (w0 : World) (B M r N k : Nat) (v : Value) (wr : World) : Prop := ∃ ss pss, pss.length + k = N ∧ OS w0 B (M + 200 * pss.length) r wr v ss pss
end Go.Proofs.YtkogoflcacameaaDoor
namespace Go.Proofs.YtkogoflcacameaaDoor
set_option maxRecDepth 100000
open Go.RowKit
attribute [local go_sem ↓] Go.wp_at_zero Go.wp_at_succ
theorem one_new9 (w : World) (a : Value) (t : Nat) : ∀ (j : Nat) u, [a][j]? = some u → (w.alloc (.cells #[a] t)).cell? ((⟨w.heap.size, 0, none⟩ : Addr).add j) = some u := by
  intro j u hu
  have hj : j = 0 := by
    have := (List.getElem?_eq_some_iff.1 hu).1
    simp at this; omega
  subst hj
  simp at hu; subst hu; simp [Addr.add]
def vLen9 : Value → Nat
  | .slice _ n _ => n
  | _ => 0
theorem OS.sl {w0 u : World} {B M r : Nat} {v : Value} {ss : List Sl} {pss : List (List P2)} (h : OS w0 B M r u v ss pss) : ∃ s : Sl, v = .slice s.a s.len s.cap ∧ s.len = pss.length := by
  obtain ⟨s, rfl, hp, _⟩ := h.got9
  exact ⟨s, rfl, hp.1⟩
def SceQ (w0 : World) (B M r : Nat) (v : Value) (u : World) : Prop := ∃ ss pss, pss.length ≤ 4 ∧ OS w0 B M r u v ss pss
theorem SceQ.any {w0 : World} {B M r : Nat} {v : Value} {u : World} (h : SceQ w0 B M r v u) : ∃ ss pss, pss.length ≤ 4 ∧ OS w0 B M r u v ss pss := h
def LoopF (w0 : World) (B M r k : Nat) (v : Value) (wr : World) : Prop := ∃ ss pss, pss.length = k ∧ OS w0 B (M + 200 * pss.length) r wr v ss pss
set_option maxHeartbeats 4000000 in
theorem l20Scene (B M r : Nat) (n : Int) (w : World) (hr : Rd B M w r) (hM : M ≤ 500000) (h0 : 0 < n) (h1 : n ≤ 500000) :
    Calls Tryd.prog 26 #[.pointer (some ⟨r, 0, none⟩), .int .i64 n] w (DrawnO B (M + 3000) r 9 w) := by
  obtain ⟨i0, hi0, hz0, hz1, hz2⟩ := info_parts infoSl9
  have hrlt := hr.lt
  have hrge := hr.ge
  have HBw := Lib.hid (show B ≤ w.heap.size by omega)
  have S0 := OS.new hr (World.grownBy.refl w (some r)) (Nat.le_refl _) 72 rfl
  go_enter Tryd.func26, Tryd.ntmps26
  go_wp2_with fail
  refine (pick B M r 4 _ S0.rd (by omega)).mono ?_
  rintro e w1 ⟨x1, a1, b1, rfl, hr1, hg1, hs1⟩
  have c1 := b1 (by omega)
  have S1 := Lib.hid (S0.pick hr1 hg1 hrlt)
  clear b1 hr1 hg1 hs1 S0 hr
  obtain ⟨q, rfl⟩ : ∃ q : Nat, x1 = (q : Int) := ⟨x1.toNat, by omega⟩
  have hq : q ≤ 3 := by omega
  have HL : Hid (LoopO w B (M + 1) r q q (.slice (some ⟨w.heap.size, 0, none⟩) 0 0) w1) := Lib.hid ⟨[], [], by simp, S1.out⟩
  clear S1
  go_wp2
  go_loopw [5, 6] (fun v i wr => ∃ k : Nat, k ≤ q ∧ i = .int .i64 (k : Int) ∧ Hid (LoopO w B (M + 1) r q k v wr)) (fun _ i _ => (intOf i).toNat)
  case atStart => exact ⟨q, Nat.le_refl _, rfl, HL⟩
  case round =>
    obtain ⟨k, hk, rfl, HS⟩ := hrel
    clear HL
    obtain ⟨ss, pss, hps, S⟩ := HS.out
    have hlen : pss.length ≤ 3 := by omega
    by_cases hlt : 0 < k
    · have j1 : (0 : Int) < (k : Int) := by omega
      go_wp2_with fail
      refine (l20Polygon B _ r 0 _ S.rd (by omega) (.inl rfl)).mono ?_
      rintro e w2 ⟨s, ps, rfl, hl, hn, hs, L⟩
      obtain ⟨S2', Q2⟩ := S.poly hrlt L hn
      have S2 := Lib.hid S2'
      have HQ := Lib.hid Q2
      clear S S2' Q2 L hs HS hl hn
      have S3 := Lib.hid (S2.out.alloc (.cells #[slQ s] 72))
      have Q3 := Lib.hid (HQ.out.next (below_box _ (.cells #[slQ s] 72)))
      have HN := Lib.hid (one_new9 w2 (slQ s) 72)
      have HW := Lib.hid S3.out.gr.size
      clear HQ
      unfold slQ at S3 Q3 HN
      go_wp2_with (at_builtin; refine wpList_append_lies _ rfl (.tmp 14) (.tmp 17) 26 rfl w.heap.size 72 i0 (.slice none 0 0) 1 24 Tryd.underlying26 hi0 hz0 hz1 hz2 rfl (by decide) _ pss.length (ss.map slQ) rfl S3.out.row ⟨w2.heap.size, 0, none⟩ 1 1 [.slice s.a s.len s.cap] rfl rfl HN.out (by intro u hu; simp at hu; subst hu; rfl) (by omega) (by unfold maxLen; omega) (by omega) HW.out _ rfl ?_; intro g cap6 w7 own7 grow7 at7 ltg7; have HA7 := Lib.hid (And.intro own7 (And.intro grow7 at7)); clear own7 grow7 at7 ltg7)
      have HR := Lib.hid (S3.out.app hrlt HBw.out Q3.out HA7.out.1 HA7.out.2.1 HA7.out.2.2)
      clear HA7 S3 Q3
      go_roundw
      case rel => exact ⟨k - 1, by omega, by congr 1; omega, Lib.hid ⟨_, _, by simp; omega, HR.out.mono (by simp; omega)⟩⟩
      case measure => simp [intOf]; omega
    · obtain rfl : k = 0 := by omega
      have S1 := Lib.hid (S.mono (show M + 1 + 200 * pss.length ≤ M + 700 by omega))
      clear HS S
      go_wp2_with fail
      refine (oddA B _ r n _ S1.out.rd (by omega) h0 (by omega)).mono ?_
      rintro e w2 ⟨b, rfl, hr2, hg2, hs2⟩
      have S2 := Lib.hid (S1.out.pick hr2 hg2 hrlt)
      clear hr2 hg2 hs2 S1
      go_upto_if 21 with fail
      go_cut [5] (fun v u => SceQ w B (M + 1000) r v u)
      case first =>
        cases b
        · have HF := Lib.hid (show SceQ w B (M + 1000) r _ w2 from ⟨ss, pss, by omega, S2.out.mono (by omega)⟩)
          clear S2
          go_wp2
          go_meet
          exact HF.out
        · go_wp2_with fail
          refine (l20Polygon B _ r 2 _ S2.out.rd (by omega) (.inr ⟨by omega, by omega⟩)).mono ?_
          rintro e w3 ⟨s, ps, rfl, hl, hn, hs, L⟩
          obtain ⟨S3', Q3'⟩ := S2.out.poly hrlt L hn
          have S4 := Lib.hid S3'
          have HQ := Lib.hid Q3'
          clear S2 S3' Q3' L hs hl hn
          have S3 := Lib.hid (S4.out.alloc (.cells #[slQ s] 72))
          have Q3 := Lib.hid (HQ.out.next (below_box _ (.cells #[slQ s] 72)))
          have HN := Lib.hid (one_new9 w3 (slQ s) 72)
          have HW := Lib.hid S3.out.gr.size
          clear HQ
          unfold slQ at S3 Q3 HN
          go_wp2_with (at_builtin; refine wpList_append_lies _ rfl (.tmp 22) (.tmp 25) 26 rfl w.heap.size 72 i0 (.slice none 0 0) 1 24 Tryd.underlying26 hi0 hz0 hz1 hz2 rfl (by decide) _ pss.length (ss.map slQ) rfl S3.out.row ⟨w3.heap.size, 0, none⟩ 1 1 [.slice s.a s.len s.cap] rfl rfl HN.out (by intro u hu; simp at hu; subst hu; rfl) (by omega) (by unfold maxLen; omega) (by omega) HW.out _ rfl ?_; intro g cap6 w7 own7 grow7 at7 ltg7; have HA7 := Lib.hid (And.intro own7 (And.intro grow7 at7)); clear own7 grow7 at7 ltg7)
          have HR := Lib.hid (S3.out.app hrlt HBw.out Q3.out HA7.out.1 HA7.out.2.1 HA7.out.2.2)
          clear HA7 S3 Q3
          have HF := Lib.hid (show SceQ w B (M + 1000) r _ w7 from ⟨_, _, by simp; omega, HR.out.mono (by omega)⟩)
          clear HR
          go_wp2
          go_meet
          exact HF.out
      case rest =>
        clear S2
        replace hcut := Lib.hid hcut
        obtain ⟨ss, pss, hn4, S4'⟩ := hcut.out.any
        clear hcut
        have S4 := Lib.hid S4'
        have ow : IntKind.i64.wrap (2 * n) = 2 * n := wrap_in (by omega) (by omega)
        clear S4' hlen
        go_wp2_with fail
        refine (oddA B _ r (2 * n) _ S4.out.rd (by omega) (by omega) (by omega)).mono ?_
        rintro e w5 ⟨b2, rfl, hr5, hg5, hs5⟩
        have S5 := Lib.hid (S4.out.pick hr5 hg5 hrlt)
        clear hr5 hg5 hs5 S4
        cases b2
        · go_wp2
          go_ret
          exact S5.out.drawn (by omega) (by omega)
        · have HL5 : Hid (LoopF w B (M + 1001) r pss.length _ w5) := Lib.hid ⟨ss, pss, rfl, S5.out.mono (by omega)⟩
          clear S5
          go_wp2
          generalize pss.length = n0 at *
          go_loopw [5] (fun v wr => ∃ k : Nat, k ≤ 9 ∧ Hid (LoopF w B (M + 1001) r k v wr)) (fun v _ => 9 - vLen9 v)
          case atStart => exact ⟨_, by omega, HL5⟩
          case round =>
            obtain ⟨k, hk9, HF⟩ := hrel
            clear HL5
            obtain ⟨ss, pss, hps, S⟩ := HF.out
            obtain ⟨⟨za, zl, zc⟩, rfl, hz⟩ := S.sl
            simp only at hz
            replace hz := Lib.hid hz
            replace hps := Lib.hid hps
            by_cases hlt9 : k ≤ 8
            · have j1 : (zl : Int) ≤ 8 := by have := hz.out; have := hps.out; omega
              go_wp2_with fail
              refine (l20Polygon B _ r 0 _ S.rd (by have := hps.out; omega) (.inl rfl)).mono ?_
              rintro e w6 ⟨s, ps, rfl, hl, hn, hs, L⟩
              obtain ⟨S6', Q6⟩ := S.poly hrlt L hn
              have S6 := Lib.hid S6'
              have HQ := Lib.hid Q6
              have hlp : pss.length ≤ 8 := by have := hps.out; omega
              clear S S6' Q6 L hs HF hl hn
              have S3 := Lib.hid (S6.out.alloc (.cells #[slQ s] 72))
              have Q3 := Lib.hid (HQ.out.next (below_box _ (.cells #[slQ s] 72)))
              have HN := Lib.hid (one_new9 w6 (slQ s) 72)
              have HW := Lib.hid S3.out.gr.size
              clear HQ
              unfold slQ at S3 Q3 HN
              go_wp2_with (at_builtin; refine wpList_append_lies _ rfl (.tmp 34) (.tmp 37) 26 rfl w.heap.size 72 i0 (.slice none 0 0) 1 24 Tryd.underlying26 hi0 hz0 hz1 hz2 rfl (by decide) _ pss.length (ss.map slQ) rfl S3.out.row ⟨w6.heap.size, 0, none⟩ 1 1 [.slice s.a s.len s.cap] rfl rfl HN.out (by intro u hu; simp at hu; subst hu; rfl) (by omega) (by unfold maxLen; omega) (by omega) HW.out _ rfl ?_; intro g cap6 w7 own7 grow7 at7 ltg7; have HA7 := Lib.hid (And.intro own7 (And.intro grow7 at7)); clear own7 grow7 at7 ltg7)
              have HR := Lib.hid (S3.out.app hrlt HBw.out Q3.out HA7.out.1 HA7.out.2.1 HA7.out.2.2)
              clear HA7 S3 Q3
              go_roundw
              case rel => exact ⟨k + 1, by omega, Lib.hid ⟨_, _, by have := hps.out; simp; omega, HR.out.mono (by simp; omega)⟩⟩
              case measure => have := hps.out; have := hz.out; simp [vLen9]; omega
            · have j1 : ¬ (zl : Int) ≤ 8 := by have := hz.out; have := hps.out; omega
              have HF9 := Lib.hid (S.drawn (M' := M + 3000) (N := 9) (by have := hps.out; omega) (by have := hps.out; omega))
              clear S HF
              go_wp2
              go_ret
              exact HF9.out
end Go.Proofs.YtkogoflcacameaaDoor
