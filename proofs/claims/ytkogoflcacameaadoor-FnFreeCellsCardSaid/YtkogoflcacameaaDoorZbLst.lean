/- Several of my texts in one: Lst7, Dq8. -/
import Derived.Test.YtkogoflcacameaaDoorZbRd
import Derived.Test.YtkogoflcacameaaDoorZbDr
import Derived.Test.YtkogoflcacameaaDoorZbRow
import Derived.Test.YtkogoflcacameaaDoorZbNum
import Derived.Test.YtkogoflcacameaaDoorZbInv
import Derived.Test.YtkogoflcacameaaDoorZcDx
import Derived.Deep.DeepCutAuto
import Derived.Deep.AppendLies
namespace Go.Proofs.YtkogoflcacameaaDoor
set_option maxRecDepth 100000
open Go.RowKit
attribute [local go_sem ↓] Go.wp_at_zero Go.wp_at_succ
/-- The coordinates are small. -/
def SmP (ps : List (Int × Int)) : Prop := ∀ p ∈ ps, (-10001 ≤ p.1 ∧ p.1 ≤ 10001) ∧ -10001 ≤ p.2 ∧ p.2 ≤ 10001
theorem SmP.nil : SmP [] := fun p hp => by cases hp
theorem SmP.snoc {ps : List (Int × Int)} (h : SmP ps) {x y : Int} (h1 : -10001 ≤ x) (h2 : x ≤ 10001) (h3 : -10001 ≤ y) (h4 : y ≤ 10001) : SmP (ps ++ [(x, y)]) := fun p hp => by
  rcases List.mem_append.1 hp with k | k
  · exact h p k
  · rw [List.mem_singleton.1 k]; exact ⟨⟨h1, h2⟩, h3, h4⟩
theorem SmP.set {ps : List (Int × Int)} (h : SmP ps) (k : Nat) {x y : Int} (h1 : -10001 ≤ x) (h2 : x ≤ 10001) (h3 : -10001 ≤ y) (h4 : y ≤ 10001) : SmP (ps.set k (x, y)) := fun p hp => by
  rcases List.mem_or_eq_of_mem_set hp with k | k
  · exact h p k
  · rw [k]; exact ⟨⟨h1, h2⟩, h3, h4⟩
theorem SmP.at {ps : List (Int × Int)} (h : SmP ps) (i : Nat) : (-10001 ≤ pX ps i ∧ pX ps i ≤ 10001) ∧ -10001 ≤ pY ps i ∧ pY ps i ≤ 10001 := by
  unfold pX pY
  rw [List.getD_eq_getElem?_getD]
  cases hx : ps[i]? with
  | none => simp
  | some p => exact h p (List.mem_of_getElem? hx)
theorem cz_set (ps : List (Int × Int)) (k : Nat) (x y : Int) (hk : k < ps.length) (j : Nat) : cz (ps.set k (x, y)) j = if j = k * 2 then x else if j = k * 2 + 1 then y else cz ps j := by
  unfold cz
  rw [List.getD_eq_getElem?_getD, List.getElem?_set]
  by_cases h0 : j = k * 2
  · subst h0
    rw [if_pos (by omega), if_pos (by omega), if_pos hk, if_pos rfl]
    rfl
  · by_cases h1 : j = k * 2 + 1
    · subst h1
      rw [if_neg (by omega), if_pos (by omega), if_pos hk, if_neg (by omega), if_pos rfl]
      rfl
    · rw [if_neg (by omega : ¬ k = j / 2), if_neg h0, if_neg h1, ← List.getD_eq_getElem?_getD]
theorem pvals_set (ps : List (Int × Int)) (k : Nat) (x y : Int) (hk : k < ps.length) : ((pvals ps).set (k * 2) (.int .i64 x)).set (k * 2 + 1) (.int .i64 y) = pvals (ps.set k (x, y)) := by
  apply List.ext_getElem?
  intro j
  by_cases hj : j < ps.length * 2
  · rw [pvals_at (ps.set k (x, y)) j (by rw [List.length_set]; exact hj), cz_set ps k x y hk, List.getElem?_set, List.getElem?_set, List.length_set, pvals_len]
    by_cases h0 : j = k * 2
    · subst h0; rw [if_neg (by omega), if_pos rfl, if_pos hj, if_pos rfl]
    · by_cases h1 : j = k * 2 + 1
      · subst h1; rw [if_pos rfl, if_pos hj, if_neg h0, if_pos rfl]
      · rw [if_neg (fun e => h1 e.symm), if_neg (fun e => h0 e.symm), if_neg h0, if_neg h1, pvals_at ps j hj]
  · rw [List.getElem?_eq_none (by simp [pvals_len]; omega), List.getElem?_eq_none (by simp [pvals_len]; omega)]
theorem OwnPt.at7 {w : World} {B : Nat} {v : Value} {ps : List (Int × Int)} (h : OwnPt w B v ps) (hn : 1 ≤ ps.length) : ∃ g cap, v = .slice (some ⟨g, 0, none⟩) ps.length cap ∧ B ≤ g ∧ ps.length ≤ cap := by
  rcases h.2 with ⟨hv, hn'⟩ | ⟨g, c, cur, hv, hb, _, hc, _⟩
  · omega
  · exact ⟨g, c, hv, hb, hc⟩
/-- A list of points that is being drawn: it is the call's own, and of what lay in w0 the reader alone has changed. -/
structure LSt (w0 : World) (B M r : Nat) (u : World) (v : Value) (ps : List (Int × Int)) : Prop where
  rd : Rd B M u r
  gr : w0.grownBy u (some r)
  row : OwnPt u w0.heap.size v ps
section
variable {w0 u u' : World} {B M M' r : Nat} {v v' : Value} {ps ps' : List (Int × Int)}
theorem LSt.old (h : LSt w0 B M r u v ps) : ∀ k, v.ownBlock = some k → w0.heap.size ≤ k := fun k hk => (World.ownsRow.lt h.row k hk).1
theorem LSt.pick (h : LSt w0 B M r u v ps) (hr : Rd B M' u' r) (hg : u.grownBy u' (some r)) (hlt : r < w0.heap.size) : LSt w0 B M' r u' v ps :=
  ⟨hr, h.gr.trans hg, World.ownsRow.kept h.row hg (.inr (fun e => by have := h.old r e; omega))⟩
theorem LSt.mono (h : LSt w0 B M r u v ps) (hM : M ≤ M') : LSt w0 B M' r u v ps := ⟨h.rd.mono hM, h.gr, h.row⟩
theorem LSt.alloc (h : LSt w0 B M r u v ps) (o : Obj) : LSt w0 B M r (u.alloc o) v ps := ⟨h.rd.alloc o, only_alloc h.gr o, h.row.next (below_box u o)⟩
theorem LSt.app (h : LSt w0 B M r u v ps) (hlt : r < w0.heap.size) (hB : B ≤ w0.heap.size) (own : OwnPt u' w0.heap.size v' ps') (grow : u.grownBy u' v.ownBlock) : LSt w0 B M r u' v' ps' :=
  ⟨h.rd.kept grow (fun e => by have := h.old r e.symm; omega) (fun k hk => by have := h.old k hk; omega), only_row h.gr grow h.old, own⟩
theorem LSt.new (hr : Rd B M u r) (hg : w0.grownBy u (some r)) (hb : w0.heap.size ≤ u.heap.size) (T : TypeId) (hT : T = 89) : LSt w0 B M r (u.alloc (.cells #[] T)) (.slice (some ⟨u.heap.size, 0, none⟩) 0 0) [] :=
  ⟨hr.alloc _, only_alloc hg _, OwnPt.down6 (ownPt_empty u T hT) hb⟩
/-- One point is put in the place of another. -/
theorem LSt.put {g n cap k : Nat} (h : LSt w0 B M r u (.slice (some ⟨g, 0, none⟩) n cap) ps) (hlt : r < w0.heap.size) (hB : B ≤ w0.heap.size) (hk : k < ps.length) (x y : Int) :
    LSt w0 B M r ((u.setCell ⟨g, k * 2, none⟩ (.int .i64 x)).setCell ⟨g, k * 2 + 1, none⟩ (.int .i64 y)) (.slice (some ⟨g, 0, none⟩) n cap) (ps.set k (x, y)) := by
  have hn : n = ps.length := by
    rcases h.row.2 with ⟨hv, _⟩ | ⟨_, _, _, hv, _⟩
    · cases hv
    · simp only [Value.slice.injEq] at hv; exact hv.2.1
  subst hn
  have s1 := World.ownsRow.stored h.row (k * 2) (.int .i64 x)
  have s2 := s1.1.stored (k * 2 + 1) (.int .i64 y)
  refine h.app hlt hB ?_ (s1.2.trans s2.2)
  have o := s2.1
  rw [pvals_set ps k x y hk] at o
  unfold OwnPt
  rw [List.length_set]
  exact o
end
/-- What a draw of a list says. -/
def DrawnL (B M r N : Nat) (w : World) (e : Ending) (w' : World) : Prop :=
  ∃ (s : Sl) (ps : List (Int × Int)), e = .returned (.slice s.a s.len s.cap) ∧ s.len = ps.length ∧ ps.length ≤ N ∧ SmP ps ∧ LSt w B M r w' (.slice s.a s.len s.cap) ps
theorem LSt.drawn {w0 u : World} {B M M' r N : Nat} {v : Value} {ps : List (Int × Int)} (h : LSt w0 B M r u v ps) (hM : M ≤ M') (hn : ps.length ≤ N) (hs : SmP ps) : DrawnL B M' r N w0 (.returned v) u := by
  obtain ⟨s, rfl, hl⟩ := h.row.sl
  exact ⟨s, ps, rfl, hl, hn, hs, h.mono hM⟩
/-- What the loop that draws a list holds: up to k points are still to come. -/
def LoopL (w0 : World) (B M r N k : Nat) (v : Value) (wr : World) : Prop := ∃ ps : List (Int × Int), ps.length + k = N ∧ SmP ps ∧ LSt w0 B (M + 7 * ps.length) r wr v ps
theorem GSt.ownPt {w w0 u : World} {r M B : Nat} {rs : List Nat} {v : Value} {ps : List (Int × Int)} (h : GSt w w0 r rs M u) (hp : OwnPt w0 B v ps) (h1 : ∀ k, v.ownBlock = some k → k ≠ r ∧ k ∉ rs) : OwnPt u B v ps := by
  refine ⟨hp.1, ?_⟩
  rcases hp.2 with h2 | ⟨g, c, cur, hv, hb, hg, rest⟩
  · exact .inl h2
  · obtain ⟨k1, k2⟩ := h1 g (by rw [hv]; rfl)
    exact .inr ⟨g, c, cur, hv, hb, (h.keep g (Array.getElem?_eq_some_iff.1 hg).1 k1 k2).trans hg, rest⟩
theorem odd0 (r : Nat) (w : World) : Calls Tryd.prog 48 #[.pointer (some ⟨r, 0, none⟩), .int .i64 0] w fun e w' => e = .returned (.bool false) ∧ w = w' := by
  go_enter Tryd.func48, Tryd.ntmps48
  go_wp2
  go_ret
  exact ⟨rfl, rfl⟩
set_option maxHeartbeats 1000000 in
theorem l20Point0 (B M r : Nat) (w : World) (hr : Rd B M w r) (hM : M ≤ 900000) :
    Calls Tryd.prog 65 #[.pointer (some ⟨r, 0, none⟩), .int .i64 0] w (DrawnP B (M + 7) r w) := by
  have hr0 := hr.alloc (.cells #[.int .i64 0, .int .i64 0] 89)
  have hg0 := only_alloc (World.grownBy.refl w (some r)) (.cells #[.int .i64 0, .int .i64 0] 89)
  have ho0 := OwnP.box w 0 0 89
  have hrlt := hr.lt
  have hrge := hr.ge
  go_enter Tryd.func65, Tryd.ntmps65
  go_wp2_with fail
  refine (pick B M r _ _ hr0 (by omega)).mono ?_
  rintro e w1 ⟨x1, a1, b1, rfl, hr1, hg1, hs1⟩
  have c1 := b1 (by omega)
  clear b1
  go_wp2_with fail
  refine (pick B (M + 1) r _ _ hr1 (by omega)).mono ?_
  rintro e w2 ⟨x2, a2, b2, rfl, hr2, hg2, hs2⟩
  have c2 := b2 (by omega)
  have hlt2 : w.heap.size < w2.heap.size := by rw [hs2, hs1]; simp
  have hRr : w.heap.size ≠ r := by omega
  have hPr : w2.heap.size ≠ r := by omega
  have hPR : w2.heap.size ≠ w.heap.size := by omega
  have hRP : w.heap.size ≠ w2.heap.size := by omega
  have hBP : B ≤ w2.heap.size := by omega
  have hRP' : w.heap.size ≤ w2.heap.size := by omega
  have HRR := Lib.hid (show B ≤ w.heap.size by omega)
  have S2 : PtSt B (M + 1 + 1) r w w2.heap.size (w2.alloc (.cells #[.int .i64 (x1 - 20), .int .i64 (x2 - 20)] 89)) (x1 - 20) (x2 - 20) :=
    ⟨hr2.alloc _, only_alloc ((hg0.trans hg1).trans hg2) _, (((ho0.grown hg1 hRr).grown hg2 hRr)).alloc _, OwnP.box w2 _ _ _⟩
  clear b2 hs1 hs2 hr0 hr1 hr2 hg0 hg1 hg2 ho0 hr
  go_wp2_with fail
  refine (pick B (M + 1 + 1) r _ _ S2.rd (by omega)).mono ?_
  rintro e w3 ⟨x3, a3, b3, rfl, hr3, hg3, hs3⟩
  have S3 := S2.pick hr3 hg3 hRr hPr
  clear b3 hs3 hr3 hg3 S2
  by_cases hx : x3 = 0
  · subst hx
    obtain ⟨⟨p1, p2, p3⟩, p4, p5⟩ := id S3.var
    go_wp2_with fail
    refine (pick B (M + 1 + 1 + 1) r _ _ S3.rd (by omega)).mono ?_
    rintro e w4 ⟨x4, a4, b4, rfl, hr4, hg4, hs4⟩
    have c4 := b4 (by omega)
    have S4 := S3.pick hr4 hg4 hRr hPr
    clear b4 hr4 hg4 hs4 p1 p2 p3 p4 p5 S3
    go_wp2_with fail
    refine (pick B (M + 1 + 1 + 1 + 1) r _ _ S4.rd (by omega)).mono ?_
    rintro e w5 ⟨x5, a5, b5, rfl, hr5, hg5, hs5⟩
    have c5 := b5 (by omega)
    have S5 := S4.pick hr5 hg5 hRr hPr
    have S6 := S5.put hPr hPR hBP hRP' (x4 * 4 - 500) (x5 * 4 - 500)
    obtain ⟨⟨i1, i2, i3⟩, i4, i5⟩ := id S5.var
    clear b5 hr5 hg5 hs5 S4 S5
    obtain ⟨⟨p1, p2, p3⟩, p4, p5⟩ := id S6.var
    obtain ⟨⟨q1, q2, q3⟩, q4, q5⟩ := id S6.res
    go_wp2_with fail
    refine (odd0 r _).mono ?_
    rintro e w' ⟨rfl, rfl⟩
    have HD := fun u v => Lib.hid (S6.done (M' := M + 7) hrlt HRR.out (by omega) u v)
    go_wp2
    exact bodyPost_ret (v := pt (x4 * 4 - 500) (x5 * 4 - 500)) (by simp [results, Tryd.results65, go_sem, q2, q3]) rfl ⟨_, _, by omega, by omega, by omega, by omega, rfl, (HD _ _).out⟩
  · have hne : (x3 == 0) = false := by simpa using hx
    obtain ⟨⟨p1, p2, p3⟩, p4, p5⟩ := id S3.var
    obtain ⟨⟨q1, q2, q3⟩, q4, q5⟩ := id S3.res
    go_wp2_with fail
    refine (odd0 r _).mono ?_
    rintro e w' ⟨rfl, rfl⟩
    have HD := fun u v => Lib.hid (S3.done (M' := M + 7) hrlt HRR.out (by omega) u v)
    go_wp2
    exact bodyPost_ret (v := pt (x1 - 20) (x2 - 20)) (by simp [results, Tryd.results65, go_sem, q2, q3]) rfl ⟨_, _, by omega, by omega, by omega, by omega, rfl, (HD _ _).out⟩
end Go.Proofs.YtkogoflcacameaaDoor
namespace Go.Proofs.YtkogoflcacameaaDoor
set_option maxRecDepth 100000
open Go.RowKit
attribute [local go_sem ↓] Go.wp_at_zero Go.wp_at_succ
theorem OwnPt.cap8 {w : World} {B n c : Nat} {a : Option Addr} {ps : List P2} (h : OwnPt w B (.slice a n c) ps) : n ≤ c := by
  rcases h.2 with ⟨hv, hn⟩ | ⟨g, c', cur, hv, hb, hg, hc, _⟩
  · simp only [Value.slice.injEq] at hv; omega
  · simp only [Value.slice.injEq] at hv
    obtain ⟨_, rfl, rfl⟩ := hv
    omega
/-- What a draw of a set of points says: it reads as ps; of what lay before, the reader alone has changed. -/
def DrawnC (B M r N : Nat) (w : World) (e : Ending) (w' : World) : Prop :=
  ∃ (s : Sl) (ps : List P2), e = .returned (.slice s.a s.len s.cap) ∧ PL w' s.a s.len ps ∧ ps.length ≤ N ∧ SmP ps ∧ Rd B M w' r ∧ w.grownBy w' (some r) ∧ s.len ≤ s.cap
/-- A list of a length and small coordinates that is being drawn. -/
def LSm (w0 : World) (B M r N : Nat) (v : Value) (u : World) : Prop := ∃ ps : List P2, ps.length ≤ N ∧ SmP ps ∧ LSt w0 B M r u v ps
def FiveL (w0 : World) (B M r n0 k : Nat) (v : Value) (u : World) : Prop := ∃ ps : List P2, ps.length = n0 + k ∧ SmP ps ∧ LSt w0 B M r u v ps
theorem LSt.cloud {w0 u : World} {B M M' r N : Nat} {v : Value} {ps : List P2} (h : LSt w0 B M r u v ps) (hM : M ≤ M') (hn : ps.length ≤ N) (hs : SmP ps) : DrawnC B M' r N w0 (.returned v) u := by
  obtain ⟨sl, rfl, _⟩ := h.row.sl
  exact ⟨sl, ps, rfl, (OwnPt.ints h.row).pl, hn, hs, h.rd.mono hM, h.gr, h.row.cap8⟩
theorem SmP.app {ps : List P2} (h : SmP ps) {p : P2} (hp : (-10001 ≤ p.1 ∧ p.1 ≤ 10001) ∧ -10001 ≤ p.2 ∧ p.2 ≤ 10001) : SmP (ps ++ [p]) := fun q hq => by
  rcases List.mem_append.1 hq with k | k
  · exact h q k
  · rw [List.mem_singleton.1 k]; exact hp
theorem SmP.cor {ps : List P2} (h : SmP ps) (i : Nat) : (-10001 ≤ (cor ps i).1 ∧ (cor ps i).1 ≤ 10001) ∧ -10001 ≤ (cor ps i).2 ∧ (cor ps i).2 ≤ 10001 := h.at i
theorem SmP.sub {ps qs : List P2} (h : SmP ps) (hq : ∀ p ∈ qs, p ∈ ps) : SmP qs := fun p hp => h p (hq p hp)
theorem l20PointN (B M r : Nat) (n : Int) (w : World) (hr : Rd B M w r) (hM : M ≤ 900000) (hn : n = 0 ∨ (0 < n ∧ n ≤ 1000000)) :
    Calls Tryd.prog 65 #[.pointer (some ⟨r, 0, none⟩), .int .i64 n] w (DrawnP B (M + 7) r w) := by
  rcases hn with rfl | ⟨h0, h1⟩
  · exact l20Point0 B M r w hr hM
  · exact l20Point B M r n w hr (by omega) h0 h1
set_option maxHeartbeats 8000000 in
theorem l20Cloud (B M r : Nat) (n : Int) (w : World) (hr : Rd B M w r) (hM : M ≤ 800000) (hn : n = 0 ∨ (0 < n ∧ n ≤ 1000000)) :
    Calls Tryd.prog 67 #[.pointer (some ⟨r, 0, none⟩), .int .i64 n] w (DrawnC B (M + 100) r 15 w) := by
  obtain ⟨i0, hi0, hz0, hz1, hz2⟩ := info_parts infoPt6
  have hrlt := hr.lt
  have hrge := hr.ge
  have HBw := Lib.hid (show B ≤ w.heap.size by omega)
  have HNN := Lib.hid hn
  have S0 := LSt.new hr (World.grownBy.refl w (some r)) (Nat.le_refl _) 89 rfl
  clear hn
  go_enter Tryd.func67, Tryd.ntmps67
  go_wp2_with fail
  refine (pick B M r 10 _ S0.rd (by omega)).mono ?_
  rintro e w1 ⟨x1, a1, b1, rfl, hr1, hg1, hs1⟩
  have c1 := b1 (by omega)
  have S1 := Lib.hid (S0.pick hr1 hg1 hrlt)
  clear b1 hr1 hg1 hs1 S0 hr
  obtain ⟨q, rfl⟩ : ∃ q : Nat, x1 = (q : Int) := ⟨x1.toNat, by omega⟩
  have HL : Hid (LoopL w B (M + 1) r q q (.slice (some ⟨w.heap.size, 0, none⟩) 0 0) w1) := Lib.hid ⟨[], by simp, SmP.nil, S1.out⟩
  clear S1
  go_wp2
  go_loopw [5, 6] (fun v i wr => ∃ k : Nat, k ≤ q ∧ i = .int .i64 (k : Int) ∧ Hid (LoopL w B (M + 1) r q k v wr)) (fun _ i _ => (intOf i).toNat)
  case atStart => exact ⟨q, Nat.le_refl _, rfl, HL⟩
  case round =>
    obtain ⟨k, hk, rfl, HS⟩ := hrel
    clear HL
    obtain ⟨ps, hps, hsm, S⟩ := HS.out
    have hlen : ps.length ≤ 9 := by omega
    by_cases hlt : 0 < k
    · have j1 : (0 : Int) < (k : Int) := by omega
      go_wp2_with fail
      refine (l20PointN B _ r n _ S.rd (by omega) HNN.out).mono ?_
      rintro e w2 ⟨x, y, p1, p2, p3, p4, rfl, hr2, hg2⟩
      have S2 := Lib.hid ((S.pick hr2 hg2 hrlt).alloc (.cells #[.int .i64 x, .int .i64 y] 89))
      have HSM := Lib.hid (hsm.snoc p1 p2 p3 p4)
      have HN := Lib.hid (two_new6 w2 (.int .i64 x) (.int .i64 y) 89)
      have HP := Lib.hid (pvals_snoc6 ps (x, y))
      have HW := Lib.hid S2.out.gr.size
      clear hr2 hg2 S hsm HS p1 p2 p3 p4
      go_wp2_with (at_builtin; refine wpList_append_lies _ rfl (.tmp 15) (.tmp 19) 72 rfl w.heap.size 89 i0 (pt 0 0) 2 16 Tryd.underlying72 hi0 hz0 hz1 hz2 rfl (by decide) _ ps.length (pvals ps) rfl S2.out.row ⟨w2.heap.size, 0, none⟩ 1 1 [.int .i64 x, .int .i64 y] rfl rfl HN.out (by intro u hu; simp at hu; rcases hu with rfl | rfl <;> rfl) (by omega) (by unfold maxLen; omega) (by omega) HW.out _ rfl ?_; intro g cap6 w7 own7 grow7 at7 ltg7; have HA7 := Lib.hid (And.intro own7 grow7); clear own7 grow7 at7 ltg7)
      have HR := Lib.hid (S2.out.app (v' := .slice (some ⟨g, 0, none⟩) (ps.length + 1) cap6) (ps' := ps ++ [(x, y)]) hrlt HBw.out (by have o := HA7.out.1; rw [← HP.out] at o; unfold OwnPt; rw [List.length_append]; exact o) HA7.out.2)
      clear HA7 S2
      go_roundw
      case rel => exact ⟨k - 1, by omega, by congr 1; omega, Lib.hid ⟨ps ++ [(x, y)], by simp; omega, HSM.out, HR.out.mono (by simp; omega)⟩⟩
      case measure => simp [intOf]; omega
    · obtain rfl : k = 0 := by omega
      have HSM := Lib.hid hsm
      have S1 := Lib.hid S
      clear hsm HS S
      -- TAIL
      go_wp2_with fail
      refine (oddA B _ r 9 _ S1.out.rd (by omega) (by omega) (by omega)).mono ?_
      rintro e w2 ⟨b, rfl, hr2, hg2, hs2⟩
      have S2 := Lib.hid (S1.out.pick hr2 hg2 hrlt)
      clear hr2 hg2 hs2 S1
      cases b
      · have S3 := Lib.hid (S2.out.mono (show M + 1 + 7 * ps.length + 1 ≤ M + 80 by omega))
        clear S2
        have hlen : ps.length ≤ 10 := by omega
        go_wp2_with fail
        refine (oddA B _ r 12 _ S3.out.rd (by omega) (by omega) (by omega)).mono ?_
        rintro e w5 ⟨b2, rfl, hr5, hg5, hs5⟩
        have S5 := Lib.hid (S3.out.pick hr5 hg5 hrlt)
        clear hr5 hg5 hs5 S3
        cases b2
        · have HF := Lib.hid (S5.out.cloud (show M + 80 + 1 ≤ M + 100 by omega) (show ps.length ≤ 15 by omega) HSM.out)
          clear S5
          go_wp2
          go_ret
          exact HF.out
        · have HL5 : Hid (FiveL w B (M + 81) r ps.length 0 _ w5) := Lib.hid ⟨ps, by omega, HSM.out, S5.out⟩
          have hpl : ps.length ≤ 10 := hlen
          clear S5 HSM hlen
          go_wp2
          generalize ps.length = n0 at *
          go_loopw [5, 7] (fun v i wr => ∃ k : Nat, k ≤ 5 ∧ i = .int .i64 (k : Int) ∧ Hid (FiveL w B (M + 81) r n0 k v wr)) (fun _ i _ => 5 - (intOf i).toNat)
          case atStart => exact ⟨0, by omega, rfl, HL5⟩
          case round =>
            obtain ⟨k, hk5, rfl, HF⟩ := hrel
            clear HL5
            obtain ⟨ps, hps, hsm, S⟩ := HF.out
            replace hps := Lib.hid hps
            by_cases hlt5 : k < 5
            · have j1 : (k : Int) < 5 := by omega
              have HSM := Lib.hid (show SmP (ps ++ [(3 * (k : Int), 5 * (k : Int))]) from hsm.app ⟨⟨by simp; omega, by simp; omega⟩, by simp; omega, by simp; omega⟩)
              have S2 := Lib.hid (S.alloc (.cells #[.int .i64 (3 * (k : Int)), .int .i64 (5 * (k : Int))] 89))
              have HN := Lib.hid (two_new6 wr (.int .i64 (3 * (k : Int))) (.int .i64 (5 * (k : Int))) 89)
              have HP := Lib.hid (pvals_snoc6 ps (3 * (k : Int), 5 * (k : Int)))
              have HW := Lib.hid S2.out.gr.size
              have HLN := Lib.hid (show ps.length ≤ 15 by have := hps.out; omega)
              clear S hsm HF
              go_wp2_with (at_builtin; refine wpList_append_lies _ rfl (.tmp 40) (.tmp 46) 72 rfl w.heap.size 89 i0 (pt 0 0) 2 16 Tryd.underlying72 hi0 hz0 hz1 hz2 rfl (by decide) _ ps.length (pvals ps) rfl S2.out.row ⟨wr.heap.size, 0, none⟩ 1 1 [.int .i64 (3 * (k : Int)), .int .i64 (5 * (k : Int))] rfl rfl HN.out (by intro u hu; simp at hu; rcases hu with rfl | rfl <;> rfl) (by omega) (by have := HLN.out; unfold maxLen; omega) (by have := HLN.out; omega) HW.out _ rfl ?_; intro g cap6 w7 own7 grow7 at7 ltg7; have HA7 := Lib.hid (And.intro own7 grow7); clear own7 grow7 at7 ltg7)
              have HR := Lib.hid (S2.out.app (v' := .slice (some ⟨g, 0, none⟩) (ps.length + 1) cap6) (ps' := ps ++ [(3 * (k : Int), 5 * (k : Int))]) hrlt HBw.out (by have o := HA7.out.1; rw [← HP.out] at o; unfold OwnPt; rw [List.length_append]; exact o) HA7.out.2)
              clear HA7 S2
              go_roundw
              case rel => exact ⟨k + 1, by omega, by congr 1, Lib.hid ⟨ps ++ [(3 * (k : Int), 5 * (k : Int))], by have := hps.out; simp; omega, HSM.out, HR.out⟩⟩
              case measure => simp [intOf]; omega
            · obtain rfl : k = 5 := by omega
              obtain ⟨g, cap, rfl, hg1, hg2⟩ := S.row.at7 (by have := hps.out; omega)
              have hpp : ps.length = n0 + 5 := hps.out
              have e1 : (((n0 + 5 : Nat) : Int) - 5) = (n0 : Int) := by omega
              have e2 : max (0 : Int) (n0 : Int) = (n0 : Int) := by omega
              have e3 : (if (0 : Int) < (n0 : Int) then (n0 : Int) else 0) = (n0 : Int) := by split <;> omega
              have HPL := Lib.hid ((OwnPt.ints S.row).pl.sub (i := n0) (j := ps.length) (by omega) (Nat.le_refl _))
              have HF2 := Lib.hid (show SmP ((ps.take ps.length).drop n0) ∧ ((ps.take ps.length).drop n0).length ≤ 15 ∧ Rd B (M + 100) wr r ∧ w.grownBy wr (some r) from ⟨hsm.sub fun p hp => List.mem_of_mem_take (List.mem_of_mem_drop hp), by simp; omega, S.rd.mono (by omega), S.gr⟩)
              rw [hpp] at HPL HF2 hg2
              rw [hpp]
              rw [Nat.zero_add, Nat.add_sub_cancel_left] at HPL
              clear S hsm HF
              go_wp2
              all_goals
                first
                  | (go_ret
                     exact ⟨⟨some ⟨g, n0 * 2, none⟩, 5, cap - n0⟩, (ps.take (n0 + 5)).drop n0, rfl, HPL.out, HF2.out.2.1, HF2.out.1, HF2.out.2.2.1, HF2.out.2.2.2, by simp only; omega⟩)
                  | (obtain rfl : n0 = 0 := by omega
                     go_ret
                     exact ⟨⟨some ⟨g, 0, none⟩, 5, cap⟩, (ps.take (0 + 5)).drop 0, rfl, HPL.out, HF2.out.2.1, HF2.out.1, HF2.out.2.2.1, HF2.out.2.2.2, by simp only; omega⟩)
      · by_cases hz : ps.length = 0
        · have S3 := Lib.hid (S2.out.mono (show M + 1 + 7 * ps.length + 1 ≤ M + 80 by omega))
          clear S2
          obtain ⟨sl, rfl, hsl⟩ := S3.out.row.sl
          have hs0 : sl.len = 0 := by omega
          have g0 : ¬ (0 < (sl.len : Int)) := by omega
          clear hs0
          have hlen : ps.length ≤ 10 := by omega
          clear hz
          replace hsl := Lib.hid hsl
          go_wp2_with fail
          refine (oddA B _ r 12 _ S3.out.rd (by omega) (by omega) (by omega)).mono ?_
          rintro e w5 ⟨b2, rfl, hr5, hg5, hs5⟩
          have S5 := Lib.hid (S3.out.pick hr5 hg5 hrlt)
          clear hr5 hg5 hs5 S3
          cases b2
          · have HF := Lib.hid (S5.out.cloud (show M + 80 + 1 ≤ M + 100 by omega) (show ps.length ≤ 15 by omega) HSM.out)
            clear S5
            go_wp2
            go_ret
            exact HF.out
          · have HL5 : Hid (FiveL w B (M + 81) r ps.length 0 _ w5) := Lib.hid ⟨ps, by omega, HSM.out, S5.out⟩
            have hpl : ps.length ≤ 10 := hlen
            clear S5 HSM hlen
            go_wp2
            generalize ps.length = n0 at *
            go_loopw [5, 7] (fun v i wr => ∃ k : Nat, k ≤ 5 ∧ i = .int .i64 (k : Int) ∧ Hid (FiveL w B (M + 81) r n0 k v wr)) (fun _ i _ => 5 - (intOf i).toNat)
            case atStart => exact ⟨0, by omega, rfl, HL5⟩
            case round =>
              obtain ⟨k, hk5, rfl, HF⟩ := hrel
              clear HL5
              obtain ⟨ps, hps, hsm, S⟩ := HF.out
              replace hps := Lib.hid hps
              by_cases hlt5 : k < 5
              · have j1 : (k : Int) < 5 := by omega
                have HSM := Lib.hid (show SmP (ps ++ [(3 * (k : Int), 5 * (k : Int))]) from hsm.app ⟨⟨by simp; omega, by simp; omega⟩, by simp; omega, by simp; omega⟩)
                have S2 := Lib.hid (S.alloc (.cells #[.int .i64 (3 * (k : Int)), .int .i64 (5 * (k : Int))] 89))
                have HN := Lib.hid (two_new6 wr (.int .i64 (3 * (k : Int))) (.int .i64 (5 * (k : Int))) 89)
                have HP := Lib.hid (pvals_snoc6 ps (3 * (k : Int), 5 * (k : Int)))
                have HW := Lib.hid S2.out.gr.size
                have HLN := Lib.hid (show ps.length ≤ 15 by have := hps.out; omega)
                clear S hsm HF
                go_wp2_with (at_builtin; refine wpList_append_lies _ rfl (.tmp 40) (.tmp 46) 72 rfl w.heap.size 89 i0 (pt 0 0) 2 16 Tryd.underlying72 hi0 hz0 hz1 hz2 rfl (by decide) _ ps.length (pvals ps) rfl S2.out.row ⟨wr.heap.size, 0, none⟩ 1 1 [.int .i64 (3 * (k : Int)), .int .i64 (5 * (k : Int))] rfl rfl HN.out (by intro u hu; simp at hu; rcases hu with rfl | rfl <;> rfl) (by omega) (by have := HLN.out; unfold maxLen; omega) (by have := HLN.out; omega) HW.out _ rfl ?_; intro g cap6 w7 own7 grow7 at7 ltg7; have HA7 := Lib.hid (And.intro own7 grow7); clear own7 grow7 at7 ltg7)
                have HR := Lib.hid (S2.out.app (v' := .slice (some ⟨g, 0, none⟩) (ps.length + 1) cap6) (ps' := ps ++ [(3 * (k : Int), 5 * (k : Int))]) hrlt HBw.out (by have o := HA7.out.1; rw [← HP.out] at o; unfold OwnPt; rw [List.length_append]; exact o) HA7.out.2)
                clear HA7 S2
                go_roundw
                case rel => exact ⟨k + 1, by omega, by congr 1, Lib.hid ⟨ps ++ [(3 * (k : Int), 5 * (k : Int))], by have := hps.out; simp; omega, HSM.out, HR.out⟩⟩
                case measure => simp [intOf]; omega
              · obtain rfl : k = 5 := by omega
                obtain ⟨g, cap, rfl, hg1, hg2⟩ := S.row.at7 (by have := hps.out; omega)
                have hpp : ps.length = n0 + 5 := hps.out
                have e1 : (((n0 + 5 : Nat) : Int) - 5) = (n0 : Int) := by omega
                have e2 : max (0 : Int) (n0 : Int) = (n0 : Int) := by omega
                have e3 : (if (0 : Int) < (n0 : Int) then (n0 : Int) else 0) = (n0 : Int) := by split <;> omega
                have HPL := Lib.hid ((OwnPt.ints S.row).pl.sub (i := n0) (j := ps.length) (by omega) (Nat.le_refl _))
                have HF2 := Lib.hid (show SmP ((ps.take ps.length).drop n0) ∧ ((ps.take ps.length).drop n0).length ≤ 15 ∧ Rd B (M + 100) wr r ∧ w.grownBy wr (some r) from ⟨hsm.sub fun p hp => List.mem_of_mem_take (List.mem_of_mem_drop hp), by simp; omega, S.rd.mono (by omega), S.gr⟩)
                rw [hpp] at HPL HF2 hg2
                rw [hpp]
                rw [Nat.zero_add, Nat.add_sub_cancel_left] at HPL
                clear S hsm HF
                go_wp2
                all_goals
                  first
                    | (go_ret
                       exact ⟨⟨some ⟨g, n0 * 2, none⟩, 5, cap - n0⟩, (ps.take (n0 + 5)).drop n0, rfl, HPL.out, HF2.out.2.1, HF2.out.1, HF2.out.2.2.1, HF2.out.2.2.2, by simp only; omega⟩)
                    | (obtain rfl : n0 = 0 := by omega
                       go_ret
                       exact ⟨⟨some ⟨g, 0, none⟩, 5, cap⟩, (ps.take (0 + 5)).drop 0, rfl, HPL.out, HF2.out.2.1, HF2.out.1, HF2.out.2.2.1, HF2.out.2.2.2, by simp only; omega⟩)
        · obtain ⟨g0, cap0, rfl, hg1, hg2⟩ := S2.out.row.at7 (by omega)
          have d0 := World.ownsRow.cellAt S2.out.row 0 (by omega)
          have d2 := World.ownsRow.cellAt S2.out.row 1 (by omega)
          rw [pvals_at _ _ (by omega)] at d0 d2
          have n0 : (0 : Int) < (ps.length : Int) := by omega
          have n1 : 0 < ps.length := by omega
          have hcs := HSM.out.cor 0
          obtain ⟨x, y, hxy⟩ : ∃ x y, cor ps 0 = (x, y) := ⟨_, _, rfl⟩
          have hx : cz ps 0 = x := by unfold cz; have : ps.getD (0 / 2) (0, 0) = (x, y) := hxy; rw [this]; rfl
          have hy : cz ps 1 = y := by unfold cz; have : ps.getD (1 / 2) (0, 0) = (x, y) := hxy; rw [this]; rfl
          rw [hx] at d0
          rw [hy] at d2
          rw [hxy] at hcs
          have HSM2 := Lib.hid (show SmP (ps ++ [(x, y)]) from HSM.out.app hcs)
          have S4 := Lib.hid (S2.out.alloc (.cells #[.int .i64 x, .int .i64 y] 89))
          have HN := Lib.hid (two_new6 w2 (.int .i64 x) (.int .i64 y) 89)
          have HP := Lib.hid (pvals_snoc6 ps (x, y))
          have HW := Lib.hid S4.out.gr.size
          have HLN := Lib.hid (show ps.length ≤ 15 by omega)
          clear S2 HSM hxy hx hy hcs hz
          go_upto_region 8 with (at_builtin; refine wpList_append_lies _ rfl (.tmp 28) (.tmp 32) 72 rfl w.heap.size 89 i0 (pt 0 0) 2 16 Tryd.underlying72 hi0 hz0 hz1 hz2 rfl (by decide) _ ps.length (pvals ps) rfl S4.out.row ⟨w2.heap.size, 0, none⟩ 1 1 [.int .i64 x, .int .i64 y] rfl rfl HN.out (by intro u hu; simp at hu; rcases hu with rfl | rfl <;> rfl) (by omega) (by have := HLN.out; unfold maxLen; omega) (by have := HLN.out; omega) HW.out _ rfl ?_; intro g cap6 w7 own7 grow7 at7 ltg7; have HA7 := Lib.hid (And.intro own7 grow7); clear own7 grow7 at7 ltg7)
          have S3 := Lib.hid ((S4.out.app (v' := .slice (some ⟨g, 0, none⟩) (ps.length + 1) cap6) (ps' := ps ++ [(x, y)]) hrlt HBw.out (by have o := HA7.out.1; rw [← HP.out] at o; unfold OwnPt; rw [List.length_append]; exact o) HA7.out.2).mono (show M + 1 + 7 * ps.length + 1 ≤ M + 80 by omega))
          have HSM := HSM2
          have hlen2 : (ps ++ [(x, y)]).length ≤ 10 := by simp; omega
          have hpe : ps.length + 1 = (ps ++ [(x, y)]).length := by simp
          rw [hpe] at S3 ⊢
          clear HA7 S4 HN HP HW d0 d2 HSM2 n0 n1 hg1 hg2 hps hlen hpe
          generalize ps ++ [(x, y)] = ps at *
          have hlen := hlen2
          clear hlen2
          go_wp2_with fail
          refine (oddA B _ r 12 _ S3.out.rd (by omega) (by omega) (by omega)).mono ?_
          rintro e w5 ⟨b2, rfl, hr5, hg5, hs5⟩
          have S5 := Lib.hid (S3.out.pick hr5 hg5 hrlt)
          clear hr5 hg5 hs5 S3
          cases b2
          · have HF := Lib.hid (S5.out.cloud (show M + 80 + 1 ≤ M + 100 by omega) (show ps.length ≤ 15 by omega) HSM.out)
            clear S5
            go_wp2
            go_ret
            exact HF.out
          · have HL5 : Hid (FiveL w B (M + 81) r ps.length 0 _ w5) := Lib.hid ⟨ps, by omega, HSM.out, S5.out⟩
            have hpl : ps.length ≤ 10 := hlen
            clear S5 HSM hlen
            go_wp2
            generalize ps.length = n0 at *
            go_loopw [5, 7] (fun v i wr => ∃ k : Nat, k ≤ 5 ∧ i = .int .i64 (k : Int) ∧ Hid (FiveL w B (M + 81) r n0 k v wr)) (fun _ i _ => 5 - (intOf i).toNat)
            case atStart => exact ⟨0, by omega, rfl, HL5⟩
            case round =>
              obtain ⟨k, hk5, rfl, HF⟩ := hrel
              clear HL5
              obtain ⟨ps, hps, hsm, S⟩ := HF.out
              replace hps := Lib.hid hps
              by_cases hlt5 : k < 5
              · have j1 : (k : Int) < 5 := by omega
                have HSM := Lib.hid (show SmP (ps ++ [(3 * (k : Int), 5 * (k : Int))]) from hsm.app ⟨⟨by simp; omega, by simp; omega⟩, by simp; omega, by simp; omega⟩)
                have S2 := Lib.hid (S.alloc (.cells #[.int .i64 (3 * (k : Int)), .int .i64 (5 * (k : Int))] 89))
                have HN := Lib.hid (two_new6 wr (.int .i64 (3 * (k : Int))) (.int .i64 (5 * (k : Int))) 89)
                have HP := Lib.hid (pvals_snoc6 ps (3 * (k : Int), 5 * (k : Int)))
                have HW := Lib.hid S2.out.gr.size
                have HLN := Lib.hid (show ps.length ≤ 15 by have := hps.out; omega)
                clear S hsm HF
                go_wp2_with (at_builtin; refine wpList_append_lies _ rfl (.tmp 40) (.tmp 46) 72 rfl w.heap.size 89 i0 (pt 0 0) 2 16 Tryd.underlying72 hi0 hz0 hz1 hz2 rfl (by decide) _ ps.length (pvals ps) rfl S2.out.row ⟨wr.heap.size, 0, none⟩ 1 1 [.int .i64 (3 * (k : Int)), .int .i64 (5 * (k : Int))] rfl rfl HN.out (by intro u hu; simp at hu; rcases hu with rfl | rfl <;> rfl) (by omega) (by have := HLN.out; unfold maxLen; omega) (by have := HLN.out; omega) HW.out _ rfl ?_; intro g cap6 w7 own7 grow7 at7 ltg7; have HA7 := Lib.hid (And.intro own7 grow7); clear own7 grow7 at7 ltg7)
                have HR := Lib.hid (S2.out.app (v' := .slice (some ⟨g, 0, none⟩) (ps.length + 1) cap6) (ps' := ps ++ [(3 * (k : Int), 5 * (k : Int))]) hrlt HBw.out (by have o := HA7.out.1; rw [← HP.out] at o; unfold OwnPt; rw [List.length_append]; exact o) HA7.out.2)
                clear HA7 S2
                go_roundw
                case rel => exact ⟨k + 1, by omega, by congr 1, Lib.hid ⟨ps ++ [(3 * (k : Int), 5 * (k : Int))], by have := hps.out; simp; omega, HSM.out, HR.out⟩⟩
                case measure => simp [intOf]; omega
              · obtain rfl : k = 5 := by omega
                obtain ⟨g, cap, rfl, hg1, hg2⟩ := S.row.at7 (by have := hps.out; omega)
                have hpp : ps.length = n0 + 5 := hps.out
                have e1 : (((n0 + 5 : Nat) : Int) - 5) = (n0 : Int) := by omega
                have e2 : max (0 : Int) (n0 : Int) = (n0 : Int) := by omega
                have e3 : (if (0 : Int) < (n0 : Int) then (n0 : Int) else 0) = (n0 : Int) := by split <;> omega
                have HPL := Lib.hid ((OwnPt.ints S.row).pl.sub (i := n0) (j := ps.length) (by omega) (Nat.le_refl _))
                have HF2 := Lib.hid (show SmP ((ps.take ps.length).drop n0) ∧ ((ps.take ps.length).drop n0).length ≤ 15 ∧ Rd B (M + 100) wr r ∧ w.grownBy wr (some r) from ⟨hsm.sub fun p hp => List.mem_of_mem_take (List.mem_of_mem_drop hp), by simp; omega, S.rd.mono (by omega), S.gr⟩)
                rw [hpp] at HPL HF2 hg2
                rw [hpp]
                rw [Nat.zero_add, Nat.add_sub_cancel_left] at HPL
                clear S hsm HF
                go_wp2
                all_goals
                  first
                    | (go_ret
                       exact ⟨⟨some ⟨g, n0 * 2, none⟩, 5, cap - n0⟩, (ps.take (n0 + 5)).drop n0, rfl, HPL.out, HF2.out.2.1, HF2.out.1, HF2.out.2.2.1, HF2.out.2.2.2, by simp only; omega⟩)
                    | (obtain rfl : n0 = 0 := by omega
                       go_ret
                       exact ⟨⟨some ⟨g, 0, none⟩, 5, cap⟩, (ps.take (0 + 5)).drop 0, rfl, HPL.out, HF2.out.2.1, HF2.out.1, HF2.out.2.2.1, HF2.out.2.2.2, by simp only; omega⟩)
end Go.Proofs.YtkogoflcacameaaDoor
