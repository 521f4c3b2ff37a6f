/- Drawing a list of pairs from a code. -/
import Derived.Test.YtppkipcgpmijpaaLt16
import Derived.Test.YtppkipcgpmijpaaZbDr
namespace Go.Proofs.Ytppkipcgpmijpaa.Prr
set_option maxRecDepth 100000
open Go.RowKit
attribute [local go_sem ↓] Go.wp_at_zero Go.wp_at_succ
/-- What the loop that draws a list holds: k pairs are still to come. -/
def LoopI (w0 : World) (B M r N k : Nat) (v : Value) (wr : World) : Prop := ∃ ps : List (Int × Int), ps.length + k = N ∧ SmP ps ∧ LSt w0 B (M + 2 * ps.length) r wr v ps
theorem SmP.fst {ps : List (Int × Int)} (h : SmP ps) (k : Nat) {x : Int} (h1 : -50 ≤ x) (h2 : x ≤ 1001) : SmP (ps.set k (x, (ps.getD k (0, 0)).2)) := by
  obtain ⟨_, h3, h4⟩ := h.at k
  exact h.set k h1 h2 h3 h4
theorem SmP.snd {ps : List (Int × Int)} (h : SmP ps) (k : Nat) {y : Int} (h1 : -170 ≤ y) (h2 : y ≤ 900) : SmP (ps.set k ((ps.getD k (0, 0)).1, y)) := by
  obtain ⟨⟨h3, h4⟩, _, _⟩ := h.at k
  exact h.set k h3 h4 h1 h2
theorem pvals_fst (ps : List (Int × Int)) (k : Nat) (x : Int) (hk : k < ps.length) : (pvals ps).set (k * 2) (.int .i64 x) = pvals (ps.set k (x, (ps.getD k (0, 0)).2)) := by
  apply List.ext_getElem?
  intro j
  by_cases hj : j < ps.length * 2
  · rw [pvals_at (ps.set k _) j (by rw [List.length_set]; exact hj), cz_set ps k x _ hk, List.getElem?_set, pvals_len]
    by_cases h0 : j = k * 2
    · subst h0; rw [if_pos rfl, if_pos hj, if_pos rfl]
    · rw [if_neg (fun e => h0 e.symm), if_neg h0, pvals_at ps j hj]
      by_cases h1 : j = k * 2 + 1
      · subst h1; rw [if_pos rfl, cz1]
      · rw [if_neg h1]
  · rw [List.getElem?_eq_none (by simp [pvals_len]; omega), List.getElem?_eq_none (by simp [pvals_len]; omega)]
theorem pvals_snd (ps : List (Int × Int)) (k : Nat) (y : Int) (hk : k < ps.length) : (pvals ps).set (k * 2 + 1) (.int .i64 y) = pvals (ps.set k ((ps.getD k (0, 0)).1, y)) := by
  apply List.ext_getElem?
  intro j
  by_cases hj : j < ps.length * 2
  · rw [pvals_at (ps.set k _) j (by rw [List.length_set]; exact hj), cz_set ps k _ y hk, List.getElem?_set, pvals_len]
    by_cases h0 : j = k * 2
    · subst h0; rw [if_neg (by omega), if_pos rfl, pvals_at ps _ hj, cz0]
    · by_cases h1 : j = k * 2 + 1
      · subst h1; rw [if_pos rfl, if_pos hj, if_neg h0, if_pos rfl]
      · rw [if_neg (fun e => h1 e.symm), if_neg h0, if_neg h1, pvals_at ps j hj]
  · rw [List.getElem?_eq_none (by simp [pvals_len]; omega), List.getElem?_eq_none (by simp [pvals_len]; omega)]
theorem two_new16 (w : World) (a b : Value) (t : Nat) : ∀ (j : Nat) u, [a, b][j]? = some u → (w.alloc (.cells #[a, b] t)).cell? ((⟨w.heap.size, 0, none⟩ : Addr).add j) = some u := by
  intro j u hu
  have hj : j = 0 ∨ j = 1 := by
    have := (List.getElem?_eq_some_iff.1 hu).1
    simp at this; omega
  rcases hj with rfl | rfl
  · simp at hu; subst hu; simp [Addr.add]
  · simp at hu; subst hu; simp [Addr.add]
section
variable {w0 u : World} {B M r : Nat} {ps : List (Int × Int)}
theorem LSt.len {g n cap : Nat} (h : LSt w0 B M r u (.slice (some ⟨g, 0, none⟩) n cap) ps) : n = ps.length := by
  rcases h.row.2 with ⟨hv, _⟩ | ⟨_, _, _, hv, _⟩
  · cases hv
  · simp only [Value.slice.injEq] at hv; exact hv.2.1
theorem LSt.put0 {g n cap k : Nat} (h : LSt w0 B M r u (.slice (some ⟨g, 0, none⟩) n cap) ps) (hlt : r < w0.heap.size) (hB : B ≤ w0.heap.size) (hk : k < ps.length) (x : Int) :
    LSt w0 B M r (u.setCell ⟨g, k * 2, none⟩ (.int .i64 x)) (.slice (some ⟨g, 0, none⟩) n cap) (ps.set k (x, (ps.getD k (0, 0)).2)) := by
  obtain rfl := h.len
  have s1 := World.ownsRow.stored h.row (k * 2) (.int .i64 x)
  refine h.app hlt hB ?_ s1.2
  have o := s1.1
  rw [pvals_fst ps k x hk] at o
  unfold OwnPt
  rw [List.length_set]
  exact o
theorem LSt.put1 {g n cap k : Nat} (h : LSt w0 B M r u (.slice (some ⟨g, 0, none⟩) n cap) ps) (hlt : r < w0.heap.size) (hB : B ≤ w0.heap.size) (hk : k < ps.length) (y : Int) :
    LSt w0 B M r (u.setCell ⟨g, k * 2 + 1, none⟩ (.int .i64 y)) (.slice (some ⟨g, 0, none⟩) n cap) (ps.set k ((ps.getD k (0, 0)).1, y)) := by
  obtain rfl := h.len
  have s1 := World.ownsRow.stored h.row (k * 2 + 1) (.int .i64 y)
  refine h.app hlt hB ?_ s1.2
  have o := s1.1
  rw [pvals_snd ps k y hk] at o
  unfold OwnPt
  rw [List.length_set]
  exact o
end
theorem SmP.zeros (n : Nat) : SmP (List.replicate n (0, 0)) := fun p hp => by rw [List.eq_of_mem_replicate hp]; simp
theorem pvals_zeros (n : Nat) : (madeCells (pt 0 0).cells (n * 2)).toList = pvals (List.replicate n (0, 0)) := by
  apply List.ext_getElem?
  intro j
  by_cases hj : j < n * 2
  · rw [pvals_at _ j (by simpa using hj)]
    have e : cz (List.replicate n ((0 : Int), (0 : Int))) j = 0 := by
      unfold cz
      rw [List.getD_eq_getElem?_getD, List.getElem?_replicate_of_lt (by omega)]
      simp
    rw [e]
    have h2 : j % 2 = 0 ∨ j % 2 = 1 := by omega
    have ec : (pt 0 0).cells = #[.int .i64 0, .int .i64 0] := rfl
    rcases h2 with h2 | h2 <;> simp [madeCells, hj, h2, ec]
  · rw [List.getElem?_eq_none (by simp [madeCells]; omega), List.getElem?_eq_none (by simp [pvals_len]; omega)]
theorem LSt.fresh {w0 u : World} {B M r : Nat} (hr : Rd B M u r) (hg : w0.grownBy u (some r)) (T : TypeId) (hT : T = 27) : LSt w0 B M r (u.alloc (.cells #[] T)) (.slice (some ⟨u.heap.size, 0, none⟩) 0 0) [] :=
  LSt.new hr hg hg.size T hT
theorem LSt.made {w0 u u' : World} {B M r n : Nat} (hr : Rd B M u r) (hg : w0.grownBy u (some r)) (own : u'.ownsRow w0.heap.size 27 2 (.slice (some ⟨u.heap.size, 0, none⟩) n n) n (madeCells (pt 0 0).cells (n * 2)).toList) (grow : u.grownBy u' none) :
    LSt w0 B M r u' (.slice (some ⟨u.heap.size, 0, none⟩) n n) (List.replicate n (0, 0)) :=
  ⟨hr.kept grow (by simp) (fun k hk => by cases hk), only_row hg grow (fun k hk => by cases hk), by
    rw [pvals_zeros] at own
    unfold OwnPt
    rw [List.length_replicate]
    exact own⟩
set_option maxHeartbeats 16000000 in
theorem l20Pairs (B M r : Nat) (n : Int) (w : World) (hr : Rd B M w r) (hM : M ≤ 800000) (h0 : 0 < n) (h1 : n ≤ 1000000) :
    Calls Try.prog 35 #[.pointer (some ⟨r, 0, none⟩), .int .i64 n] w (DrawnL B (M + 40) r 21 w) := by
  obtain ⟨i0, hi0, hz0, hz1, hz2⟩ := info_parts infoPt6
  have hrlt := hr.lt
  have hrge := hr.ge
  have HBw := Lib.hid (show B ≤ w.heap.size by omega)
  have HNN := Lib.hid (And.intro h0 h1)
  have S0 := LSt.new hr (World.grownBy.refl w (some r)) (Nat.le_refl _) 27 rfl
  clear h0 h1
  go_enter Try.func35, Try.ntmps35
  go_wp2_with fail
  refine (pick B M r 40 _ S0.rd (by omega)).mono ?_
  rintro e w1 ⟨x1, a1, b1, rfl, hr1, hg1, hs1⟩
  have c1 := b1 (by omega)
  have S1 := S0.pick hr1 hg1 hrlt
  obtain ⟨o, ho⟩ : ∃ o, x1 - 20 = o := ⟨_, rfl⟩
  have oo : IntKind.i64.wrap (x1 - 20) = o := by rw [ho]; exact wrap_in (by omega) (by omega)
  have bo : -20 ≤ o ∧ o ≤ 19 := by omega
  clear b1 hr1 hg1 hs1 S0 hr ho
  go_wp2_with fail
  refine (pick B _ r 20 _ S1.rd (by omega)).mono ?_
  rintro e w2 ⟨x2, a2, b2, rfl, hr2, hg2, hs2⟩
  have c2 := b2 (by omega)
  have S2 := S1.pick hr2 hg2 hrlt
  obtain ⟨z, hz⟩ : ∃ z, 1 + x2 = z := ⟨_, rfl⟩
  have oz : IntKind.i64.wrap (1 + x2) = z := by rw [hz]; exact wrap_in (by omega) (by omega)
  have bz : 1 ≤ z ∧ z ≤ 20 := by omega
  clear b2 hr2 hg2 hs2 S1 hz oo a1 c1
  go_wp2_with fail
  refine (pick B _ r 3 _ S2.rd (by omega)).mono ?_
  rintro e w3 ⟨x3, a3, b3, rfl, hr3, hg3, hs3⟩
  have c3 := b3 (by omega)
  have S3 := S2.pick hr3 hg3 hrlt
  obtain ⟨s, hs⟩ : ∃ s, 1 + x3 = s := ⟨_, rfl⟩
  have os : IntKind.i64.wrap (1 + x3) = s := by rw [hs]; exact wrap_in (by omega) (by omega)
  have bs : 1 ≤ s ∧ s ≤ 3 := by omega
  clear b3 hr3 hg3 hs3 S2 hs oz a2 c2
  go_wp2_with fail
  refine (pick B _ r 8 _ S3.rd (by omega)).mono ?_
  rintro e w4 ⟨x4, a4, b4, rfl, hr4, hg4, hs4⟩
  have c4 := b4 (by omega)
  have S4 := Lib.hid (S3.pick hr4 hg4 hrlt)
  obtain ⟨q, hq⟩ : ∃ q : Nat, 1 + x4 = (q : Int) := ⟨(1 + x4).toNat, by omega⟩
  have oq : IntKind.i64.wrap (1 + x4) = (q : Int) := by rw [hq]; exact wrap_in (by omega) (by omega)
  have bq : 1 ≤ q ∧ q ≤ 8 := by omega
  clear b4 hr4 hg4 hs4 S3 hq os a3 c3 a4 c4
  have HL : Hid (LoopI w B (M + 4) r q q (.slice (some ⟨w.heap.size, 0, none⟩) 0 0) w4) := Lib.hid ⟨[], by simp, SmP.nil, S4.out⟩
  clear S4
  have HBO := Lib.hid bo
  have HBZ := Lib.hid bz
  have HBS := Lib.hid bs
  have HBQ := Lib.hid bq
  clear bo bz bs bq
  go_wp2
  go_loopw [5, 9] (fun v i wr => ∃ k : Nat, k ≤ q ∧ i = .int .i64 (k : Int) ∧ Hid (LoopI w B (M + 4) r q k v wr)) (fun _ i _ => (intOf i).toNat)
  case atStart => exact ⟨q, Nat.le_refl _, rfl, HL⟩
  case round =>
    obtain ⟨k, hk, rfl, HS⟩ := hrel
    clear HL oq
    obtain ⟨ps, hps, hsm, S⟩ := HS.out
    have hlen : ps.length ≤ 8 := by have := HBQ.out; omega
    have hk8 : k ≤ 8 := by have := HBQ.out; omega
    by_cases hlt : 0 < k
    · have j1 : (0 : Int) < (k : Int) := by omega
      go_wp2_with fail
      refine (pick B _ r 100 _ S.rd (by omega)).mono ?_
      rintro e w5 ⟨x, p1, p2, rfl, hr5, hg5, hs5⟩
      have p2 := p2 (by omega)
      have SA := S.pick hr5 hg5 hrlt
      obtain ⟨x', hx'⟩ : ∃ x', x - 50 = x' := ⟨_, rfl⟩
      have o1 : IntKind.i64.wrap (x - 50) = x' := by rw [hx']; exact wrap_in (by omega) (by omega)
      have bx : -50 ≤ x' ∧ x' ≤ 49 := by omega
      obtain ⟨m, hm⟩ : ∃ m, s * x' = m := ⟨_, rfl⟩
      have bm : -150 ≤ m ∧ m ≤ 147 := by
        have hs := HBS.out
        rw [← hm]
        rcases (show s = 1 ∨ s = 2 ∨ s = 3 by omega) with rfl | rfl | rfl <;> omega
      have o2 : IntKind.i64.wrap (s * x') = m := by rw [hm]; exact wrap_in (by omega) (by omega)
      have hbo := HBO.out
      have o3 : IntKind.i64.wrap (m + o) = m + o := wrap_in (by omega) (by omega)
      have z1 := HBZ.out
      clear hr5 hg5 hs5 hx' hm p1 p2
      go_wp2_with fail
      refine (pick B _ r z _ SA.rd (by omega)).mono ?_
      rintro e w6 ⟨y, p3, p4, rfl, hr6, hg6, hs6⟩
      have p4 := p4 (by omega)
      obtain ⟨y', hy'⟩ : ∃ y', m + o + y = y' := ⟨_, rfl⟩
      have o4 : IntKind.i64.wrap (m + o + y) = y' := by rw [hy']; exact wrap_in (by omega) (by omega)
      have S2 := Lib.hid ((SA.pick hr6 hg6 hrlt).alloc (.cells #[.int .i64 x', .int .i64 y'] 27))
      have HSM := Lib.hid (hsm.snoc (x := x') (y := y') (by omega) (by omega) (by omega) (by omega))
      have HN := Lib.hid (two_new16 w6 (.int .i64 x') (.int .i64 y') 27)
      have HP := Lib.hid (pvals_snoc6 ps (x', y'))
      have HW := Lib.hid S2.out.gr.size
      clear hr6 hg6 hs6 SA S hsm HS p3 p4 hy' bx bm hbo z1
      go_wp2_with (at_builtin; refine wpList_append_lies _ rfl (.tmp 31) (.tmp 43) 23 rfl w.heap.size 27 i0 (pt 0 0) 2 16 Try.underlying23 hi0 hz0 hz1 hz2 rfl (by decide) _ ps.length (pvals ps) rfl S2.out.row ⟨w6.heap.size, 0, none⟩ 1 1 [.int .i64 x', .int .i64 y'] rfl rfl HN.out (by intro u hu; simp at hu; rcases hu with rfl | rfl <;> rfl) (by omega) (by unfold maxLen; omega) (by omega) HW.out _ rfl ?_; intro g cap6 w7 own7 grow7 at7 ltg7; have HA7 := Lib.hid (And.intro own7 grow7); clear own7 grow7 at7 ltg7)
      have HR := Lib.hid (S2.out.app (v' := .slice (some ⟨g, 0, none⟩) (ps.length + 1) cap6) (ps' := ps ++ [(x', y')]) hrlt HBw.out (by have o := HA7.out.1; rw [← HP.out] at o; unfold OwnPt; rw [List.length_append]; exact o) HA7.out.2)
      clear HA7 S2
      go_roundw
      case rel => exact ⟨k - 1, by omega, by congr 1; omega, Lib.hid ⟨ps ++ [(x', y')], by simp; omega, HSM.out, HR.out.mono (by simp; omega)⟩⟩
      case measure => simp [intOf]; omega
    · obtain rfl : k = 0 := by omega
      have HSM := Lib.hid hsm
      have S1 := Lib.hid (S.mono (show M + 4 + 2 * ps.length ≤ M + 20 by omega))
      have hq1 : 1 ≤ ps.length := by have := HBQ.out; omega
      clear hsm HS S
      obtain ⟨g, cap, rfl, hg1, hg2⟩ := S1.out.row.at7 hq1
      go_wp2_with fail
      refine (oddA B _ r n _ S1.out.rd (by omega) HNN.out.1 HNN.out.2).mono ?_
      rintro e w5 ⟨b, rfl, hr5, hg5, hs5⟩
      have S2 := Lib.hid (S1.out.pick hr5 hg5 hrlt)
      clear hr5 hg5 hs5 S1
      cases b
      · have HF := Lib.hid (S2.out.drawn (show M + 20 + 1 ≤ M + 40 by omega) (show ps.length ≤ 21 by omega) HSM.out)
        clear S2
        go_wp2
        go_ret
        exact HF.out
      go_wp2_with fail
      refine (pick B _ r 3 _ S2.out.rd (by omega)).mono ?_
      rintro e w6 ⟨x6, a6, b6, rfl, hr6, hg6, hs6⟩
      have c6 := b6 (by omega)
      have S3 := Lib.hid (S2.out.pick hr6 hg6 hrlt)
      clear b6 hr6 hg6 hs6 S2
      have hx : x6 = 0 ∨ x6 = 1 ∨ x6 = 2 := by omega
      clear a6 c6
      rcases hx with rfl | rfl | rfl
      · have HF := Lib.hid ((LSt.fresh (B := B) S3.out.rd S3.out.gr 27 rfl).drawn (N := 21) (show M + 20 + 1 + 1 ≤ M + 40 by omega) (by simp) SmP.nil)
        clear S3
        go_wp2
        go_ret
        exact HF.out
      · have d2 := World.ownsRow.cellAt S3.out.row 0 (by omega)
        have d3 := World.ownsRow.frozenAt S3.out.row 0
        rw [pvals_at ps _ (by omega)] at d2
        have e0 : (0 : Int) < (ps.length : Int) := by omega
        have S4 := Lib.hid (S3.out.put0 hrlt HBw.out (k := 0) (by omega) 1001)
        have HF := Lib.hid (S4.out.drawn (N := 21) (show M + 20 + 1 + 1 ≤ M + 40 by omega) (by rw [List.length_set]; omega) (HSM.out.fst 0 (by omega) (by omega)))
        clear S3 S4
        go_wp2
        go_ret
        exact HF.out
      · have HWZ := Lib.hid S3.out.gr.size
        go_wp2_with (at_make; refine wpList_make_full _ rfl _ _ 23 rfl w.heap.size 27 i0 (pt 0 0) 2 Try.underlying23 hi0 hz0 hz1 .i64 .i64 _ _ 21 rfl rfl rfl rfl (by rw [hz2]; omega) (by unfold maxLen; omega) HWZ.out ?_; intro w7 own7 grow7; have HA7 := Lib.hid (And.intro own7 grow7); clear own7 grow7)
        have HF := Lib.hid ((LSt.made S3.out.rd S3.out.gr HA7.out.1 HA7.out.2).drawn (N := 21) (show M + 20 + 1 + 1 ≤ M + 40 by omega) (by simp) (SmP.zeros 21))
        clear S3 HA7
        go_wp2
        go_ret
        exact HF.out
end Go.Proofs.Ytppkipcgpmijpaa.Prr
