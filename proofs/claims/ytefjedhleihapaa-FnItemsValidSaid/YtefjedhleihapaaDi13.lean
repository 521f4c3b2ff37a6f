/- Drawing a list of items from a code. -/
import Derived.Test.YtefjedhleihapaaLt13
import Derived.Test.YtefjedhleihapaaZbDr
namespace Go.Proofs.Ytefjedhleihapaa.Itm
set_option maxRecDepth 100000
open Go.RowKit
attribute [local go_sem ↓] Go.wp_at_zero Go.wp_at_succ
/-- What the loop that draws a list holds: k items are still to come. -/
def LoopI (w0 : World) (B M r N k : Nat) (v : Value) (wr : World) : Prop := ∃ ps : List (Int × Int), ps.length + k = N ∧ SmP ps ∧ LSt w0 B (M + 2 * ps.length) r wr v ps
/-- What the loop that doubles a list holds. -/
def LoopD (w0 : World) (B M r : Nat) (v : Value) (wr : World) : Prop := ∃ ps : List (Int × Int), 1 ≤ ps.length ∧ ps.length ≤ 16 ∧ SmP ps ∧ LSt w0 B M r wr v ps
/-- A slice's length. -/
def slLen : Value → Nat
  | .slice _ n _ => n
  | _ => 0
theorem SmP.twice {ps : List (Int × Int)} (h : SmP ps) : SmP (ps ++ ps) := fun p hp => by
  rcases List.mem_append.1 hp with k | k <;> exact h p k
theorem SmP.fst {ps : List (Int × Int)} (h : SmP ps) (k : Nat) {x : Int} (h1 : -10001 ≤ x) (h2 : x ≤ 10001) : SmP (ps.set k (x, (ps.getD k (0, 0)).2)) := by
  obtain ⟨_, h3, h4⟩ := h.at k
  exact h.set k h1 h2 h3 h4
theorem SmP.snd {ps : List (Int × Int)} (h : SmP ps) (k : Nat) {y : Int} (h1 : -10001 ≤ y) (h2 : y ≤ 10001) : SmP (ps.set k ((ps.getD k (0, 0)).1, y)) := by
  obtain ⟨⟨h3, h4⟩, _, _⟩ := h.at k
  exact h.set k h3 h4 h1 h2
theorem pvals_app (ps qs : List (Int × Int)) : pvals (ps ++ qs) = pvals ps ++ pvals qs := by
  apply List.ext_getElem?
  intro j
  by_cases hj : j < ps.length * 2
  · rw [List.getElem?_append_left (by rw [pvals_len]; exact hj), pvals_at ps j hj, pvals_at _ j (by rw [List.length_append]; omega)]
    congr 2
    unfold cz
    rw [List.getD_eq_getElem?_getD, List.getD_eq_getElem?_getD, List.getElem?_append_left (by omega)]
  · rw [List.getElem?_append_right (by rw [pvals_len]; omega), pvals_len]
    by_cases hk : j < (ps ++ qs).length * 2
    · rw [List.length_append] at hk
      rw [pvals_at _ j (by rw [List.length_append]; exact hk), pvals_at qs _ (by omega)]
      congr 2
      unfold cz
      rw [List.getD_eq_getElem?_getD, List.getD_eq_getElem?_getD, List.getElem?_append_right (by omega), show (j - ps.length * 2) % 2 = j % 2 by omega, show (j - ps.length * 2) / 2 = j / 2 - ps.length by omega]
    · rw [List.length_append] at hk
      rw [List.getElem?_eq_none (by rw [pvals_len, List.length_append]; omega), List.getElem?_eq_none (by rw [pvals_len]; omega)]
theorem pvals_fst (ps : List (Int × Int)) (k : Nat) (x : Int) (hk : k < ps.length) : (pvals ps).set (k * 2) (.int .i64 x) = pvals (ps.set k (x, (ps.getD k (0, 0)).2)) := by
  apply List.ext_getElem?
  intro j
  by_cases hj : j < ps.length * 2
  · rw [pvals_at (ps.set k _) j (by rw [List.length_set]; exact hj), cz_set ps k x _ hk, List.getElem?_set, pvals_len]
    by_cases h0 : j = k * 2
    · subst h0; rw [if_pos rfl, if_pos hj, if_pos rfl]
    · rw [if_neg (fun e => h0 e.symm), if_neg h0, pvals_at ps j hj]
      by_cases h1 : j = k * 2 + 1
      · subst h1; rw [if_pos rfl, cz1]
      · rw [if_neg h1]
  · rw [List.getElem?_eq_none (by simp [pvals_len]; omega), List.getElem?_eq_none (by simp [pvals_len]; omega)]
theorem pvals_snd (ps : List (Int × Int)) (k : Nat) (y : Int) (hk : k < ps.length) : (pvals ps).set (k * 2 + 1) (.int .i64 y) = pvals (ps.set k ((ps.getD k (0, 0)).1, y)) := by
  apply List.ext_getElem?
  intro j
  by_cases hj : j < ps.length * 2
  · rw [pvals_at (ps.set k _) j (by rw [List.length_set]; exact hj), cz_set ps k _ y hk, List.getElem?_set, pvals_len]
    by_cases h0 : j = k * 2
    · subst h0; rw [if_neg (by omega), if_pos rfl, pvals_at ps _ hj, cz0]
    · by_cases h1 : j = k * 2 + 1
      · subst h1; rw [if_pos rfl, if_pos hj, if_neg h0, if_pos rfl]
      · rw [if_neg (fun e => h1 e.symm), if_neg h0, if_neg h1, pvals_at ps j hj]
  · rw [List.getElem?_eq_none (by simp [pvals_len]; omega), List.getElem?_eq_none (by simp [pvals_len]; omega)]
theorem two_new13 (w : World) (a b : Value) (t : Nat) : ∀ (j : Nat) u, [a, b][j]? = some u → (w.alloc (.cells #[a, b] t)).cell? ((⟨w.heap.size, 0, none⟩ : Addr).add j) = some u := by
  intro j u hu
  have hj : j = 0 ∨ j = 1 := by
    have := (List.getElem?_eq_some_iff.1 hu).1
    simp at this; omega
  rcases hj with rfl | rfl
  · simp at hu; subst hu; simp [Addr.add]
  · simp at hu; subst hu; simp [Addr.add]
section
variable {w0 u : World} {B M r : Nat} {ps : List (Int × Int)}
theorem LSt.len {g n cap : Nat} (h : LSt w0 B M r u (.slice (some ⟨g, 0, none⟩) n cap) ps) : n = ps.length := by
  rcases h.row.2 with ⟨hv, _⟩ | ⟨_, _, _, hv, _⟩
  · cases hv
  · simp only [Value.slice.injEq] at hv; exact hv.2.1
theorem LSt.put0 {g n cap k : Nat} (h : LSt w0 B M r u (.slice (some ⟨g, 0, none⟩) n cap) ps) (hlt : r < w0.heap.size) (hB : B ≤ w0.heap.size) (hk : k < ps.length) (x : Int) :
    LSt w0 B M r (u.setCell ⟨g, k * 2, none⟩ (.int .i64 x)) (.slice (some ⟨g, 0, none⟩) n cap) (ps.set k (x, (ps.getD k (0, 0)).2)) := by
  obtain rfl := h.len
  have s1 := World.ownsRow.stored h.row (k * 2) (.int .i64 x)
  refine h.app hlt hB ?_ s1.2
  have o := s1.1
  rw [pvals_fst ps k x hk] at o
  unfold OwnPt
  rw [List.length_set]
  exact o
theorem LSt.put1 {g n cap k : Nat} (h : LSt w0 B M r u (.slice (some ⟨g, 0, none⟩) n cap) ps) (hlt : r < w0.heap.size) (hB : B ≤ w0.heap.size) (hk : k < ps.length) (y : Int) :
    LSt w0 B M r (u.setCell ⟨g, k * 2 + 1, none⟩ (.int .i64 y)) (.slice (some ⟨g, 0, none⟩) n cap) (ps.set k ((ps.getD k (0, 0)).1, y)) := by
  obtain rfl := h.len
  have s1 := World.ownsRow.stored h.row (k * 2 + 1) (.int .i64 y)
  refine h.app hlt hB ?_ s1.2
  have o := s1.1
  rw [pvals_snd ps k y hk] at o
  unfold OwnPt
  rw [List.length_set]
  exact o
end
set_option maxHeartbeats 16000000 in
theorem l20Items (B M r : Nat) (n : Int) (w : World) (hr : Rd B M w r) (hM : M ≤ 800000) (h0 : 0 < n) (h1 : n ≤ 1000000) :
    Calls Try.prog 32 #[.pointer (some ⟨r, 0, none⟩), .int .i64 n] w (DrawnL B (M + 40) r 16 w) := by
  obtain ⟨i0, hi0, hz0, hz1, hz2⟩ := info_parts infoPt6
  have hrlt := hr.lt
  have hrge := hr.ge
  have HBw := Lib.hid (show B ≤ w.heap.size by omega)
  have HNN := Lib.hid (And.intro h0 h1)
  have S0 := LSt.new hr (World.grownBy.refl w (some r)) (Nat.le_refl _) 27 rfl
  clear h0 h1
  go_enter Try.func32, Try.ntmps32
  go_wp2_with fail
  refine (pick B M r 7 _ S0.rd (by omega)).mono ?_
  rintro e w1 ⟨x1, a1, b1, rfl, hr1, hg1, hs1⟩
  have c1 := b1 (by omega)
  have S1 := Lib.hid (S0.pick hr1 hg1 hrlt)
  clear b1 hr1 hg1 hs1 S0 hr
  obtain ⟨q, rfl⟩ : ∃ q : Nat, x1 = (q : Int) := ⟨x1.toNat, by omega⟩
  have HL : Hid (LoopI w B (M + 1) r q q (.slice (some ⟨w.heap.size, 0, none⟩) 0 0) w1) := Lib.hid ⟨[], by simp, SmP.nil, S1.out⟩
  clear S1
  go_wp2
  go_loopw [5, 6] (fun v i wr => ∃ k : Nat, k ≤ q ∧ i = .int .i64 (k : Int) ∧ Hid (LoopI w B (M + 1) r q k v wr)) (fun _ i _ => (intOf i).toNat)
  case atStart => exact ⟨q, Nat.le_refl _, rfl, HL⟩
  case round =>
    obtain ⟨k, hk, rfl, HS⟩ := hrel
    clear HL
    obtain ⟨ps, hps, hsm, S⟩ := HS.out
    have hlen : ps.length ≤ 6 := by omega
    by_cases hlt : 0 < k
    · have j1 : (0 : Int) < (k : Int) := by omega
      go_wp2_with fail
      refine (pick B _ r 256 _ S.rd (by omega)).mono ?_
      rintro e w2 ⟨x, p1, p2, rfl, hr2, hg2, hs2⟩
      have p2 := p2 (by omega)
      have SA := S.pick hr2 hg2 hrlt
      obtain ⟨z, hz'⟩ : ∃ z, -x = z := ⟨_, rfl⟩
      have o1 : IntKind.i64.wrap (-x) = z := by rw [hz']; exact wrap_in (by omega) (by omega)
      obtain ⟨x', hx'⟩ : ∃ x', z * 2 = x' := ⟨_, rfl⟩
      have o2 : IntKind.i64.wrap (z * 2) = x' := by rw [hx']; exact wrap_in (by omega) (by omega)
      have x0 : -510 ≤ x' := by omega
      have x1 : x' ≤ 0 := by omega
      clear hx'
      clear hr2 hg2 hs2 hz'
      go_wp2_with fail
      refine (pick B _ r 30 _ SA.rd (by omega)).mono ?_
      rintro e w3 ⟨y, p3, p4, rfl, hr3, hg3, hs3⟩
      have p4 := p4 (by omega)
      obtain ⟨y', hy'⟩ : ∃ y', 1 + y = y' := ⟨_, rfl⟩
      have o3 : IntKind.i64.wrap (1 + y) = y' := by rw [hy']; exact wrap_in (by omega) (by omega)
      have S2 := Lib.hid ((SA.pick hr3 hg3 hrlt).alloc (.cells #[.int .i64 x', .int .i64 y'] 27))
      have HSM := Lib.hid (hsm.snoc (x := x') (y := y') (by omega) (by omega) (by omega) (by omega))
      have HN := Lib.hid (two_new13 w3 (.int .i64 x') (.int .i64 y') 27)
      have HP := Lib.hid (pvals_snoc6 ps (x', y'))
      have HW := Lib.hid S2.out.gr.size
      clear hr3 hg3 hs3 SA S hsm HS p1 p2 p3 p4 hy'
      go_wp2_with (at_builtin; refine wpList_append_lies _ rfl (.tmp 15) (.tmp 24) 23 rfl w.heap.size 27 i0 (pt 0 0) 2 16 Try.underlying23 hi0 hz0 hz1 hz2 rfl (by decide) _ ps.length (pvals ps) rfl S2.out.row ⟨w3.heap.size, 0, none⟩ 1 1 [.int .i64 x', .int .i64 y'] rfl rfl HN.out (by intro u hu; simp at hu; rcases hu with rfl | rfl <;> rfl) (by omega) (by unfold maxLen; omega) (by omega) HW.out _ rfl ?_; intro g cap6 w7 own7 grow7 at7 ltg7; have HA7 := Lib.hid (And.intro own7 grow7); clear own7 grow7 at7 ltg7)
      have HR := Lib.hid (S2.out.app (v' := .slice (some ⟨g, 0, none⟩) (ps.length + 1) cap6) (ps' := ps ++ [(x', y')]) hrlt HBw.out (by have o := HA7.out.1; rw [← HP.out] at o; unfold OwnPt; rw [List.length_append]; exact o) HA7.out.2)
      clear HA7 S2
      go_roundw
      case rel => exact ⟨k - 1, by omega, by congr 1; omega, Lib.hid ⟨ps ++ [(x', y')], by simp; omega, HSM.out, HR.out.mono (by simp; omega)⟩⟩
      case measure => simp [intOf]; omega
    · obtain rfl : k = 0 := by omega
      have HSM := Lib.hid hsm
      have S1 := Lib.hid (S.mono (show M + 1 + 2 * ps.length ≤ M + 20 by omega))
      clear hsm HS S
      by_cases hz : ps.length = 0
      · obtain ⟨⟨sa, sl, sc⟩, rfl, hsl⟩ := S1.out.row.sl
        obtain rfl : sl = 0 := by simp only at hsl; omega
        have HF := Lib.hid (S1.out.drawn (show M + 20 ≤ M + 40 by omega) (show ps.length ≤ 16 by omega) HSM.out)
        clear S1 hsl
        go_wp2
        go_ret
        exact HF.out
      · obtain ⟨g, cap, rfl, hg1, hg2⟩ := S1.out.row.at7 (by omega)
        have j1 : (0 : Int) < (ps.length : Int) := by omega
        go_wp2_with fail
        refine (oddA B _ r n _ S1.out.rd (by omega) HNN.out.1 HNN.out.2).mono ?_
        rintro e w2 ⟨b, rfl, hr2, hg2', hs2⟩
        have S2 := Lib.hid (S1.out.pick hr2 hg2' hrlt)
        clear hr2 hg2' hs2 S1
        cases b
        · have HF := Lib.hid (S2.out.drawn (show M + 20 + 1 ≤ M + 40 by omega) (show ps.length ≤ 16 by omega) HSM.out)
          clear S2
          go_wp2
          go_ret
          exact HF.out
        go_wp2_with fail
        refine (pick B _ r (ps.length : Int) _ S2.out.rd (by omega)).mono ?_
        rintro e w3 ⟨x3, a3, b3, rfl, hr3, hg3, hs3⟩
        have c3 := b3 (by omega)
        have S3 := Lib.hid (S2.out.pick hr3 hg3 hrlt)
        clear b3 hr3 hg3 hs3 S2
        obtain ⟨i, rfl⟩ : ∃ i : Nat, x3 = (i : Int) := ⟨x3.toNat, by omega⟩
        go_wp2_with fail
        refine (pick B _ r 3 _ S3.out.rd (by omega)).mono ?_
        rintro e w4 ⟨x4, a4, b4, rfl, hr4, hg4, hs4⟩
        have c4 := b4 (by omega)
        have S4 := Lib.hid (S3.out.pick hr4 hg4 hrlt)
        clear b4 hr4 hg4 hs4 S3
        have hx : x4 = 0 ∨ x4 = 1 ∨ x4 = 2 := by omega
        have hi : i < ps.length := by omega
        rcases hx with rfl | rfl | rfl
        · have d2 := World.ownsRow.cellAt S4.out.row (i * 2) (by omega)
          have d3 := World.ownsRow.frozenAt S4.out.row (i * 2)
          rw [pvals_at ps _ (by omega)] at d2
          have S5 := Lib.hid (S4.out.put0 hrlt HBw.out hi 10001)
          have HF := Lib.hid (S5.out.drawn (N := 16) (show M + 20 + 1 + 1 + 1 ≤ M + 40 by omega) (by rw [List.length_set]; omega) (HSM.out.fst i (by omega) (by omega)))
          clear S4 S5
          go_wp2
          go_ret
          exact HF.out
        · have HI := Lib.hid (And.intro (World.ownsRow.cellAt S4.out.row (i * 2 + 1) (by omega)) (World.ownsRow.frozenAt S4.out.row (i * 2 + 1)))
          clear HI
          have S5 := S4.out.alloc (.cells #[.int .i64 0, .int .i64 101] 3)
          have lt5 := S4.out.rd.lt
          go_wp2_with fail
          refine (pick B _ r 2 _ S5.rd (by omega)).mono ?_
          rintro e w5 ⟨x5, a5, b5, rfl, hr5, hg5, hs5⟩
          have c5 := b5 (by omega)
          have f0 := hg5.cell_far ⟨w4.heap.size, 0, none⟩ (by simp) (by simp; omega)
          have f1 := hg5.cell_far ⟨w4.heap.size, 1, none⟩ (by simp) (by simp; omega)
          have S6 := Lib.hid (S5.pick hr5 hg5 hrlt)
          clear b5 hr5 hg5 hs5 S5
          have d2 := World.ownsRow.cellAt S6.out.row (i * 2 + 1) (by omega)
          have d3 := World.ownsRow.frozenAt S6.out.row (i * 2 + 1)
          rw [pvals_at ps _ (by omega)] at d2
          have hx5 : x5 = 0 ∨ x5 = 1 := by omega
          rcases hx5 with rfl | rfl
          · have S7 := Lib.hid (S6.out.put1 hrlt HBw.out hi 0)
            have HF := Lib.hid (S7.out.drawn (N := 16) (show M + 20 + 1 + 1 + 1 + 1 ≤ M + 40 by omega) (by rw [List.length_set]; omega) (HSM.out.snd i (by omega) (by omega)))
            clear S4 S6 S7
            go_wp2
            go_ret
            exact HF.out
          · have S7 := Lib.hid (S6.out.put1 hrlt HBw.out hi 101)
            have HF := Lib.hid (S7.out.drawn (N := 16) (show M + 20 + 1 + 1 + 1 + 1 ≤ M + 40 by omega) (by rw [List.length_set]; omega) (HSM.out.snd i (by omega) (by omega)))
            clear S4 S6 S7
            go_wp2
            go_ret
            exact HF.out
        · have HD : Hid (LoopD w B (M + 23) r (.slice (some ⟨g, 0, none⟩) ps.length cap) w4) := Lib.hid ⟨ps, by omega, by omega, HSM.out, S4.out⟩
          clear S4 HSM hi hlen hps hz hg1 hg2
          generalize ps.length = n0 at *
          go_wp2
          go_loopw [5] (fun v wr => Hid (LoopD w B (M + 23) r v wr)) (fun v _ => 20 - slLen v)
          case atStart => exact HD
          case round =>
            clear HD
            obtain ⟨qs, q1, q2, hsm, S⟩ := hrel.out
            obtain ⟨g2, cap2, rfl, hg1, hg2⟩ := S.row.at7 (by omega)
            have HSM := Lib.hid hsm
            have S1 := Lib.hid S
            clear hsm S hrel
            by_cases h8 : qs.length ≤ 8
            · have k8 : (qs.length : Int) ≤ 8 := by omega
              have HP := Lib.hid (pvals_app qs qs)
              have HW := Lib.hid S1.out.gr.size
              have HV := Lib.hid (fun j u (q : (pvals qs)[j]? = some u) => show wr.cell? ((⟨g2, 0, none⟩ : Addr).add j) = some u from by
                have hj : j < qs.length * 2 := by have := (List.getElem?_eq_some_iff.1 q).1; rwa [pvals_len] at this
                have := World.ownsRow.cellAt S1.out.row j hj
                rw [q] at this
                by_cases hj0 : j = 0
                · subst hj0; simpa [Addr.add] using this
                · simpa [Addr.add, hj0] using this)
              go_wp2_with (at_builtin; refine wpList_append_lies _ rfl (.tmp 43) (.tmp 44) 23 rfl w.heap.size 27 i0 (pt 0 0) 2 16 Try.underlying23 hi0 hz0 hz1 hz2 rfl (by decide) _ qs.length (pvals qs) rfl S1.out.row ⟨g2, 0, none⟩ qs.length cap2 (pvals qs) rfl (pvals_len qs) HV.out (by intro u hu; obtain ⟨j, hj, rfl⟩ := List.getElem_of_mem hu; rw [pvals_len] at hj; have := pvals_at qs j hj; rw [List.getElem?_eq_getElem (by rw [pvals_len]; exact hj)] at this; injection this with this; rw [this]; rfl) (by omega) (by unfold maxLen; omega) (by omega) HW.out _ rfl ?_; intro g cap6 w7 own7 grow7 at7 ltg7; have HA7 := Lib.hid (And.intro own7 grow7); clear own7 grow7 at7 ltg7)
              have HR := Lib.hid (S1.out.app (v' := .slice (some ⟨g, 0, none⟩) (qs.length + qs.length) cap6) (ps' := qs ++ qs) hrlt HBw.out (by have o := HA7.out.1; rw [← HP.out] at o; unfold OwnPt; rw [List.length_append]; exact o) HA7.out.2)
              clear HA7 S1
              go_roundw
              case rel => exact Lib.hid ⟨qs ++ qs, by simp; omega, by simp; omega, HSM.out.twice, HR.out⟩
              case measure => simp [slLen]; omega
            · have k8 : ¬ (qs.length : Int) ≤ 8 := by omega
              have HF := Lib.hid (S1.out.drawn (show M + 23 ≤ M + 40 by omega) (show qs.length ≤ 16 by omega) HSM.out)
              clear S1
              go_wp2
              go_ret
              exact HF.out
end Go.Proofs.Ytefjedhleihapaa.Itm
