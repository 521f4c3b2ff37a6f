/- Drawing a set of points from a code. -/
import Derived.Test.YtgpoknehbadddaaLst7
import Derived.Test.YtgpoknehbadddaaBx8
import Derived.Deep.DeepCutAuto
import Derived.Deep.AppendLies
namespace Go.Proofs.Ytgpoknehbadddaa
set_option maxRecDepth 100000
open Go.RowKit
attribute [local go_sem ↓] Go.wp_at_zero Go.wp_at_succ
theorem OwnPt.cap8 {w : World} {B n c : Nat} {a : Option Addr} {ps : List P2} (h : OwnPt w B (.slice a n c) ps) : n ≤ c := by
  rcases h.2 with ⟨hv, hn⟩ | ⟨g, c', cur, hv, hb, hg, hc, _⟩
  · simp only [Value.slice.injEq] at hv; omega
  · simp only [Value.slice.injEq] at hv
    obtain ⟨_, rfl, rfl⟩ := hv
    omega
/-- What a draw of a set of points says: it reads as ps; of what lay before, the reader alone has changed. -/
def DrawnC (B M r N : Nat) (w : World) (e : Ending) (w' : World) : Prop :=
  ∃ (s : Sl) (ps : List P2), e = .returned (.slice s.a s.len s.cap) ∧ PL w' s.a s.len ps ∧ ps.length ≤ N ∧ SmP ps ∧ Rd B M w' r ∧ w.grownBy w' (some r) ∧ s.len ≤ s.cap
/-- A list of a length and small coordinates that is being drawn. -/
def LSm (w0 : World) (B M r N : Nat) (v : Value) (u : World) : Prop := ∃ ps : List P2, ps.length ≤ N ∧ SmP ps ∧ LSt w0 B M r u v ps
def FiveL (w0 : World) (B M r n0 k : Nat) (v : Value) (u : World) : Prop := ∃ ps : List P2, ps.length = n0 + k ∧ SmP ps ∧ LSt w0 B M r u v ps
theorem LSt.cloud {w0 u : World} {B M M' r N : Nat} {v : Value} {ps : List P2} (h : LSt w0 B M r u v ps) (hM : M ≤ M') (hn : ps.length ≤ N) (hs : SmP ps) : DrawnC B M' r N w0 (.returned v) u := by
  obtain ⟨sl, rfl, _⟩ := h.row.sl
  exact ⟨sl, ps, rfl, (OwnPt.ints h.row).pl, hn, hs, h.rd.mono hM, h.gr, h.row.cap8⟩
theorem SmP.app {ps : List P2} (h : SmP ps) {p : P2} (hp : (-10001 ≤ p.1 ∧ p.1 ≤ 10001) ∧ -10001 ≤ p.2 ∧ p.2 ≤ 10001) : SmP (ps ++ [p]) := fun q hq => by
  rcases List.mem_append.1 hq with k | k
  · exact h q k
  · rw [List.mem_singleton.1 k]; exact hp
theorem SmP.cor {ps : List P2} (h : SmP ps) (i : Nat) : (-10001 ≤ (cor ps i).1 ∧ (cor ps i).1 ≤ 10001) ∧ -10001 ≤ (cor ps i).2 ∧ (cor ps i).2 ≤ 10001 := h.at i
theorem SmP.sub {ps qs : List P2} (h : SmP ps) (hq : ∀ p ∈ qs, p ∈ ps) : SmP qs := fun p hp => h p (hq p hp)
theorem l20PointN (B M r : Nat) (n : Int) (w : World) (hr : Rd B M w r) (hM : M ≤ 900000) (hn : n = 0 ∨ (0 < n ∧ n ≤ 1000000)) :
    Calls Try.prog 32 #[.pointer (some ⟨r, 0, none⟩), .int .i64 n] w (DrawnP B (M + 7) r w) := by
  rcases hn with rfl | ⟨h0, h1⟩
  · exact l20Point0 B M r w hr hM
  · exact l20Point B M r n w hr (by omega) h0 h1
set_option maxHeartbeats 8000000 in
theorem l20Cloud (B M r : Nat) (n : Int) (w : World) (hr : Rd B M w r) (hM : M ≤ 800000) (hn : n = 0 ∨ (0 < n ∧ n ≤ 1000000)) :
    Calls Try.prog 68 #[.pointer (some ⟨r, 0, none⟩), .int .i64 n] w (DrawnC B (M + 100) r 15 w) := by
  obtain ⟨i0, hi0, hz0, hz1, hz2⟩ := info_parts infoPt6
  have hrlt := hr.lt
  have hrge := hr.ge
  have HBw := Lib.hid (show B ≤ w.heap.size by omega)
  have HNN := Lib.hid hn
  have S0 := LSt.new hr (World.grownBy.refl w (some r)) (Nat.le_refl _) 24 rfl
  clear hn
  go_enter Try.func68, Try.ntmps68
  go_wp2_with fail
  refine (pick B M r 10 _ S0.rd (by omega)).mono ?_
  rintro e w1 ⟨x1, a1, b1, rfl, hr1, hg1, hs1⟩
  have c1 := b1 (by omega)
  have S1 := Lib.hid (S0.pick hr1 hg1 hrlt)
  clear b1 hr1 hg1 hs1 S0 hr
  obtain ⟨q, rfl⟩ : ∃ q : Nat, x1 = (q : Int) := ⟨x1.toNat, by omega⟩
  have HL : Hid (LoopL w B (M + 1) r q q (.slice (some ⟨w.heap.size, 0, none⟩) 0 0) w1) := Lib.hid ⟨[], by simp, SmP.nil, S1.out⟩
  clear S1
  go_wp2
  go_loopw [5, 6] (fun v i wr => ∃ k : Nat, k ≤ q ∧ i = .int .i64 (k : Int) ∧ Hid (LoopL w B (M + 1) r q k v wr)) (fun _ i _ => (intOf i).toNat)
  case atStart => exact ⟨q, Nat.le_refl _, rfl, HL⟩
  case round =>
    obtain ⟨k, hk, rfl, HS⟩ := hrel
    clear HL
    obtain ⟨ps, hps, hsm, S⟩ := HS.out
    have hlen : ps.length ≤ 9 := by omega
    by_cases hlt : 0 < k
    · have j1 : (0 : Int) < (k : Int) := by omega
      go_wp2_with fail
      refine (l20PointN B _ r n _ S.rd (by omega) HNN.out).mono ?_
      rintro e w2 ⟨x, y, p1, p2, p3, p4, rfl, hr2, hg2⟩
      have S2 := Lib.hid ((S.pick hr2 hg2 hrlt).alloc (.cells #[.int .i64 x, .int .i64 y] 24))
      have HSM := Lib.hid (hsm.snoc p1 p2 p3 p4)
      have HN := Lib.hid (two_new6 w2 (.int .i64 x) (.int .i64 y) 24)
      have HP := Lib.hid (pvals_snoc6 ps (x, y))
      have HW := Lib.hid S2.out.gr.size
      clear hr2 hg2 S hsm HS p1 p2 p3 p4
      go_wp2_with (at_builtin; refine wpList_append_lies _ rfl (.tmp 15) (.tmp 19) 31 rfl w.heap.size 24 i0 (pt 0 0) 2 16 Try.underlying31 hi0 hz0 hz1 hz2 rfl (by decide) _ ps.length (pvals ps) rfl S2.out.row ⟨w2.heap.size, 0, none⟩ 1 1 [.int .i64 x, .int .i64 y] rfl rfl HN.out (by intro u hu; simp at hu; rcases hu with rfl | rfl <;> rfl) (by omega) (by unfold maxLen; omega) (by omega) HW.out _ rfl ?_; intro g cap6 w7 own7 grow7 at7 ltg7; have HA7 := Lib.hid (And.intro own7 grow7); clear own7 grow7 at7 ltg7)
      have HR := Lib.hid (S2.out.app (v' := .slice (some ⟨g, 0, none⟩) (ps.length + 1) cap6) (ps' := ps ++ [(x, y)]) hrlt HBw.out (by have o := HA7.out.1; rw [← HP.out] at o; unfold OwnPt; rw [List.length_append]; exact o) HA7.out.2)
      clear HA7 S2
      go_roundw
      case rel => exact ⟨k - 1, by omega, by congr 1; omega, Lib.hid ⟨ps ++ [(x, y)], by simp; omega, HSM.out, HR.out.mono (by simp; omega)⟩⟩
      case measure => simp [intOf]; omega
    · obtain rfl : k = 0 := by omega
      have HSM := Lib.hid hsm
      have S1 := Lib.hid S
      clear hsm HS S
      -- TAIL
      go_wp2_with fail
      refine (oddA B _ r 9 _ S1.out.rd (by omega) (by omega) (by omega)).mono ?_
      rintro e w2 ⟨b, rfl, hr2, hg2, hs2⟩
      have S2 := Lib.hid (S1.out.pick hr2 hg2 hrlt)
      clear hr2 hg2 hs2 S1
      cases b
      · have S3 := Lib.hid (S2.out.mono (show M + 1 + 7 * ps.length + 1 ≤ M + 80 by omega))
        clear S2
        have hlen : ps.length ≤ 10 := by omega
        go_wp2_with fail
        refine (oddA B _ r 12 _ S3.out.rd (by omega) (by omega) (by omega)).mono ?_
        rintro e w5 ⟨b2, rfl, hr5, hg5, hs5⟩
        have S5 := Lib.hid (S3.out.pick hr5 hg5 hrlt)
        clear hr5 hg5 hs5 S3
        cases b2
        · have HF := Lib.hid (S5.out.cloud (show M + 80 + 1 ≤ M + 100 by omega) (show ps.length ≤ 15 by omega) HSM.out)
          clear S5
          go_wp2
          go_ret
          exact HF.out
        · have HL5 : Hid (FiveL w B (M + 81) r ps.length 0 _ w5) := Lib.hid ⟨ps, by omega, HSM.out, S5.out⟩
          have hpl : ps.length ≤ 10 := hlen
          clear S5 HSM hlen
          go_wp2
          generalize ps.length = n0 at *
          go_loopw [5, 7] (fun v i wr => ∃ k : Nat, k ≤ 5 ∧ i = .int .i64 (k : Int) ∧ Hid (FiveL w B (M + 81) r n0 k v wr)) (fun _ i _ => 5 - (intOf i).toNat)
          case atStart => exact ⟨0, by omega, rfl, HL5⟩
          case round =>
            obtain ⟨k, hk5, rfl, HF⟩ := hrel
            clear HL5
            obtain ⟨ps, hps, hsm, S⟩ := HF.out
            replace hps := Lib.hid hps
            by_cases hlt5 : k < 5
            · have j1 : (k : Int) < 5 := by omega
              have HSM := Lib.hid (show SmP (ps ++ [(3 * (k : Int), 5 * (k : Int))]) from hsm.app ⟨⟨by simp; omega, by simp; omega⟩, by simp; omega, by simp; omega⟩)
              have S2 := Lib.hid (S.alloc (.cells #[.int .i64 (3 * (k : Int)), .int .i64 (5 * (k : Int))] 24))
              have HN := Lib.hid (two_new6 wr (.int .i64 (3 * (k : Int))) (.int .i64 (5 * (k : Int))) 24)
              have HP := Lib.hid (pvals_snoc6 ps (3 * (k : Int), 5 * (k : Int)))
              have HW := Lib.hid S2.out.gr.size
              have HLN := Lib.hid (show ps.length ≤ 15 by have := hps.out; omega)
              clear S hsm HF
              go_wp2_with (at_builtin; refine wpList_append_lies _ rfl (.tmp 40) (.tmp 46) 31 rfl w.heap.size 24 i0 (pt 0 0) 2 16 Try.underlying31 hi0 hz0 hz1 hz2 rfl (by decide) _ ps.length (pvals ps) rfl S2.out.row ⟨wr.heap.size, 0, none⟩ 1 1 [.int .i64 (3 * (k : Int)), .int .i64 (5 * (k : Int))] rfl rfl HN.out (by intro u hu; simp at hu; rcases hu with rfl | rfl <;> rfl) (by omega) (by have := HLN.out; unfold maxLen; omega) (by have := HLN.out; omega) HW.out _ rfl ?_; intro g cap6 w7 own7 grow7 at7 ltg7; have HA7 := Lib.hid (And.intro own7 grow7); clear own7 grow7 at7 ltg7)
              have HR := Lib.hid (S2.out.app (v' := .slice (some ⟨g, 0, none⟩) (ps.length + 1) cap6) (ps' := ps ++ [(3 * (k : Int), 5 * (k : Int))]) hrlt HBw.out (by have o := HA7.out.1; rw [← HP.out] at o; unfold OwnPt; rw [List.length_append]; exact o) HA7.out.2)
              clear HA7 S2
              go_roundw
              case rel => exact ⟨k + 1, by omega, by congr 1, Lib.hid ⟨ps ++ [(3 * (k : Int), 5 * (k : Int))], by have := hps.out; simp; omega, HSM.out, HR.out⟩⟩
              case measure => simp [intOf]; omega
            · obtain rfl : k = 5 := by omega
              obtain ⟨g, cap, rfl, hg1, hg2⟩ := S.row.at7 (by have := hps.out; omega)
              have hpp : ps.length = n0 + 5 := hps.out
              have e1 : (((n0 + 5 : Nat) : Int) - 5) = (n0 : Int) := by omega
              have e2 : max (0 : Int) (n0 : Int) = (n0 : Int) := by omega
              have e3 : (if (0 : Int) < (n0 : Int) then (n0 : Int) else 0) = (n0 : Int) := by split <;> omega
              have HPL := Lib.hid ((OwnPt.ints S.row).pl.sub (i := n0) (j := ps.length) (by omega) (Nat.le_refl _))
              have HF2 := Lib.hid (show SmP ((ps.take ps.length).drop n0) ∧ ((ps.take ps.length).drop n0).length ≤ 15 ∧ Rd B (M + 100) wr r ∧ w.grownBy wr (some r) from ⟨hsm.sub fun p hp => List.mem_of_mem_take (List.mem_of_mem_drop hp), by simp; omega, S.rd.mono (by omega), S.gr⟩)
              rw [hpp] at HPL HF2 hg2
              rw [hpp]
              rw [Nat.zero_add, Nat.add_sub_cancel_left] at HPL
              clear S hsm HF
              go_wp2
              all_goals
                first
                  | (go_ret
                     exact ⟨⟨some ⟨g, n0 * 2, none⟩, 5, cap - n0⟩, (ps.take (n0 + 5)).drop n0, rfl, HPL.out, HF2.out.2.1, HF2.out.1, HF2.out.2.2.1, HF2.out.2.2.2, by simp only; omega⟩)
                  | (obtain rfl : n0 = 0 := by omega
                     go_ret
                     exact ⟨⟨some ⟨g, 0, none⟩, 5, cap⟩, (ps.take (0 + 5)).drop 0, rfl, HPL.out, HF2.out.2.1, HF2.out.1, HF2.out.2.2.1, HF2.out.2.2.2, by simp only; omega⟩)
      · by_cases hz : ps.length = 0
        · have S3 := Lib.hid (S2.out.mono (show M + 1 + 7 * ps.length + 1 ≤ M + 80 by omega))
          clear S2
          obtain ⟨sl, rfl, hsl⟩ := S3.out.row.sl
          have hs0 : sl.len = 0 := by omega
          have g0 : ¬ (0 < (sl.len : Int)) := by omega
          clear hs0
          have hlen : ps.length ≤ 10 := by omega
          clear hz
          replace hsl := Lib.hid hsl
          go_wp2_with fail
          refine (oddA B _ r 12 _ S3.out.rd (by omega) (by omega) (by omega)).mono ?_
          rintro e w5 ⟨b2, rfl, hr5, hg5, hs5⟩
          have S5 := Lib.hid (S3.out.pick hr5 hg5 hrlt)
          clear hr5 hg5 hs5 S3
          cases b2
          · have HF := Lib.hid (S5.out.cloud (show M + 80 + 1 ≤ M + 100 by omega) (show ps.length ≤ 15 by omega) HSM.out)
            clear S5
            go_wp2
            go_ret
            exact HF.out
          · have HL5 : Hid (FiveL w B (M + 81) r ps.length 0 _ w5) := Lib.hid ⟨ps, by omega, HSM.out, S5.out⟩
            have hpl : ps.length ≤ 10 := hlen
            clear S5 HSM hlen
            go_wp2
            generalize ps.length = n0 at *
            go_loopw [5, 7] (fun v i wr => ∃ k : Nat, k ≤ 5 ∧ i = .int .i64 (k : Int) ∧ Hid (FiveL w B (M + 81) r n0 k v wr)) (fun _ i _ => 5 - (intOf i).toNat)
            case atStart => exact ⟨0, by omega, rfl, HL5⟩
            case round =>
              obtain ⟨k, hk5, rfl, HF⟩ := hrel
              clear HL5
              obtain ⟨ps, hps, hsm, S⟩ := HF.out
              replace hps := Lib.hid hps
              by_cases hlt5 : k < 5
              · have j1 : (k : Int) < 5 := by omega
                have HSM := Lib.hid (show SmP (ps ++ [(3 * (k : Int), 5 * (k : Int))]) from hsm.app ⟨⟨by simp; omega, by simp; omega⟩, by simp; omega, by simp; omega⟩)
                have S2 := Lib.hid (S.alloc (.cells #[.int .i64 (3 * (k : Int)), .int .i64 (5 * (k : Int))] 24))
                have HN := Lib.hid (two_new6 wr (.int .i64 (3 * (k : Int))) (.int .i64 (5 * (k : Int))) 24)
                have HP := Lib.hid (pvals_snoc6 ps (3 * (k : Int), 5 * (k : Int)))
                have HW := Lib.hid S2.out.gr.size
                have HLN := Lib.hid (show ps.length ≤ 15 by have := hps.out; omega)
                clear S hsm HF
                go_wp2_with (at_builtin; refine wpList_append_lies _ rfl (.tmp 40) (.tmp 46) 31 rfl w.heap.size 24 i0 (pt 0 0) 2 16 Try.underlying31 hi0 hz0 hz1 hz2 rfl (by decide) _ ps.length (pvals ps) rfl S2.out.row ⟨wr.heap.size, 0, none⟩ 1 1 [.int .i64 (3 * (k : Int)), .int .i64 (5 * (k : Int))] rfl rfl HN.out (by intro u hu; simp at hu; rcases hu with rfl | rfl <;> rfl) (by omega) (by have := HLN.out; unfold maxLen; omega) (by have := HLN.out; omega) HW.out _ rfl ?_; intro g cap6 w7 own7 grow7 at7 ltg7; have HA7 := Lib.hid (And.intro own7 grow7); clear own7 grow7 at7 ltg7)
                have HR := Lib.hid (S2.out.app (v' := .slice (some ⟨g, 0, none⟩) (ps.length + 1) cap6) (ps' := ps ++ [(3 * (k : Int), 5 * (k : Int))]) hrlt HBw.out (by have o := HA7.out.1; rw [← HP.out] at o; unfold OwnPt; rw [List.length_append]; exact o) HA7.out.2)
                clear HA7 S2
                go_roundw
                case rel => exact ⟨k + 1, by omega, by congr 1, Lib.hid ⟨ps ++ [(3 * (k : Int), 5 * (k : Int))], by have := hps.out; simp; omega, HSM.out, HR.out⟩⟩
                case measure => simp [intOf]; omega
              · obtain rfl : k = 5 := by omega
                obtain ⟨g, cap, rfl, hg1, hg2⟩ := S.row.at7 (by have := hps.out; omega)
                have hpp : ps.length = n0 + 5 := hps.out
                have e1 : (((n0 + 5 : Nat) : Int) - 5) = (n0 : Int) := by omega
                have e2 : max (0 : Int) (n0 : Int) = (n0 : Int) := by omega
                have e3 : (if (0 : Int) < (n0 : Int) then (n0 : Int) else 0) = (n0 : Int) := by split <;> omega
                have HPL := Lib.hid ((OwnPt.ints S.row).pl.sub (i := n0) (j := ps.length) (by omega) (Nat.le_refl _))
                have HF2 := Lib.hid (show SmP ((ps.take ps.length).drop n0) ∧ ((ps.take ps.length).drop n0).length ≤ 15 ∧ Rd B (M + 100) wr r ∧ w.grownBy wr (some r) from ⟨hsm.sub fun p hp => List.mem_of_mem_take (List.mem_of_mem_drop hp), by simp; omega, S.rd.mono (by omega), S.gr⟩)
                rw [hpp] at HPL HF2 hg2
                rw [hpp]
                rw [Nat.zero_add, Nat.add_sub_cancel_left] at HPL
                clear S hsm HF
                go_wp2
                all_goals
                  first
                    | (go_ret
                       exact ⟨⟨some ⟨g, n0 * 2, none⟩, 5, cap - n0⟩, (ps.take (n0 + 5)).drop n0, rfl, HPL.out, HF2.out.2.1, HF2.out.1, HF2.out.2.2.1, HF2.out.2.2.2, by simp only; omega⟩)
                    | (obtain rfl : n0 = 0 := by omega
                       go_ret
                       exact ⟨⟨some ⟨g, 0, none⟩, 5, cap⟩, (ps.take (0 + 5)).drop 0, rfl, HPL.out, HF2.out.2.1, HF2.out.1, HF2.out.2.2.1, HF2.out.2.2.2, by simp only; omega⟩)
        · obtain ⟨g0, cap0, rfl, hg1, hg2⟩ := S2.out.row.at7 (by omega)
          have d0 := World.ownsRow.cellAt S2.out.row 0 (by omega)
          have d2 := World.ownsRow.cellAt S2.out.row 1 (by omega)
          rw [pvals_at _ _ (by omega)] at d0 d2
          have n0 : (0 : Int) < (ps.length : Int) := by omega
          have n1 : 0 < ps.length := by omega
          have hcs := HSM.out.cor 0
          obtain ⟨x, y, hxy⟩ : ∃ x y, cor ps 0 = (x, y) := ⟨_, _, rfl⟩
          have hx : cz ps 0 = x := by unfold cz; have : ps.getD (0 / 2) (0, 0) = (x, y) := hxy; rw [this]; rfl
          have hy : cz ps 1 = y := by unfold cz; have : ps.getD (1 / 2) (0, 0) = (x, y) := hxy; rw [this]; rfl
          rw [hx] at d0
          rw [hy] at d2
          rw [hxy] at hcs
          have HSM2 := Lib.hid (show SmP (ps ++ [(x, y)]) from HSM.out.app hcs)
          have S4 := Lib.hid (S2.out.alloc (.cells #[.int .i64 x, .int .i64 y] 24))
          have HN := Lib.hid (two_new6 w2 (.int .i64 x) (.int .i64 y) 24)
          have HP := Lib.hid (pvals_snoc6 ps (x, y))
          have HW := Lib.hid S4.out.gr.size
          have HLN := Lib.hid (show ps.length ≤ 15 by omega)
          clear S2 HSM hxy hx hy hcs hz
          go_upto_region 8 with (at_builtin; refine wpList_append_lies _ rfl (.tmp 28) (.tmp 32) 31 rfl w.heap.size 24 i0 (pt 0 0) 2 16 Try.underlying31 hi0 hz0 hz1 hz2 rfl (by decide) _ ps.length (pvals ps) rfl S4.out.row ⟨w2.heap.size, 0, none⟩ 1 1 [.int .i64 x, .int .i64 y] rfl rfl HN.out (by intro u hu; simp at hu; rcases hu with rfl | rfl <;> rfl) (by omega) (by have := HLN.out; unfold maxLen; omega) (by have := HLN.out; omega) HW.out _ rfl ?_; intro g cap6 w7 own7 grow7 at7 ltg7; have HA7 := Lib.hid (And.intro own7 grow7); clear own7 grow7 at7 ltg7)
          have S3 := Lib.hid ((S4.out.app (v' := .slice (some ⟨g, 0, none⟩) (ps.length + 1) cap6) (ps' := ps ++ [(x, y)]) hrlt HBw.out (by have o := HA7.out.1; rw [← HP.out] at o; unfold OwnPt; rw [List.length_append]; exact o) HA7.out.2).mono (show M + 1 + 7 * ps.length + 1 ≤ M + 80 by omega))
          have HSM := HSM2
          have hlen2 : (ps ++ [(x, y)]).length ≤ 10 := by simp; omega
          have hpe : ps.length + 1 = (ps ++ [(x, y)]).length := by simp
          rw [hpe] at S3 ⊢
          clear HA7 S4 HN HP HW d0 d2 HSM2 n0 n1 hg1 hg2 hps hlen hpe
          generalize ps ++ [(x, y)] = ps at *
          have hlen := hlen2
          clear hlen2
          go_wp2_with fail
          refine (oddA B _ r 12 _ S3.out.rd (by omega) (by omega) (by omega)).mono ?_
          rintro e w5 ⟨b2, rfl, hr5, hg5, hs5⟩
          have S5 := Lib.hid (S3.out.pick hr5 hg5 hrlt)
          clear hr5 hg5 hs5 S3
          cases b2
          · have HF := Lib.hid (S5.out.cloud (show M + 80 + 1 ≤ M + 100 by omega) (show ps.length ≤ 15 by omega) HSM.out)
            clear S5
            go_wp2
            go_ret
            exact HF.out
          · have HL5 : Hid (FiveL w B (M + 81) r ps.length 0 _ w5) := Lib.hid ⟨ps, by omega, HSM.out, S5.out⟩
            have hpl : ps.length ≤ 10 := hlen
            clear S5 HSM hlen
            go_wp2
            generalize ps.length = n0 at *
            go_loopw [5, 7] (fun v i wr => ∃ k : Nat, k ≤ 5 ∧ i = .int .i64 (k : Int) ∧ Hid (FiveL w B (M + 81) r n0 k v wr)) (fun _ i _ => 5 - (intOf i).toNat)
            case atStart => exact ⟨0, by omega, rfl, HL5⟩
            case round =>
              obtain ⟨k, hk5, rfl, HF⟩ := hrel
              clear HL5
              obtain ⟨ps, hps, hsm, S⟩ := HF.out
              replace hps := Lib.hid hps
              by_cases hlt5 : k < 5
              · have j1 : (k : Int) < 5 := by omega
                have HSM := Lib.hid (show SmP (ps ++ [(3 * (k : Int), 5 * (k : Int))]) from hsm.app ⟨⟨by simp; omega, by simp; omega⟩, by simp; omega, by simp; omega⟩)
                have S2 := Lib.hid (S.alloc (.cells #[.int .i64 (3 * (k : Int)), .int .i64 (5 * (k : Int))] 24))
                have HN := Lib.hid (two_new6 wr (.int .i64 (3 * (k : Int))) (.int .i64 (5 * (k : Int))) 24)
                have HP := Lib.hid (pvals_snoc6 ps (3 * (k : Int), 5 * (k : Int)))
                have HW := Lib.hid S2.out.gr.size
                have HLN := Lib.hid (show ps.length ≤ 15 by have := hps.out; omega)
                clear S hsm HF
                go_wp2_with (at_builtin; refine wpList_append_lies _ rfl (.tmp 40) (.tmp 46) 31 rfl w.heap.size 24 i0 (pt 0 0) 2 16 Try.underlying31 hi0 hz0 hz1 hz2 rfl (by decide) _ ps.length (pvals ps) rfl S2.out.row ⟨wr.heap.size, 0, none⟩ 1 1 [.int .i64 (3 * (k : Int)), .int .i64 (5 * (k : Int))] rfl rfl HN.out (by intro u hu; simp at hu; rcases hu with rfl | rfl <;> rfl) (by omega) (by have := HLN.out; unfold maxLen; omega) (by have := HLN.out; omega) HW.out _ rfl ?_; intro g cap6 w7 own7 grow7 at7 ltg7; have HA7 := Lib.hid (And.intro own7 grow7); clear own7 grow7 at7 ltg7)
                have HR := Lib.hid (S2.out.app (v' := .slice (some ⟨g, 0, none⟩) (ps.length + 1) cap6) (ps' := ps ++ [(3 * (k : Int), 5 * (k : Int))]) hrlt HBw.out (by have o := HA7.out.1; rw [← HP.out] at o; unfold OwnPt; rw [List.length_append]; exact o) HA7.out.2)
                clear HA7 S2
                go_roundw
                case rel => exact ⟨k + 1, by omega, by congr 1, Lib.hid ⟨ps ++ [(3 * (k : Int), 5 * (k : Int))], by have := hps.out; simp; omega, HSM.out, HR.out⟩⟩
                case measure => simp [intOf]; omega
              · obtain rfl : k = 5 := by omega
                obtain ⟨g, cap, rfl, hg1, hg2⟩ := S.row.at7 (by have := hps.out; omega)
                have hpp : ps.length = n0 + 5 := hps.out
                have e1 : (((n0 + 5 : Nat) : Int) - 5) = (n0 : Int) := by omega
                have e2 : max (0 : Int) (n0 : Int) = (n0 : Int) := by omega
                have e3 : (if (0 : Int) < (n0 : Int) then (n0 : Int) else 0) = (n0 : Int) := by split <;> omega
                have HPL := Lib.hid ((OwnPt.ints S.row).pl.sub (i := n0) (j := ps.length) (by omega) (Nat.le_refl _))
                have HF2 := Lib.hid (show SmP ((ps.take ps.length).drop n0) ∧ ((ps.take ps.length).drop n0).length ≤ 15 ∧ Rd B (M + 100) wr r ∧ w.grownBy wr (some r) from ⟨hsm.sub fun p hp => List.mem_of_mem_take (List.mem_of_mem_drop hp), by simp; omega, S.rd.mono (by omega), S.gr⟩)
                rw [hpp] at HPL HF2 hg2
                rw [hpp]
                rw [Nat.zero_add, Nat.add_sub_cancel_left] at HPL
                clear S hsm HF
                go_wp2
                all_goals
                  first
                    | (go_ret
                       exact ⟨⟨some ⟨g, n0 * 2, none⟩, 5, cap - n0⟩, (ps.take (n0 + 5)).drop n0, rfl, HPL.out, HF2.out.2.1, HF2.out.1, HF2.out.2.2.1, HF2.out.2.2.2, by simp only; omega⟩)
                    | (obtain rfl : n0 = 0 := by omega
                       go_ret
                       exact ⟨⟨some ⟨g, 0, none⟩, 5, cap⟩, (ps.take (0 + 5)).drop 0, rfl, HPL.out, HF2.out.2.1, HF2.out.1, HF2.out.2.2.1, HF2.out.2.2.2, by simp only; omega⟩)
end Go.Proofs.Ytgpoknehbadddaa
