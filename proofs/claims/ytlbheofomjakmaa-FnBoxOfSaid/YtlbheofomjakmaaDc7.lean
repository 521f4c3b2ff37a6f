/- What the laws on curves draw from a code. -/
import Derived.Test.YtlbheofomjakmaaLst7
import Derived.Deep.AppendLies
namespace Go.Proofs.Ytlbheofomjakmaa
set_option maxRecDepth 100000
open Go.RowKit
attribute [local go_sem ↓] Go.wp_at_zero Go.wp_at_succ
theorem five7 : pvals (List.replicate 5 (0, 0)) = (madeCells (pt 0 0).cells (5 * 2)).toList := by
  rw [made6 (cz (List.replicate 5 (0, 0))) 5]
  apply List.ext_getElem?
  intro j
  by_cases hj : j < 10
  · rw [pvals_at _ j (by simpa using hj), cpart_at _ _ _ _ j hj]
    have e : cz (List.replicate 5 ((0 : Int), (0 : Int))) j = 0 := by
      unfold cz
      rw [List.getD_eq_getElem?_getD, List.getElem?_replicate]
      split <;> split <;> rfl
    rw [e]
    simp
  · rw [List.getElem?_eq_none (by rw [pvals_len]; simp; omega), List.getElem?_eq_none (by rw [cpart_len]; omega)]
set_option maxHeartbeats 4000000 in
theorem l20Curve (B M r : Nat) (n : Int) (w : World) (hr : Rd B M w r) (hM : M ≤ 800000) (h0 : 0 < n) (h1 : n ≤ 1000000) :
    Calls Try.prog 37 #[.pointer (some ⟨r, 0, none⟩), .int .i64 n] w (DrawnL B (M + 40) r 5 w) := by
  obtain ⟨i0, hi0, hz0, hz1, hz2⟩ := info_parts infoPt6
  have hrlt := hr.lt
  have hrge := hr.ge
  have HBw := Lib.hid (show B ≤ w.heap.size by omega)
  have S0 := LSt.new hr (World.grownBy.refl w (some r)) (Nat.le_refl _) 31 rfl
  go_enter Try.func37, Try.ntmps37
  go_wp2_with fail
  refine (pick B M r 4 _ S0.rd (by omega)).mono ?_
  rintro e w1 ⟨x1, a1, b1, rfl, hr1, hg1, hs1⟩
  have c1 := b1 (by omega)
  have S1 := Lib.hid (S0.pick hr1 hg1 hrlt)
  clear b1 hr1 hg1 hs1 S0 hr
  obtain ⟨q, rfl⟩ : ∃ q : Nat, x1 = (q : Int) := ⟨x1.toNat, by omega⟩
  have HL : Hid (LoopL w B (M + 1) r (q + 1) (q + 1) (.slice (some ⟨w.heap.size, 0, none⟩) 0 0) w1) := Lib.hid ⟨[], by simp, SmP.nil, S1.out⟩
  clear S1
  go_wp2
  go_loopw [5, 6] (fun v i wr => ∃ k : Nat, k ≤ q + 1 ∧ i = .int .i64 (k : Int) ∧ Hid (LoopL w B (M + 1) r (q + 1) k v wr)) (fun _ i _ => (intOf i).toNat)
  case atStart => exact ⟨q + 1, Nat.le_refl _, by congr 1; omega, HL⟩
  case round =>
    obtain ⟨k, hk, rfl, HS⟩ := hrel
    clear HL
    obtain ⟨ps, hps, hsm, S⟩ := HS.out
    have hlen : ps.length ≤ 4 := by omega
    by_cases hlt : 0 < k
    · have j1 : (0 : Int) < (k : Int) := by omega
      go_wp2_with fail
      refine (l20Point0 B _ r _ S.rd (by omega)).mono ?_
      rintro e w2 ⟨x, y, p1, p2, p3, p4, rfl, hr2, hg2⟩
      have S2 := Lib.hid ((S.pick hr2 hg2 hrlt).alloc (.cells #[.int .i64 x, .int .i64 y] 31))
      have HSM := Lib.hid (hsm.snoc p1 p2 p3 p4)
      have HN := Lib.hid (two_new6 w2 (.int .i64 x) (.int .i64 y) 31)
      have HP := Lib.hid (pvals_snoc6 ps (x, y))
      have HW := Lib.hid S2.out.gr.size
      clear hr2 hg2 S hsm HS p1 p2 p3 p4
      go_wp2_with (at_builtin; refine wpList_append_lies _ rfl (.tmp 15) (.tmp 18) 23 rfl w.heap.size 31 i0 (pt 0 0) 2 16 Try.underlying23 hi0 hz0 hz1 hz2 rfl (by decide) _ ps.length (pvals ps) rfl S2.out.row ⟨w2.heap.size, 0, none⟩ 1 1 [.int .i64 x, .int .i64 y] rfl rfl HN.out (by intro u hu; simp at hu; rcases hu with rfl | rfl <;> rfl) (by omega) (by unfold maxLen; omega) (by omega) HW.out _ rfl ?_; intro g cap6 w7 own7 grow7 at7 ltg7; have HA7 := Lib.hid (And.intro own7 grow7); clear own7 grow7 at7 ltg7)
      have HR := Lib.hid (S2.out.app (v' := .slice (some ⟨g, 0, none⟩) (ps.length + 1) cap6) (ps' := ps ++ [(x, y)]) hrlt HBw.out (by have o := HA7.out.1; rw [← HP.out] at o; unfold OwnPt; rw [List.length_append]; exact o) HA7.out.2)
      clear HA7 S2
      go_roundw
      case rel => exact ⟨k - 1, by omega, by congr 1; omega, Lib.hid ⟨ps ++ [(x, y)], by simp; omega, HSM.out, HR.out.mono (by simp; omega)⟩⟩
      case measure => simp [intOf]; omega
    · obtain rfl : k = 0 := by omega
      obtain ⟨g, cap, rfl, hg1, hg2⟩ := S.row.at7 (by omega)
      have HSM := Lib.hid hsm
      have S1 := Lib.hid S
      clear hsm HS S
      go_wp2_with fail
      refine (oddA B _ r n _ S1.out.rd (by omega) h0 h1).mono ?_
      rintro e w2 ⟨b, rfl, hr2, hg2, _⟩
      have S2 := Lib.hid (S1.out.pick hr2 hg2 hrlt)
      clear hr2 hg2 S1
      cases b
      · go_wp2
        go_ret
        exact S2.out.drawn (by omega) (by omega) HSM.out
      · go_wp2_with fail
        refine (pick B _ r 3 _ S2.out.rd (by omega)).mono ?_
        rintro e w3 ⟨x8, a8, b8, rfl, hr3, hg3, hs3⟩
        have c8 := b8 (by omega)
        have S3 := Lib.hid (S2.out.pick hr3 hg3 hrlt)
        clear b8 hr3 hg3 hs3 S2
        have hx8 : x8 = 0 ∨ x8 = 1 ∨ x8 = 2 := by omega
        clear a8 c8
        rcases hx8 with rfl | rfl | rfl
        · have S4 := Lib.hid (LSt.new S3.out.rd S3.out.gr S3.out.gr.size 31 rfl)
          go_wp2
          go_ret
          exact S4.out.drawn (by omega) (by simp) SmP.nil
        · go_wp2_with fail
          refine (l20Point B _ r 1 _ S3.out.rd (by omega) (by omega) (by omega)).mono ?_
          rintro e w4 ⟨x, y, p1, p2, p3, p4, rfl, hr4, hg4⟩
          have S4 := S3.out.pick hr4 hg4 hrlt
          have S5 := Lib.hid (S4.put (k := 0) hrlt HBw.out (by omega) x y)
          have d0 := World.ownsRow.cellAt S4.row 0 (by omega)
          have d1 := World.ownsRow.frozenAt S4.row 0
          have d2 := World.ownsRow.cellAt S4.row 1 (by omega)
          have d3 := World.ownsRow.frozenAt S4.row 1
          rw [pvals_at _ _ (by omega)] at d0 d2
          have HS5 := Lib.hid (HSM.out.set 0 p1 p2 p3 p4)
          have n0 : 0 < ps.length := by omega
          clear hr4 hg4 S4 S3 HSM p1 p2 p3 p4
          go_wp2
          go_ret
          exact S5.out.drawn (by omega) (by rw [List.length_set]; omega) HS5.out
        · go_wp2_with (first
            | (at_make; refine wpList_make_full _ rfl _ _ 23 rfl w.heap.size 31 i0 (pt 0 0) 2 Try.underlying23 hi0 hz0 hz1 .i64 .i64 _ _ 5 rfl rfl (by omega) (by omega) (by rw [hz2]; omega) (by unfold maxLen; omega) S3.out.gr.size ?_; intro w4 own4 grow4))
          have S4 := Lib.hid (LSt.mk (w0 := w) (v := .slice (some ⟨w3.heap.size, 0, none⟩) 5 5) (ps := List.replicate 5 (0, 0)) (S3.out.rd.kept grow4 (by simp) (fun k hk => by cases hk)) (only_row S3.out.gr grow4 (fun k hk => by cases hk)) (by unfold OwnPt; rw [five7]; exact own4))
          clear own4 grow4 S3
          go_wp2
          go_ret
          exact S4.out.drawn (by omega) (by simp) (fun p hp => by rw [List.eq_of_mem_replicate hp]; decide)
end Go.Proofs.Ytlbheofomjakmaa
