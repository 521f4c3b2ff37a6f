/- Several of my texts in one: Dm8, Dh8, Dh8b. -/
import Derived.Test.YtcifokihellcdaaDo8
import Derived.Test.YtcifokihellcdaaZbKt
namespace Go.Proofs.Ytcifokihellcdaa
set_option maxRecDepth 100000
open Go.RowKit
attribute [local go_sem ↓] Go.wp_at_zero Go.wp_at_succ
theorem at4_next {w w' : World} {x1 x2 x3 x4 : Nat} {a b c d : P2} (h : AtP w x1 a.1 a.2 ∧ AtP w x2 b.1 b.2 ∧ AtP w x3 c.1 c.2 ∧ AtP w x4 d.1 d.2) (hb : Below w.heap.size w w') : AtP w' x1 a.1 a.2 ∧ AtP w' x2 b.1 b.2 ∧ AtP w' x3 c.1 c.2 ∧ AtP w' x4 d.1 d.2 := ⟨h.1.next hb, h.2.1.next hb, h.2.2.1.next hb, h.2.2.2.next hb⟩
end Go.Proofs.Ytcifokihellcdaa
namespace Go.Proofs.Ytcifokihellcdaa
set_option maxRecDepth 100000
open Go.RowKit
attribute [local go_sem ↓] Go.wp_at_zero Go.wp_at_succ
end Go.Proofs.Ytcifokihellcdaa
namespace Go.Proofs.Ytcifokihellcdaa
set_option maxRecDepth 100000
open Go.RowKit
attribute [local go_sem ↓] Go.wp_at_zero Go.wp_at_succ
theorem sOriC (a b c : P2) (w : World) : Calls Try.prog 25 #[pt a.1 a.2, pt b.1 b.2, pt c.1 c.2] w fun e w' => e = .returned (.int .i64 (ori a b c)) ∧ Below w.heap.size w w' :=
  specOrientation a.1 a.2 b.1 b.2 c.1 c.2 w
set_option maxHeartbeats 4000000 in
theorem specConvexValid (a : Option Addr) (len cap : Nat) (ps : List P2) (w : World) (hp : PL w a len ps) (hl : len ≤ 9223372036854775807) :
    Calls Try.prog 15 #[.slice a len cap] w fun e w' => e = .returned (.bool (decide (okCvx ps))) ∧ Below w.heap.size w w' := by
  have HLE := Lib.hid hp.1
  have HP := Lib.hid hp
  by_cases h38 : 3 ≤ len ∧ len ≤ 8
  · have HCV := Lib.hid (cvx_each (ps := ps) (by rw [← hp.1]; exact h38.1) (by rw [← hp.1]; exact h38.2))
    obtain ⟨h3, h8⟩ := h38
    clear hp
    go_enter Try.func15, Try.ntmps15
    go_wp2_with fail
    refine (l1In_yes (len : Int) 3 8 _ (by omega) (by omega)).mono ?_
    rintro e w' ⟨rfl, rfl⟩
    go_wp2
    go_loopw [4, 5] (fun i _ wr => ∃ k : Nat, k ≤ len ∧ i = .int .i64 (k : Int) ∧ Hid (∀ i, i < k → ∀ j, j < ps.length → j ≠ i → j ≠ nx ps i → ori (cor ps i) (cor ps (nx ps i)) (cor ps j) = 1) ∧ Hid (Below w.heap.size w wr)) (fun i _ _ => len - (intOf i).toNat)
    case atStart => exact ⟨0, Nat.zero_le _, rfl, Lib.hid (fun k hk => absurd hk (by omega)), Lib.hid (Below.refl _ _)⟩
    case round =>
      obtain ⟨k, hk, rfl, HI, HW⟩ := hrel
      by_cases hlt : k < len
      · have k1 : (0 : Int) ≤ (k : Int) := by omega
        have k2 : (k : Int) < (len : Int) := by omega
        have HMD := Lib.hid (show ((k : Int) + 1).tmod (len : Int) = (nx ps k : Nat) ∧ nx ps k < len by
          rw [HLE.out] at hlt ⊢; exact ⟨tmod_nx ps k, nx_lt hlt⟩)
        have hmd := HMD.out.1
        have m1 : (0 : Int) ≤ (nx ps k : Int) := by omega
        have m2 : (nx ps k : Int) < (len : Int) := by have := HMD.out.2; omega
        have hne : ¬ len = 0 := by omega
        have hne2 : ¬ (len : Int) = 0 := by omega
        go_wp2
        go_loopw [5] (fun i wr2 => ∃ j : Nat, j ≤ len ∧ i = .int .i64 (j : Int) ∧ Hid (∀ i, i < j → i ≠ k → i ≠ nx ps k → ori (cor ps k) (cor ps (nx ps k)) (cor ps i) = 1) ∧ Hid (Below w.heap.size w wr2)) (fun i _ => len - (intOf i).toNat)
        case atStart => exact ⟨0, Nat.zero_le _, rfl, Lib.hid (fun k hk => absurd hk (by omega)), HW⟩
        case round =>
          obtain ⟨j, hj, rfl, HJ, HW2⟩ := hrel
          by_cases hjl : j < len
          · have j1 : (0 : Int) ≤ (j : Int) := by omega
            have j2 : (j : Int) < (len : Int) := by omega
            by_cases e1 : j = k
            · have HJ2 := Lib.hid (show ∀ i, i < j + 1 → i ≠ k → i ≠ nx ps k → ori (cor ps k) (cor ps (nx ps k)) (cor ps i) = 1 from fun i hi z1 z2 => HJ.out i (by omega) z1 z2)
              have g1 : ((j : Int) != (k : Int)) = false := by subst e1; simp
              have g2 : decide (¬ (j : Int) = (k : Int)) = false := by subst e1; simp
              have g3 : ((j : Int) == (k : Int)) = true := by subst e1; simp
              clear e1
              go_upto_region 10 with fail
              refine wp_region_kept (by kernel_rfl) (by kernel_rfl) ?_
              repeat (go_big_quiet_step ((fail)))
              refine wpQuiet_nil ?_
              rintro w5 ⟨⟨_, K2⟩, rfl⟩
              have HW5 := Lib.hid (below_call HW2.out K2)
              go_wp2
              go_roundw
              case rel => exact ⟨j + 1, by omega, by congr 1, HJ2, HW5⟩
              case measure => simp [intOf]; omega
            · have g1 : ((j : Int) != (k : Int)) = true := by simp; omega
              have g2 : decide (¬ (j : Int) = (k : Int)) = true := by simp; omega
              have g3 : ((j : Int) == (k : Int)) = false := by simp; omega
              by_cases e2 : j = nx ps k
              · have HJ2 := Lib.hid (show ∀ i, i < j + 1 → i ≠ k → i ≠ nx ps k → ori (cor ps k) (cor ps (nx ps k)) (cor ps i) = 1 from fun i hi z1 z2 => HJ.out i (by omega) z1 z2)
                have g4 : ((j : Int) != (nx ps k : Int)) = false := by rw [e2]; simp
                have g5 : decide (¬ (j : Int) = (nx ps k : Int)) = false := by rw [e2]; simp
                have g6 : ((j : Int) == (nx ps k : Int)) = true := by rw [e2]; simp
                clear e1 e2
                go_upto_region 10 with fail
                refine wp_region_kept (by kernel_rfl) (by kernel_rfl) ?_
                repeat (go_big_quiet_step ((fail)))
                refine wpQuiet_nil ?_
                rintro w5 ⟨⟨_, K2⟩, rfl⟩
                have HW5 := Lib.hid (below_call HW2.out K2)
                go_wp2
                go_roundw
                case rel => exact ⟨j + 1, by omega, by congr 1, HJ2, HW5⟩
                case measure => simp [intOf]; omega
              · have g4 : ((j : Int) != (nx ps k : Int)) = true := by simp; omega
                have g5 : decide (¬ (j : Int) = (nx ps k : Int)) = true := by simp; omega
                have g6 : ((j : Int) == (nx ps k : Int)) = false := by simp; omega
                have HP3 := Lib.hid (HP.out.next HW2.out)
                obtain ⟨b, o, rfl, lt, hc⟩ := HP3.out.somes (by omega)
                have u1 := keptCell (b := b) (o := o + k * 2) lt (hc k hlt).1
                have u2 := keptCell (b := b) (o := o + k * 2 + 1) lt (hc k hlt).2
                have u3 := keptCell (b := b) (o := o + nx ps k * 2) lt (hc (nx ps k) HMD.out.2).1
                have u4 := keptCell (b := b) (o := o + nx ps k * 2 + 1) lt (hc (nx ps k) HMD.out.2).2
                have u5 := keptCell (b := b) (o := o + j * 2) lt (hc j hjl).1
                have u6 := keptCell (b := b) (o := o + j * 2 + 1) lt (hc j hjl).2
                have HC := Lib.hid (fun (q : Kept wr) => keptCall (sOriC (cor ps k) (cor ps (nx ps k)) (cor ps j) q.u))
                clear hc
                by_cases hs : ori (cor ps k) (cor ps (nx ps k)) (cor ps j) = 1
                · have HJ2 := Lib.hid (show ∀ i, i < j + 1 → i ≠ k → i ≠ nx ps k → ori (cor ps k) (cor ps (nx ps k)) (cor ps i) = 1 from fun i hi z1 z2 => by
                    by_cases e : i = j
                    · subst e; exact hs
                    · exact HJ.out i (by omega) z1 z2)
                  rw [hs] at HC
                  clear e1 e2 hs
                  go_upto_region 10 with fail
                  refine wp_region_kept (by kernel_rfl) (by kernel_rfl) ?_
                  repeat (go_big_quiet_step ((go_at_call 25; with_reducible exact HC.out _)))
                  refine wpQuiet_nil ?_
                  rintro w5 ⟨⟨_, K2⟩, rfl⟩
                  have HW5 := Lib.hid (below_call HW2.out K2)
                  clear u1 u2 u3 u4 u5 u6 HC
                  go_wp2
                  go_roundw
                  case rel => exact ⟨j + 1, by omega, by congr 1, HJ2, HW5⟩
                  case measure => simp [intOf]; omega
                · have HV := Lib.hid (show false = decide (okCvx ps) from (decide_eq_false fun ok => hs (HCV.out.2 ok k (by rw [← HLE.out]; exact hlt) j (by rw [← HLE.out]; exact hjl) e1 e2)).symm)
                  have g7 : (ori (cor ps k) (cor ps (nx ps k)) (cor ps j) != 1) = true := by simpa using hs
                  have g8 : (ori (cor ps k) (cor ps (nx ps k)) (cor ps j) == 1) = false := by simpa using hs
                  clear e1 e2
                  go_upto_region 10 with fail
                  refine wp_region_kept (by kernel_rfl) (by kernel_rfl) ?_
                  repeat (go_big_quiet_step ((go_at_call 25; with_reducible exact HC.out _)))
                  refine wpQuiet_nil ?_
                  rintro w5 ⟨⟨_, K2⟩, rfl⟩
                  have HW5 := Lib.hid (below_call HW2.out K2)
                  clear u1 u2 u3 u4 u5 u6 HC
                  go_wp2
                  go_ret
                  exact ⟨ret_bool HV.out, HW5.out⟩
          · obtain rfl : j = len := by omega
            have HI2 := Lib.hid (show ∀ i, i < k + 1 → ∀ j, j < ps.length → j ≠ i → j ≠ nx ps i → ori (cor ps i) (cor ps (nx ps i)) (cor ps j) = 1 from fun i hi q z0 z1 z2 => by
              by_cases e : i = k
              · subst e; exact HJ.out q (by rw [HLE.out]; exact z0) z1 z2
              · exact HI.out i (by omega) q z0 z1 z2)
            go_wp2
            go_roundw
            case rel => exact ⟨k + 1, by omega, by congr 1, HI2, HW2⟩
            case measure => simp [intOf]; omega
      · obtain rfl : k = len := by omega
        have HV := Lib.hid (show true = decide (okCvx ps) from (decide_eq_true (HCV.out.1 (fun i hi j hj z1 z2 => HI.out i (by rw [HLE.out]; exact hi) j hj z1 z2))).symm)
        go_wp2
        go_ret
        exact ⟨ret_bool HV.out, HW.out⟩
  · have HV := Lib.hid (show false = decide (okCvx ps) from (decide_eq_false fun ok => h38 (by have := HLE.out; exact ⟨by have := ok.1; omega, by have := ok.2.1; omega⟩)).symm)
    clear hp
    go_enter Try.func15, Try.ntmps15
    go_wp2_with fail
    refine (l1In_no (len : Int) 3 8 _ (by omega)).mono ?_
    rintro e w' ⟨rfl, rfl⟩
    go_wp2
    go_ret
    exact ⟨ret_bool HV.out, Below.refl _ _⟩
end Go.Proofs.Ytcifokihellcdaa
