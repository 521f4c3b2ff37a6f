/- The document's test of a segment against a polygon; its ConvexValid; its DoubleArea. -/
import Derived.Test.YtkmopgdnaohcdaaDh8
namespace Go.Proofs.Ytkmopgdnaohcdaa
set_option maxRecDepth 100000
open Go.RowKit
attribute [local go_sem ↓] Go.wp_at_zero Go.wp_at_succ
set_option maxHeartbeats 2000000 in
theorem l8HitC (a : Option Addr) (len cap : Nat) (ps : List P2) (p q : P2) (w : World) (hp : PL w a len ps) (hl : len ≤ 1000) (hk : okPts ps) (h1 : okQ p) (h2 : okQ q) :
    Calls Try.prog 73 #[.slice a len cap, pt p.1 p.2, pt q.1 q.2] w fun e w' => e = .returned (.bool (decide (Hit ps p q))) ∧ Below w.heap.size w w' := by
  have HLE := Lib.hid hp.1
  have HOK := Lib.hid hk
  have HO1 := Lib.hid h1
  have HO2 := Lib.hid h2
  have HB := Lib.hid (below_box2 w (.cells #[.int .i64 p.1, .int .i64 p.2] 28) (.cells #[.int .i64 q.1, .int .i64 q.2] 28))
  have K0 := (AtP.box w p.1 p.2 28).next (below_box _ (.cells #[.int .i64 q.1, .int .i64 q.2] 28))
  have K1 := AtP.box (w.alloc (.cells #[.int .i64 p.1, .int .i64 p.2] 28)) q.1 q.2 28
  simp only [World.size_alloc] at K1
  have HX := Lib.hid (And.intro K0 K1)
  have HP := Lib.hid (hp.next HB.out)
  have HC1 := Lib.hid (l8InsideC a len cap ps p _ HP.out hl hk h1)
  have HC2 := Lib.hid (fun (u : World) (hu : Below ((w.alloc (.cells #[.int .i64 p.1, .int .i64 p.2] 28)).alloc (.cells #[.int .i64 q.1, .int .i64 q.2] 28)).heap.size ((w.alloc (.cells #[.int .i64 p.1, .int .i64 p.2] 28)).alloc (.cells #[.int .i64 q.1, .int .i64 q.2] 28)) u) => l8InsideC a len cap ps q u (HP.out.next hu) hl hk h2)
  clear hp hk h1 h2 K0 K1
  by_cases i1 : Ins ps p
  · have HV := Lib.hid (show true = decide (Hit ps p q) from (decide_eq_true (p := Hit ps p q) (.inl (.inl i1))).symm)
    rw [decide_eq_true i1] at HC1
    clear i1
    go_enter Try.func73, Try.ntmps73
    go_wp2_with fail
    refine HC1.out.mono ?_
    rintro e w1 ⟨rfl, B⟩
    have HB1 := Lib.hid (below_call HB.out B)
    clear B
    go_wp2
    go_ret
    exact ⟨ret_bool HV.out, HB1.out⟩
  rw [decide_eq_false i1] at HC1
  by_cases i2 : Ins ps q
  · have HV := Lib.hid (show true = decide (Hit ps p q) from (decide_eq_true (p := Hit ps p q) (.inl (.inr i2))).symm)
    rw [decide_eq_true i2] at HC2
    clear i1 i2
    go_enter Try.func73, Try.ntmps73
    go_wp2_with fail
    refine HC1.out.mono ?_
    rintro e w1 ⟨rfl, B⟩
    have HB1 := Lib.hid (below_call HB.out B)
    have HC3 := Lib.hid (HC2.out w1 B)
    obtain ⟨_, a1, a2⟩ := HX.out.1.next B
    obtain ⟨_, b1, b2⟩ := HX.out.2.next B
    clear B
    go_wp2_with fail
    refine HC3.out.mono ?_
    rintro e w2 ⟨rfl, B⟩
    have HB2 := Lib.hid (below_call HB1.out B)
    clear B a1 a2 b1 b2
    go_wp2
    go_ret
    exact ⟨ret_bool HV.out, HB2.out⟩
  rw [decide_eq_false i2] at HC2
  have HN := Lib.hid (And.intro i1 i2)
  clear i1 i2
  go_enter Try.func73, Try.ntmps73
  go_wp2_with fail
  refine HC1.out.mono ?_
  rintro e w1 ⟨rfl, B⟩
  have HB1 := Lib.hid (below_call HB.out B)
  have HP1 := Lib.hid (HP.out.next B)
  have HX1 := Lib.hid (And.intro (HX.out.1.next B) (HX.out.2.next B))
  have HC3 := Lib.hid (HC2.out w1 B)
  obtain ⟨_, a1, a2⟩ := HX1.out.1
  obtain ⟨_, b1, b2⟩ := HX1.out.2
  clear B
  go_wp2_with fail
  refine HC3.out.mono ?_
  rintro e w2 ⟨rfl, B⟩
  have HB2 := Lib.hid (below_call HB1.out B)
  have HP2 := Lib.hid (HP1.out.next B)
  have HX2 := Lib.hid (And.intro (HX1.out.1.next B) (HX1.out.2.next B))
  clear B a1 a2 b1 b2 HC1 HC2 HC3 HP HP1 HX HX1 HB HB1
  go_wp2
  go_loopw [7] (fun i wr => ∃ j : Nat, j ≤ len ∧ i = .int .i64 (j : Int) ∧ Hid (∀ k, k < j → ¬ Meet p q (cor ps k) (cor ps (nx ps k))) ∧ Hid (Below w2.heap.size w2 wr)) (fun i _ => len - (intOf i).toNat)
  case atStart => exact ⟨0, Nat.zero_le _, rfl, Lib.hid (fun k hk => absurd hk (by omega)), Lib.hid (Below.refl _ _)⟩
  case round =>
    obtain ⟨j, hj, rfl, HI, HW⟩ := hrel
    by_cases hlt : j < len
    · have HP3 := Lib.hid (HP2.out.next HW.out)
      obtain ⟨b, o, rfl, lt, hc⟩ := HP3.out.somes (by omega)
      have HMD := Lib.hid (show ((j : Int) + 1).tmod (len : Int) = (nx ps j : Nat) ∧ nx ps j < len by
        rw [HLE.out] at hlt ⊢; exact ⟨tmod_nx ps j, nx_lt hlt⟩)
      have j1 : (0 : Int) ≤ (j : Int) := by omega
      have j2 : (j : Int) < (len : Int) := by omega
      have u1 := keptCell (b := b) (o := o + j * 2) lt (hc j hlt).1
      have u2 := keptCell (b := b) (o := o + j * 2 + 1) lt (hc j hlt).2
      have u3 := keptCell (b := b) (o := o + nx ps j * 2) lt (hc (nx ps j) HMD.out.2).1
      have u4 := keptCell (b := b) (o := o + nx ps j * 2 + 1) lt (hc (nx ps j) HMD.out.2).2
      obtain ⟨u5, u6⟩ := (HX2.out.1.next HW.out).kepts
      obtain ⟨u7, u8⟩ := (HX2.out.2.next HW.out).kepts
      have HC := Lib.hid (fun (u : World) => l8MeetC p q (cor ps j) (cor ps (nx ps j)) u HO1.out HO2.out (HOK.out.cor (by rw [← HLE.out]; exact hlt)) (HOK.out.cor (by rw [← HLE.out]; exact HMD.out.2)))
      have hmd := HMD.out.1
      have m1 : (0 : Int) ≤ (nx ps j : Int) := by omega
      have m2 : (nx ps j : Int) < (len : Int) := by have := HMD.out.2; omega
      have hne : ¬ len = 0 := by omega
      have hne2 : ¬ (len : Int) = 0 := by omega
      clear hc
      by_cases hs : Meet p q (cor ps j) (cor ps (nx ps j))
      · have HV := Lib.hid (show true = decide (Hit ps p q) from (decide_eq_true (p := Hit ps p q) (.inr ⟨j, by rw [← HLE.out]; exact hlt, hs⟩)).symm)
        rw [decide_eq_true hs] at HC
        clear hs
        go_upto_region 6 with fail
        refine wp_region_ktail 14 (by kernel_rfl) (by kernel_rfl) ?_
        simp only [List.take_succ_cons, List.take_zero, List.drop_succ_cons, List.drop_zero]
        repeat (go_big_quiet_want; go_big_quiet_op; go_big_quiet_on)
        refine wpQuiet_nil ?_
        rintro w5 ⟨⟨_, K2⟩, rfl⟩
        have HB5 := Lib.hid (below_call HB2.out (below_call HW.out K2))
        clear u1 u2 u3 u4 u5 u6 u7 u8
        go_wp2_with fail
        refine (HC.out _).mono ?_
        rintro e w6 ⟨rfl, B⟩
        have HB6 := Lib.hid (below_call HB5.out B)
        clear B
        go_wp2
        go_ret
        exact ⟨ret_bool HV.out, HB6.out⟩
      · have HI2 := Lib.hid (show ∀ k, k < j + 1 → ¬ Meet p q (cor ps k) (cor ps (nx ps k)) from fun k hk => by
          by_cases e : k = j
          · subst e; exact hs
          · exact HI.out k (by omega))
        rw [decide_eq_false hs] at HC
        clear hs
        go_upto_region 6 with fail
        refine wp_region_ktail 14 (by kernel_rfl) (by kernel_rfl) ?_
        simp only [List.take_succ_cons, List.take_zero, List.drop_succ_cons, List.drop_zero]
        repeat (go_big_quiet_want; go_big_quiet_op; go_big_quiet_on)
        refine wpQuiet_nil ?_
        rintro w5 ⟨⟨_, K2⟩, rfl⟩
        have HW5 := Lib.hid (below_call HW.out K2)
        clear u1 u2 u3 u4 u5 u6 u7 u8
        go_wp2_with fail
        refine (HC.out _).mono ?_
        rintro e w6 ⟨rfl, B⟩
        have HW6 := Lib.hid (below_call HW5.out B)
        clear B
        go_wp2
        go_roundw
        case rel => exact ⟨j + 1, by omega, by congr 1, HI2, HW6⟩
        case measure => simp [intOf]; omega
    · obtain rfl : j = len := by omega
      have HV := Lib.hid (show false = decide (Hit ps p q) from (decide_eq_false (fun k => by
        rcases k with (k | k) | ⟨i, hi, hm⟩
        · exact HN.out.1 k
        · exact HN.out.2 k
        · exact HI.out i (by rw [HLE.out]; exact hi) hm)).symm)
      go_wp2
      go_ret
      exact ⟨ret_bool HV.out, below_call HB2.out HW.out⟩
theorem sOriC (a b c : P2) (w : World) : Calls Try.prog 48 #[pt a.1 a.2, pt b.1 b.2, pt c.1 c.2] w fun e w' => e = .returned (.int .i64 (ori a b c)) ∧ Below w.heap.size w w' :=
  specOrientation a.1 a.2 b.1 b.2 c.1 c.2 w
set_option maxHeartbeats 4000000 in
theorem specConvexValid (a : Option Addr) (len cap : Nat) (ps : List P2) (w : World) (hp : PL w a len ps) (hl : len ≤ 9223372036854775807) :
    Calls Try.prog 21 #[.slice a len cap] w fun e w' => e = .returned (.bool (decide (okCvx ps))) ∧ Below w.heap.size w w' := by
  have HLE := Lib.hid hp.1
  have HP := Lib.hid hp
  by_cases h38 : 3 ≤ len ∧ len ≤ 8
  · have HCV := Lib.hid (cvx_each (ps := ps) (by rw [← hp.1]; exact h38.1) (by rw [← hp.1]; exact h38.2))
    obtain ⟨h3, h8⟩ := h38
    clear hp
    go_enter Try.func21, Try.ntmps21
    go_wp2_with fail
    refine (l1In_yes (len : Int) 3 8 _ (by omega) (by omega)).mono ?_
    rintro e w' ⟨rfl, rfl⟩
    go_wp2
    go_loopw [4, 5] (fun i _ wr => ∃ k : Nat, k ≤ len ∧ i = .int .i64 (k : Int) ∧ Hid (∀ i, i < k → ∀ j, j < ps.length → j ≠ i → j ≠ nx ps i → ori (cor ps i) (cor ps (nx ps i)) (cor ps j) = 1) ∧ Hid (Below w.heap.size w wr)) (fun i _ _ => len - (intOf i).toNat)
    case atStart => exact ⟨0, Nat.zero_le _, rfl, Lib.hid (fun k hk => absurd hk (by omega)), Lib.hid (Below.refl _ _)⟩
    case round =>
      obtain ⟨k, hk, rfl, HI, HW⟩ := hrel
      by_cases hlt : k < len
      · have k1 : (0 : Int) ≤ (k : Int) := by omega
        have k2 : (k : Int) < (len : Int) := by omega
        have HMD := Lib.hid (show ((k : Int) + 1).tmod (len : Int) = (nx ps k : Nat) ∧ nx ps k < len by
          rw [HLE.out] at hlt ⊢; exact ⟨tmod_nx ps k, nx_lt hlt⟩)
        have hmd := HMD.out.1
        have m1 : (0 : Int) ≤ (nx ps k : Int) := by omega
        have m2 : (nx ps k : Int) < (len : Int) := by have := HMD.out.2; omega
        have hne : ¬ len = 0 := by omega
        have hne2 : ¬ (len : Int) = 0 := by omega
        go_wp2
        go_loopw [5] (fun i wr2 => ∃ j : Nat, j ≤ len ∧ i = .int .i64 (j : Int) ∧ Hid (∀ i, i < j → i ≠ k → i ≠ nx ps k → ori (cor ps k) (cor ps (nx ps k)) (cor ps i) = 1) ∧ Hid (Below w.heap.size w wr2)) (fun i _ => len - (intOf i).toNat)
        case atStart => exact ⟨0, Nat.zero_le _, rfl, Lib.hid (fun k hk => absurd hk (by omega)), HW⟩
        case round =>
          obtain ⟨j, hj, rfl, HJ, HW2⟩ := hrel
          by_cases hjl : j < len
          · have j1 : (0 : Int) ≤ (j : Int) := by omega
            have j2 : (j : Int) < (len : Int) := by omega
            by_cases e1 : j = k
            · have HJ2 := Lib.hid (show ∀ i, i < j + 1 → i ≠ k → i ≠ nx ps k → ori (cor ps k) (cor ps (nx ps k)) (cor ps i) = 1 from fun i hi z1 z2 => HJ.out i (by omega) z1 z2)
              have g1 : ((j : Int) != (k : Int)) = false := by subst e1; simp
              have g2 : decide (¬ (j : Int) = (k : Int)) = false := by subst e1; simp
              have g3 : ((j : Int) == (k : Int)) = true := by subst e1; simp
              clear e1
              go_upto_region 10 with fail
              refine wp_region_kept (by kernel_rfl) (by kernel_rfl) ?_
              repeat (go_big_quiet_step ((fail)))
              refine wpQuiet_nil ?_
              rintro w5 ⟨⟨_, K2⟩, rfl⟩
              have HW5 := Lib.hid (below_call HW2.out K2)
              go_wp2
              go_roundw
              case rel => exact ⟨j + 1, by omega, by congr 1, HJ2, HW5⟩
              case measure => simp [intOf]; omega
            · have g1 : ((j : Int) != (k : Int)) = true := by simp; omega
              have g2 : decide (¬ (j : Int) = (k : Int)) = true := by simp; omega
              have g3 : ((j : Int) == (k : Int)) = false := by simp; omega
              by_cases e2 : j = nx ps k
              · have HJ2 := Lib.hid (show ∀ i, i < j + 1 → i ≠ k → i ≠ nx ps k → ori (cor ps k) (cor ps (nx ps k)) (cor ps i) = 1 from fun i hi z1 z2 => HJ.out i (by omega) z1 z2)
                have g4 : ((j : Int) != (nx ps k : Int)) = false := by rw [e2]; simp
                have g5 : decide (¬ (j : Int) = (nx ps k : Int)) = false := by rw [e2]; simp
                have g6 : ((j : Int) == (nx ps k : Int)) = true := by rw [e2]; simp
                clear e1 e2
                go_upto_region 10 with fail
                refine wp_region_kept (by kernel_rfl) (by kernel_rfl) ?_
                repeat (go_big_quiet_step ((fail)))
                refine wpQuiet_nil ?_
                rintro w5 ⟨⟨_, K2⟩, rfl⟩
                have HW5 := Lib.hid (below_call HW2.out K2)
                go_wp2
                go_roundw
                case rel => exact ⟨j + 1, by omega, by congr 1, HJ2, HW5⟩
                case measure => simp [intOf]; omega
              · have g4 : ((j : Int) != (nx ps k : Int)) = true := by simp; omega
                have g5 : decide (¬ (j : Int) = (nx ps k : Int)) = true := by simp; omega
                have g6 : ((j : Int) == (nx ps k : Int)) = false := by simp; omega
                have HP3 := Lib.hid (HP.out.next HW2.out)
                obtain ⟨b, o, rfl, lt, hc⟩ := HP3.out.somes (by omega)
                have u1 := keptCell (b := b) (o := o + k * 2) lt (hc k hlt).1
                have u2 := keptCell (b := b) (o := o + k * 2 + 1) lt (hc k hlt).2
                have u3 := keptCell (b := b) (o := o + nx ps k * 2) lt (hc (nx ps k) HMD.out.2).1
                have u4 := keptCell (b := b) (o := o + nx ps k * 2 + 1) lt (hc (nx ps k) HMD.out.2).2
                have u5 := keptCell (b := b) (o := o + j * 2) lt (hc j hjl).1
                have u6 := keptCell (b := b) (o := o + j * 2 + 1) lt (hc j hjl).2
                have HC := Lib.hid (fun (q : Kept wr) => keptCall (sOriC (cor ps k) (cor ps (nx ps k)) (cor ps j) q.u))
                clear hc
                by_cases hs : ori (cor ps k) (cor ps (nx ps k)) (cor ps j) = 1
                · have HJ2 := Lib.hid (show ∀ i, i < j + 1 → i ≠ k → i ≠ nx ps k → ori (cor ps k) (cor ps (nx ps k)) (cor ps i) = 1 from fun i hi z1 z2 => by
                    by_cases e : i = j
                    · subst e; exact hs
                    · exact HJ.out i (by omega) z1 z2)
                  rw [hs] at HC
                  clear e1 e2 hs
                  go_upto_region 10 with fail
                  refine wp_region_kept (by kernel_rfl) (by kernel_rfl) ?_
                  repeat (go_big_quiet_step ((go_at_call 48; with_reducible exact HC.out _)))
                  refine wpQuiet_nil ?_
                  rintro w5 ⟨⟨_, K2⟩, rfl⟩
                  have HW5 := Lib.hid (below_call HW2.out K2)
                  clear u1 u2 u3 u4 u5 u6 HC
                  go_wp2
                  go_roundw
                  case rel => exact ⟨j + 1, by omega, by congr 1, HJ2, HW5⟩
                  case measure => simp [intOf]; omega
                · have HV := Lib.hid (show false = decide (okCvx ps) from (decide_eq_false fun ok => hs (HCV.out.2 ok k (by rw [← HLE.out]; exact hlt) j (by rw [← HLE.out]; exact hjl) e1 e2)).symm)
                  have g7 : (ori (cor ps k) (cor ps (nx ps k)) (cor ps j) != 1) = true := by simpa using hs
                  have g8 : (ori (cor ps k) (cor ps (nx ps k)) (cor ps j) == 1) = false := by simpa using hs
                  clear e1 e2
                  go_upto_region 10 with fail
                  refine wp_region_kept (by kernel_rfl) (by kernel_rfl) ?_
                  repeat (go_big_quiet_step ((go_at_call 48; with_reducible exact HC.out _)))
                  refine wpQuiet_nil ?_
                  rintro w5 ⟨⟨_, K2⟩, rfl⟩
                  have HW5 := Lib.hid (below_call HW2.out K2)
                  clear u1 u2 u3 u4 u5 u6 HC
                  go_wp2
                  go_ret
                  exact ⟨ret_bool HV.out, HW5.out⟩
          · obtain rfl : j = len := by omega
            have HI2 := Lib.hid (show ∀ i, i < k + 1 → ∀ j, j < ps.length → j ≠ i → j ≠ nx ps i → ori (cor ps i) (cor ps (nx ps i)) (cor ps j) = 1 from fun i hi q z0 z1 z2 => by
              by_cases e : i = k
              · subst e; exact HJ.out q (by rw [HLE.out]; exact z0) z1 z2
              · exact HI.out i (by omega) q z0 z1 z2)
            go_wp2
            go_roundw
            case rel => exact ⟨k + 1, by omega, by congr 1, HI2, HW2⟩
            case measure => simp [intOf]; omega
      · obtain rfl : k = len := by omega
        have HV := Lib.hid (show true = decide (okCvx ps) from (decide_eq_true (HCV.out.1 (fun i hi j hj z1 z2 => HI.out i (by rw [HLE.out]; exact hi) j hj z1 z2))).symm)
        go_wp2
        go_ret
        exact ⟨ret_bool HV.out, HW.out⟩
  · have HV := Lib.hid (show false = decide (okCvx ps) from (decide_eq_false fun ok => h38 (by have := HLE.out; exact ⟨by have := ok.1; omega, by have := ok.2.1; omega⟩)).symm)
    clear hp
    go_enter Try.func21, Try.ntmps21
    go_wp2_with fail
    refine (l1In_no (len : Int) 3 8 _ (by omega)).mono ?_
    rintro e w' ⟨rfl, rfl⟩
    go_wp2
    go_ret
    exact ⟨ret_bool HV.out, Below.refl _ _⟩
end Go.Proofs.Ytkmopgdnaohcdaa
