/- The document's tests of a point and of a segment against a polygon. -/
import Derived.Test.YtkmopgdnaohcdaaDm8
import Derived.Test.YtkmopgdnaohcdaaKTw
namespace Go.Proofs.Ytkmopgdnaohcdaa
set_option maxRecDepth 100000
open Go.RowKit
attribute [local go_sem ↓] Go.wp_at_zero Go.wp_at_succ
set_option maxHeartbeats 2000000 in
theorem l8InsideC (a : Option Addr) (len cap : Nat) (ps : List P2) (p : P2) (w : World) (hp : PL w a len ps) (hl : len ≤ 1000) (hk : okPts ps) (hq : okQ p) :
    Calls Try.prog 63 #[.slice a len cap, pt p.1 p.2] w fun e w' => e = .returned (.bool (decide (Ins ps p))) ∧ Below w.heap.size w w' := by
  have HLE := Lib.hid hp.1
  have HOK := Lib.hid hk
  have HOQ := Lib.hid hq
  have HB := Lib.hid (below_box w (.cells #[.int .i64 p.1, .int .i64 p.2] 28))
  have HX := Lib.hid (AtP.box w p.1 p.2 28)
  have HP := Lib.hid (hp.next HB.out)
  clear hp hk hq
  go_enter Try.func63, Try.ntmps63
  go_wp2
  generalize w.alloc (.cells #[.int .i64 p.1, .int .i64 p.2] 28) = w0 at *
  go_loopw [5] (fun i wr => ∃ j : Nat, j ≤ len ∧ i = .int .i64 (j : Int) ∧ Hid (∀ k, k < j → 0 ≤ cr (cor ps k) (cor ps (nx ps k)) p) ∧ Hid (Below w0.heap.size w0 wr)) (fun i _ => len - (intOf i).toNat)
  case atStart => exact ⟨0, Nat.zero_le _, rfl, Lib.hid (fun k hk => absurd hk (by omega)), Lib.hid (Below.refl _ _)⟩
  case round =>
    obtain ⟨j, hj, rfl, HI, HW⟩ := hrel
    by_cases hlt : j < len
    · have HP1 := Lib.hid (HP.out.next HW.out)
      have HX1 := Lib.hid (HX.out.next HW.out)
      obtain ⟨b, o, rfl, lt, hc⟩ := HP1.out.somes (by omega)
      have HMD := Lib.hid (show ((j : Int) + 1).tmod (len : Int) = (nx ps j : Nat) ∧ nx ps j < len by
        rw [HLE.out] at hlt ⊢; exact ⟨tmod_nx ps j, nx_lt hlt⟩)
      have j1 : (0 : Int) ≤ (j : Int) := by omega
      have j2 : (j : Int) < (len : Int) := by omega
      have u1 := keptCell (b := b) (o := o + j * 2) lt (hc j hlt).1
      have u2 := keptCell (b := b) (o := o + j * 2 + 1) lt (hc j hlt).2
      have u3 := keptCell (b := b) (o := o + nx ps j * 2) lt (hc (nx ps j) HMD.out.2).1
      have u4 := keptCell (b := b) (o := o + nx ps j * 2 + 1) lt (hc (nx ps j) HMD.out.2).2
      obtain ⟨u5, u6⟩ := HX1.out.kepts
      have HC := Lib.hid (fun (q : Kept wr) => keptCall (crossC (cor ps j) (cor ps (nx ps j)) p q.u (HOK.out.cor (by rw [← HLE.out]; exact hlt)) (HOK.out.cor (by rw [← HLE.out]; exact HMD.out.2)) HOQ.out))
      have hmd := HMD.out.1
      have m1 : (0 : Int) ≤ (nx ps j : Int) := by omega
      have m2 : (nx ps j : Int) < (len : Int) := by have := HMD.out.2; omega
      have hne : ¬ len = 0 := by omega
      have hne2 : ¬ (len : Int) = 0 := by omega
      clear hc
      by_cases hs : cr (cor ps j) (cor ps (nx ps j)) p < 0
      · have HV := Lib.hid (show false = decide (Ins ps p) from (decide_eq_false fun k => by have := k j (by rw [← HLE.out]; exact hlt); exact absurd hs (by unfold nx; omega)).symm)
        have hd : decide (cr (cor ps j) (cor ps (nx ps j)) p < 0) = true := decide_eq_true hs
        clear hs
        go_upto_region 4 with fail
        refine wp_region_ktail 14 (by kernel_rfl) (by kernel_rfl) ?_
        simp only [List.take_succ_cons, List.take_zero, List.drop_succ_cons, List.drop_zero]
        repeat (go_big_quiet_step ((go_at_call 75; with_reducible exact HC.out _)))
        refine wpQuiet_nil ?_
        rintro w2 ⟨⟨_, K2⟩, rfl⟩
        have HB2 := Lib.hid (below_call HB.out (below_call HW.out K2))
        clear u1 u2 u3 u4 u5 u6 HC
        go_wp2
        go_ret
        exact ⟨ret_bool HV.out, HB2.out⟩
      · have HN := Lib.hid (show ∀ k, k < j + 1 → 0 ≤ cr (cor ps k) (cor ps (nx ps k)) p from fun k hk => by
          by_cases e : k = j
          · subst e; omega
          · exact HI.out k (by omega))
        have hd : decide (cr (cor ps j) (cor ps (nx ps j)) p < 0) = false := decide_eq_false hs
        clear hs
        go_upto_region 4 with fail
        refine wp_region_ktail 14 (by kernel_rfl) (by kernel_rfl) ?_
        simp only [List.take_succ_cons, List.take_zero, List.drop_succ_cons, List.drop_zero]
        repeat (go_big_quiet_step ((go_at_call 75; with_reducible exact HC.out _)))
        refine wpQuiet_nil ?_
        rintro w2 ⟨⟨_, K2⟩, rfl⟩
        have HW2 := Lib.hid (below_call HW.out K2)
        clear u1 u2 u3 u4 u5 u6 HC
        go_wp2
        go_roundw
        case rel => exact ⟨j + 1, by omega, by congr 1, HN, HW2⟩
        case measure => simp [intOf]; omega
    · obtain rfl : j = len := by omega
      have HV := Lib.hid (show true = decide (Ins ps p) from (decide_eq_true (p := Ins ps p) (fun k hk => HI.out k (by rw [HLE.out]; exact hk))).symm)
      go_wp2
      go_ret
      exact ⟨ret_bool HV.out, below_call HB.out HW.out⟩
end Go.Proofs.Ytkmopgdnaohcdaa
