/- Several of my texts in one: Fc10, Sp10, Sf10. -/
import Derived.Test.YtkogoflcacameaaDoorZb10c
import Derived.Test.YtkogoflcacameaaDoorZb10i
import Derived.Laws.Cover3
import Derived.Test.YtkogoflcacameaaDoorZbPr
import Derived.Test.YtkogoflcacameaaDoorZbChn
import Derived.Test.YtkogoflcacameaaDoorZbDh
namespace Go.Proofs.YtkogoflcacameaaDoor
set_option maxRecDepth 100000
open Go.RowKit
attribute [local go_sem ↓] Go.wp_at_zero Go.wp_at_succ
theorem eqlNil (t e : TypeId) (a : Option Addr) (l c : Nat) (u : World) (h : Tryd.prog.underlying t = some (.slice e)) : (binOp .eql t (.slice a l c) (.slice none 0 0)).run Tryd.prog u = .ok (.bool a.isNone) u := by
  simp only [binOp]
  simp [Go.run_equal_slice_nil u t e a l c h]
/-- A box of one cell. -/
def Bx1 (w : World) (p : Nat) (v : Value) : Prop := p < w.heap.size ∧ w.cell? ⟨p, 0, none⟩ = some v
theorem Bx1.next {w w' : World} {p : Nat} {v : Value} (h : Bx1 w p v) (hb : Below w.heap.size w w') : Bx1 w' p v :=
  ⟨Nat.lt_of_lt_of_le h.1 hb.size, (hb.cell (p := ⟨p, 0, none⟩) h.1).trans h.2⟩
theorem Bx1.box (w : World) (v : Value) (T : TypeId) : Bx1 (w.alloc (.cells #[v] T)) w.heap.size v := ⟨by simp, by simp⟩
theorem fcV_in {ls lo hi : List Int} {rows : List (List Int)} {pss : List (List P2)} (h1 : okArm ls lo hi) (h2 : scnV pss) (h3 : rows.length ≤ 400) : fcV ls lo hi rows pss = firstV (okRow ls lo hi pss) rows 0 := by
  unfold fcV; exact if_pos ⟨h1, h2, h3⟩
theorem fcV_out {ls lo hi : List Int} {rows : List (List Int)} {pss : List (List P2)} (h : ¬ (okArm ls lo hi ∧ scnV pss ∧ rows.length ≤ 400)) : fcV ls lo hi rows pss = -2 := by
  unfold fcV; exact if_neg h
end Go.Proofs.YtkogoflcacameaaDoor
namespace Go.Proofs.YtkogoflcacameaaDoor
set_option maxRecDepth 100000
open Go.RowKit
attribute [local go_sem ↓] Go.wp_at_zero Go.wp_at_succ
noncomputable instance (pss : List (List P2)) (qs : List P2) : Decidable (clrV pss qs) := Classical.propDecidable _
noncomputable instance (qs : List P2) : Decidable (slfV qs) := Classical.propDecidable _
set_option maxHeartbeats 4000000 in
theorem l10ClearC (x y z j s : Sl) (ls lo hi js : List Int) (pss : List (List P2)) (w : World) (hx : IntsAt w x.a x.len ls) (hj : IntsAt w j.a j.len js) (hok : okJoints ls lo hi js) (hp : PSS w s.a s.len pss) (hv : scnV pss) :
    Calls Tryd.prog 33 #[av x y z, .slice j.a j.len j.cap, .slice s.a s.len s.cap] w fun e w' => e = .returned (.bool (decide (clrV pss (ptsL ls js)))) ∧ Below w.heap.size w w' := by
  have HB := Lib.hid (below_box w (.cells #[.slice x.a x.len x.cap, .slice y.a y.len y.cap, .slice z.a z.len z.cap] 25))
  have HL3 := Lib.hid (l3Points x y z j ls lo hi js _ (hx.next HB.out) (hj.next HB.out) hok)
  have HP := Lib.hid (hp.next HB.out)
  have HPL := Lib.hid (ptsL_len ls js)
  have HOQ := Lib.hid (fun k (hk : k ≤ ls.length) => okQ_pt hok k hk)
  have n4 := hok.1.2.1
  have HSC := Lib.hid hv
  have HSN := Lib.hid (show s.len = pss.length from hp.1)
  obtain ⟨sa, sl, sc⟩ := s
  simp only at *
  have hs6 : sl ≤ 6 := by have := hv.1; have := HSN.out; omega
  clear hx hj hok hp hv
  generalize ptsL ls js = qs at *
  generalize ls.length = n at *
  go_enter Tryd.func33, Tryd.ntmps33
  go_wp2_with fail
  refine HL3.out.mono ?_
  generalize w.alloc (.cells #[.slice x.a x.len x.cap, .slice y.a y.len y.cap, .slice z.a z.len z.cap] 25) = w0 at *
  rintro e w1 ⟨v, rfl, O1, B1⟩
  obtain ⟨⟨ea, el, ec⟩, rfl, he⟩ := O1.sl
  have HQ := Lib.hid (OwnPt.ints O1).pl
  have HB1 := Lib.hid (below_call HB.out B1)
  have HP1 := Lib.hid (HP.out.next B1)
  have hel : el = n + 1 := by rw [← HPL.out]; exact he
  clear O1 B1 he HL3 HP
  subst hel
  go_wp2
  go_loopw [8] (fun kv wr => ∃ k : Nat, k ≤ n ∧ kv = .int .i64 (k : Int) ∧ Hid (∀ i, i < k → ∀ o ∈ pss, ¬ Hit o (cor qs i) (cor qs (i + 1))) ∧ Hid (Below w1.heap.size w1 wr)) (fun kv _ => n - (intOf kv).toNat)
  case atStart => exact ⟨0, Nat.zero_le _, rfl, Lib.hid (fun k hk => absurd hk (by omega)), Lib.hid (Below.refl _ _)⟩
  case round =>
    obtain ⟨k, hk, rfl, HI, HW⟩ := hrel
    by_cases hlt : k < n
    · have k1 : (k : Int) + 1 < ((n + 1 : Nat) : Int) := by omega
      have k2 : (k : Int) + 1 < (n : Int) + 1 := by omega
      have k3 : (k : Int) < (n : Int) := by omega
      have HW0 := Lib.hid HW.out
      go_wp2
      go_loopw [9] (fun jv wr => ∃ j : Nat, j ≤ sl ∧ jv = .int .i64 (j : Int) ∧ Hid (∀ i, i < j → ¬ Hit (pss.getD i []) (cor qs k) (cor qs (k + 1))) ∧ Hid (Below w1.heap.size w1 wr)) (fun jv _ => sl - (intOf jv).toNat)
      case atStart => exact ⟨0, Nat.zero_le _, rfl, Lib.hid (fun k hk => absurd hk (by omega)), HW0⟩
      case round =>
        clear HW HW0
        obtain ⟨j, hj, rfl, HJ, HW⟩ := hrel
        by_cases hjt : j < sl
        · have HP2 := Lib.hid (HP1.out.next HW.out)
          have HQ2 := Lib.hid (HQ.out.next HW.out)
          obtain ⟨b2, rfl, lt2, hc2⟩ := HP2.out.some (by omega)
          obtain ⟨t, d1, I1, I2⟩ := hc2 j hjt
          obtain ⟨be, oe, rfl, lte, hce⟩ := HQ2.out.somes (by omega)
          have hjp : j < pss.length := by rw [← HSN.out]; exact hjt
          have HOC := Lib.hid (HSC.out.2 _ (at_mem10 hjp))
          have j1 : (0 : Int) ≤ (j : Int) := by omega
          have j2 : (j : Int) < (sl : Int) := by omega
          have j3 : (0 : Int) ≤ (k : Int) := by omega
          have j4 : (k : Int) < ((n + 1 : Nat) : Int) := by omega
          have j5 : (k : Int) < (n : Int) + 1 := by omega
          have j6 : (0 : Int) ≤ (k : Int) + 1 := by omega
          have u0 := keptCell lt2 d1
          have u1 := keptCell (b := be) (o := oe + k * 2) lte (hce k (by omega)).1
          have u2 := keptCell (b := be) (o := oe + k * 2 + 1) lte (hce k (by omega)).2
          have u3 := keptCell (b := be) (o := oe + (k + 1) * 2) lte (hce (k + 1) (by omega)).1
          have u4 := keptCell (b := be) (o := oe + (k + 1) * 2 + 1) lte (hce (k + 1) (by omega)).2
          have HC := Lib.hid (fun (q : Kept wr) => keptCall (l8HitC t.a t.len t.cap (pss.getD j []) (cor qs k) (cor qs (k + 1)) q.u (I1.next q.b) (by have := I1.1; have := HOC.out.2.1; omega) HOC.out.2.2.1 (HOQ.out k (by omega)) (HOQ.out (k + 1) (by omega))))
          unfold slQ at u0
          have HMEM := Lib.hid (at_mem10 hjp)
          clear hc2 hce d1 I1
          by_cases hh : Hit (pss.getD j []) (cor qs k) (cor qs (k + 1))
          · rw [decide_eq_true hh] at HC
            have HV := Lib.hid (show false = decide (clrV pss qs) from (decide_eq_false (p := clrV pss qs) (fun q => q k (by rw [HPL.out]; omega) _ HMEM.out hh)).symm)
            clear hh
            generalize cor qs k = p at *
            generalize cor qs (k + 1) = p' at *
            go_upto_region 8 with fail
            refine wp_region_kept (by kernel_rfl) (by kernel_rfl) ?_
            repeat (go_big_quiet_step ((go_at_call 60; with_reducible exact HC.out _)))
            refine wpQuiet_nil ?_
            rintro w5 ⟨⟨_, K2⟩, rfl⟩
            have HW5 := Lib.hid (below_call HB1.out (below_call HW.out K2))
            clear u0 u1 u2 u3 u4 HC K2
            go_wp2
            go_ret
            exact ⟨ret_bool HV.out, HW5.out⟩
          · rw [decide_eq_false hh] at HC
            have HJ2 : Hid (∀ i, i < j + 1 → ¬ Hit (pss.getD i []) (cor qs k) (cor qs (k + 1))) := Lib.hid fun i hi => by
              by_cases e : i = j
              · subst e; exact hh
              · exact HJ.out i (by omega)
            clear hh HJ
            have HJ3 := Lib.hid HJ2.out
            generalize cor qs k = p at *
            generalize cor qs (k + 1) = p' at *
            go_upto_region 8 with fail
            refine wp_region_kept (by kernel_rfl) (by kernel_rfl) ?_
            repeat (go_big_quiet_step ((go_at_call 60; with_reducible exact HC.out _)))
            refine wpQuiet_nil ?_
            rintro w5 ⟨⟨_, K2⟩, rfl⟩
            have HW5 := Lib.hid (below_call HW.out K2)
            clear u0 u1 u2 u3 u4 HC K2
            go_wp2
            go_roundw
            case rel => exact ⟨j + 1, by omega, by congr 1, HJ3, HW5⟩
            case measure => simp [intOf]; omega
        · obtain rfl : j = sl := by omega
          have HI2 : Hid (∀ i, i < k + 1 → ∀ o ∈ pss, ¬ Hit o (cor qs i) (cor qs (i + 1))) := Lib.hid fun i hi o ho => by
            by_cases e : i = k
            · subst e
              obtain ⟨q, hq, rfl⟩ := mem_at10 ho
              exact HJ.out q (by rw [HSN.out]; exact hq)
            · exact HI.out i (by omega) o ho
          go_wp2
          go_roundw
          case rel => exact ⟨k + 1, by omega, by congr 1, HI2, HW⟩
          case measure => simp [intOf]; omega
    · obtain rfl : k = n := by omega
      have k1 : ¬ ((k : Int) + 1 < ((k + 1 : Nat) : Int)) := by omega
      have k2 : ¬ ((k : Int) + 1 < (k : Int) + 1) := by omega
      have HV := Lib.hid (show true = decide (clrV pss qs) from (decide_eq_true (p := clrV pss qs) (fun i hi o ho => HI.out i (by rw [HPL.out] at hi; omega) o ho)).symm)
      go_wp2
      go_ret
      exact ⟨ret_bool HV.out, below_call HB1.out HW.out⟩
end Go.Proofs.YtkogoflcacameaaDoor
namespace Go.Proofs.YtkogoflcacameaaDoor
set_option maxRecDepth 100000
open Go.RowKit
attribute [local go_sem ↓] Go.wp_at_zero Go.wp_at_succ
end Go.Proofs.YtkogoflcacameaaDoor
