/- The walk of the law FnConvexValid: it returns true at every code. -/
import Derived.Test.YtkmopgdnaohcdaaWd8
namespace Go.Proofs.Ytkmopgdnaohcdaa
set_option maxRecDepth 100000
open Go.RowKit
attribute [local go_sem ↓] Go.wp_at_zero Go.wp_at_succ
theorem drop_rev {ps : List P2} {j : Nat} (h : j < ps.length) : (ps.drop (j + 1)).reverse ++ [((cor ps j).1, (cor ps j).2)] = (ps.drop j).reverse := by
  have e : cor ps j = ps[j] := by unfold cor; rw [List.getD_eq_getElem?_getD, List.getElem?_eq_getElem h]; rfl
  rw [List.drop_eq_getElem_cons h, List.reverse_cons, e]
set_option maxHeartbeats 2000000 in
theorem walkFnConvexValid (w : World) (a : Option Addr) (len cap : Nat) (zs : List Int) (h : Bytes w a len cap zs) :
    Calls Try.prog 3 #[.slice a len cap] w fun e w' => e = .returned (.bool true) ∧ Below w.heap.size w w' := by
  obtain ⟨i0, hi0, hz0, hz1, hz2⟩ := info_parts infoPt6
  have hle := h.len_le
  obtain ⟨hl, hm⟩ := hle
  unfold maxLen at hm
  by_cases hbig : 1048576 < len
  · go_enter Try.func3, Try.ntmps3
    go_wp2
    go_ret
    exact ⟨rfl, Below.refl _ _⟩
  · go_enter Try.func3, Try.ntmps3
    go_wp2_with fail
    refine (drawConvexValid w a len cap zs h).mono ?_
    rintro e w1 ⟨⟨sa, sl, sc⟩, ps, rfl, P, hn, B1, hc⟩
    simp only at P hc
    have hsl : sl ≤ 16 := by have := P.1; omega
    have HB := Lib.hid B1
    have HP := Lib.hid P
    have HC := Lib.hid hc
    clear B1 P h hl hm hbig hc
    by_cases hv : okCvx ps
    · have HV := Lib.hid hv
      have h3 : 3 ≤ sl := by have := hv.1; have := HP.out.1; omega
      have hcp : sl ≤ sc := HC.out
      clear hv HC
      go_wp2_with fail
      refine (iCvxV sa sl sc ps true (decide_eq_true HV.out) _ HP.out (by omega)).mono ?_
      rintro e w2 ⟨rfl, B2⟩
      replace HP := Lib.hid (HP.out.next B2)
      replace HB := Lib.hid (below_call HB.out B2)
      clear B2
      go_wp2_with fail
      refine (sCvxV sa sl sc ps true (decide_eq_true HV.out) _ HP.out (by omega)).mono ?_
      rintro e w3 ⟨rfl, B3⟩
      replace HP := Lib.hid (HP.out.next B3)
      replace HB := Lib.hid (below_call HB.out B3)
      clear B3
      obtain ⟨b, o, rfl, lt, hcell⟩ := HP.out.somes (by omega)
      have HCL := Lib.hid hcell
      have HLE := Lib.hid HP.out.1
      have hn16 : ps.length ≤ 16 := hn
      clear hcell
      have HR0 := Lib.hid (Ro.empty (Below.refl w3.heap.size w3) 28 rfl)
      go_wp2
      go_loopw [5, 6] (fun v i wr => ∃ k : Nat, k ≤ sl ∧ i = .int .i64 ((k : Int) - 1) ∧ Hid (Ro w3 wr v (ps.drop k).reverse)) (fun _ i _ => (intOf i + 1).toNat)
      case atStart => exact ⟨sl, Nat.le_refl _, rfl, Lib.hid (by rw [HLE.out, List.drop_length]; exact HR0.out)⟩
      case round =>
        obtain ⟨k, hk, rfl, HR⟩ := hrel
        clear HR0
        by_cases hk0 : 0 < k
        · obtain ⟨j, rfl⟩ : ∃ j, k = j + 1 := ⟨k - 1, by omega⟩
          have ej : (((j + 1 : Nat) : Int) - 1) = (j : Int) := by omega
          rw [ej]
          clear ej
          have hj : j < sl := by omega
          have j1 : (j : Int) < (sl : Int) := by omega
          have j0 : (0 : Int) ≤ (j : Int) := by omega
          have hjp := Lib.hid (show j < ps.length by rw [← HLE.out]; omega)
          have d0 : wr.cell? ⟨b, o + j * 2, none⟩ = some (.int .i64 (cor ps j).1) := (HR.out.bel.cell (p := ⟨b, o + j * 2, none⟩) lt).trans (HCL.out j hj).1
          have d1 : wr.cell? ⟨b, o + j * 2 + 1, none⟩ = some (.int .i64 (cor ps j).2) := (HR.out.bel.cell (p := ⟨b, o + j * 2 + 1, none⟩) lt).trans (HCL.out j hj).2
          have HDR := Lib.hid (drop_rev hjp.out)
          obtain ⟨L, hL⟩ : ∃ L, (ps.drop (j + 1)).reverse = L := ⟨_, rfl⟩
          have HLN := Lib.hid (show L.length ≤ 16 by rw [← hL]; simp; omega)
          rw [hL] at HR HDR
          clear hL
          obtain ⟨x, hx⟩ : ∃ x, (cor ps j).1 = x := ⟨_, rfl⟩
          obtain ⟨y, hy⟩ : ∃ y, (cor ps j).2 = y := ⟨_, rfl⟩
          rw [hx] at d0
          rw [hy] at d1
          rw [hx, hy] at HDR
          clear hx hy
          have S2 := Lib.hid (HR.out.next (below_box wr (.cells #[.int .i64 x, .int .i64 y] 28)))
          have HN := Lib.hid (two_new6 wr (.int .i64 x) (.int .i64 y) 28)
          have HPV := Lib.hid (pvals_snoc6 L (x, y))
          have HW := Lib.hid S2.out.bel.size
          clear HR
          go_wp2_with (at_builtin; refine wpList_append_lies _ rfl (.tmp 29) (.tmp 34) 23 rfl w3.heap.size 28 i0 (pt 0 0) 2 16 Try.underlying23 hi0 hz0 hz1 hz2 rfl (by decide) _ L.length (pvals L) rfl S2.out.own ⟨wr.heap.size, 0, none⟩ 1 1 [.int .i64 x, .int .i64 y] rfl rfl HN.out (by intro u hu; simp at hu; rcases hu with rfl | rfl <;> rfl) (by omega) (by have := HLN.out; unfold maxLen; omega) (by have := HLN.out; omega) HW.out _ rfl ?_; intro g cap6 w7 own7 grow7 at7 ltg7; have HA7 := Lib.hid (And.intro own7 grow7); clear own7 grow7 at7 ltg7)
          have HR := Lib.hid (S2.out.app (v' := .slice (some ⟨g, 0, none⟩) (L.length + 1) cap6) (H' := L ++ [(x, y)]) HA7.out.2 (by have o := HA7.out.1; rw [← HPV.out] at o; unfold OwnPt; rw [List.length_append]; exact o))
          clear HA7 S2
          go_roundw
          case rel => exact ⟨j, by omega, rfl, Lib.hid (by rw [← HDR.out]; exact HR.out)⟩
          case measure => simp [intOf]
        · obtain rfl : k = 0 := by omega
          have HR1 := Lib.hid HR.out
          have HP1 := Lib.hid (HP.out.next HR.out.bel)
          have HB1 := Lib.hid (below_call HB.out HR.out.bel)
          clear HR HB HP HCL
          have ej : (((0 : Nat) : Int) - 1) = -1 := by omega
          rw [ej]
          clear ej
          obtain ⟨ra, rn, rc, rfl, hrn⟩ := HR1.out.sl
          rw [List.drop_zero] at HR1 hrn
          replace hrn := Lib.hid hrn
          go_wp2_with fail
          refine (turnListC _ sl sc ps _ HP1.out (by omega) (by omega) hcp).mono ?_
          rintro e w5 ⟨⟨ta, tl, tc⟩, rfl, O5, B5⟩
          replace HB1 := Lib.hid (below_call HB1.out B5)
          replace HR1 := Lib.hid (HR1.out.next B5)
          have HO : Hid (PL w5 ta tl (trn ps)) := Lib.hid (OwnPt.ints O5).pl
          have htl : tl ≤ 16 := by have := HO.out.1; rw [trn_len] at this; omega
          clear B5 O5 HP1
          go_wp2_with fail
          refine (iCvxV ta tl tc (trn ps) true (decide_eq_true HV.out.trn) _ HO.out (by omega)).mono ?_
          rintro e w6 ⟨rfl, B6⟩
          replace HB1 := Lib.hid (below_call HB1.out B6)
          replace HR1 := Lib.hid (HR1.out.next B6)
          clear B6 HO
          go_wp2_with fail
          refine (iCvxV ra rn rc ps.reverse false (decide_eq_false (rev_not HV.out)) _ (OwnPt.ints HR1.out.own).pl (by have := hrn.out; rw [List.length_reverse] at this; omega)).mono ?_
          rintro e w7 ⟨rfl, B7⟩
          replace HB1 := Lib.hid (below_call HB1.out B7)
          clear B7 HR1
          go_wp2
          go_ret
          exact ⟨rfl, HB1.out⟩
    · have HV := Lib.hid hv
      clear hv
      go_wp2_with fail
      refine (iCvxV sa sl sc ps false (decide_eq_false HV.out) _ HP.out (by omega)).mono ?_
      rintro e w2 ⟨rfl, B2⟩
      replace HP := Lib.hid (HP.out.next B2)
      replace HB := Lib.hid (below_call HB.out B2)
      clear B2
      go_wp2_with fail
      refine (sCvxV sa sl sc ps false (decide_eq_false HV.out) _ HP.out (by omega)).mono ?_
      rintro e w3 ⟨rfl, B3⟩
      replace HB := Lib.hid (below_call HB.out B3)
      clear B3
      go_wp2_with fail
      refine (alive _).mono ?_
      rintro e w' ⟨rfl, rfl⟩
      go_wp2
      go_ret
      exact ⟨rfl, HB.out⟩
end Go.Proofs.Ytkmopgdnaohcdaa
