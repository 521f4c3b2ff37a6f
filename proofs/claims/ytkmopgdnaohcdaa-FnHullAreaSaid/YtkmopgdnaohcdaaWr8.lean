/- The walk of the law FnHullArea: it returns true at every code. -/
import Derived.Test.YtkmopgdnaohcdaaWd8
import Derived.Test.YtkmopgdnaohcdaaHu8
import Derived.Test.YtkmopgdnaohcdaaBo8
import Derived.Test.YtkmopgdnaohcdaaZbRow
namespace Go.Proofs.Ytkmopgdnaohcdaa
set_option maxRecDepth 100000
open Go.RowKit
attribute [local go_sem ↓] Go.wp_at_zero Go.wp_at_succ
theorem lowB_len9 (ps : List P2) : (lowB ps).length ≤ ps.length := by
  have := bord_len ps []
  unfold lowB; rw [List.length_reverse]; simpa using this
theorem hulLen (ps : List P2) (_ : ps.length ≤ 16) : (hulV ps).length ≤ 32 := by
  unfold hulV
  split
  case isTrue h =>
    unfold joinB
    split
    · simp
    · have h1 := lowB_len9 (srt ps)
      have h2 := lowB_len9 (srt ps).reverse
      have h3 := h.1
      rw [List.length_reverse] at h2
      rw [srt_len] at h1 h2
      simp only [List.length_append, List.length_dropLast]
      omega
  case isFalse h => simp
theorem PL.front {w : World} {b o len : Nat} {ps : List P2} (h : PL w (some ⟨b, o, none⟩) len ps) (h1 : 1 ≤ len) : PL w (some ⟨b, o, none⟩) (len - 1) ps.dropLast := by
  have k := h.sub (i := 0) (j := len - 1) (Nat.zero_le _) (by omega)
  rw [List.drop_zero, h.1, ← List.dropLast_eq_take, ← h.1] at k
  exact k
set_option maxHeartbeats 2000000 in
theorem walkFnHullArea (w : World) (a : Option Addr) (len cap : Nat) (zs : List Int) (h : Bytes w a len cap zs) :
    Calls Try.prog 10 #[.slice a len cap] w fun e w' => e = .returned (.bool true) ∧ Below w.heap.size w w' := by
  have hle := h.len_le
  obtain ⟨hl, hm⟩ := hle
  unfold maxLen at hm
  by_cases hbig : 1048576 < len
  · go_enter Try.func10, Try.ntmps10
    go_wp2
    go_ret
    exact ⟨rfl, Below.refl _ _⟩
  · go_enter Try.func10, Try.ntmps10
    go_wp2_with fail
    refine (drawHullOf w a len cap zs h).mono ?_
    rintro e w1 ⟨⟨sa, sl, sc⟩, ps, rfl, P, hn, B1, hc⟩
    simp only at P hc
    have hsl : sl ≤ 16 := by have := P.1; omega
    have HB := Lib.hid B1
    have HP := Lib.hid P
    have HC := Lib.hid hc
    clear B1 P h hl hm hbig hc
    have HLN := Lib.hid (hulLen ps hn)
    go_wp2_with fail
    refine (implHullOf sa sl sc ps _ HP.out (by omega)).mono ?_
    rintro e w2 ⟨⟨ha, hl, hc⟩, rfl, hhl, O2, B2⟩
    replace HP := Lib.hid (HP.out.next B2)
    replace HB := Lib.hid (below_call HB.out B2)
    have HH : Hid (PtsAt w2 ha hl (hulV ps)) := Lib.hid (OwnPt.ints O2)
    have HHL : Hid (hl = (hulV ps).length) := Lib.hid hhl
    clear B2 O2 hhl
    go_wp2_with fail
    refine (specHullOf sa sl sc ps _ HP.out (by omega)).mono ?_
    rintro e w3 ⟨⟨ga, gl, gc⟩, rfl, hq3, O3, B3⟩
    replace HP := Lib.hid (HP.out.next B3)
    replace HB := Lib.hid (below_call HB.out B3)
    replace HH := Lib.hid (HH.out.next B3)
    have HG : Hid (PtsAt w3 ga gl (hulV ps)) := Lib.hid (OwnPt.ints O3)
    clear B3 O3 hq3
    have hl32 : hl ≤ 32 := by have := HHL.out; have := HLN.out; omega
    go_wp2_with fail
    refine (samePoints ha ga hl gl hc gc (hulV ps) _ HH.out HG.out (by omega)).mono ?_
    rintro e w4 ⟨rfl, B4⟩
    replace HP := Lib.hid (HP.out.next B4)
    replace HB := Lib.hid (below_call HB.out B4)
    replace HH := Lib.hid (HH.out.next B4)
    clear B4 HG
    by_cases h0 : hl = 0
    · have g0 : ((hl : Int) == 0) = true := by rw [h0]; rfl
      replace h0 := Lib.hid h0
      go_wp2_with fail
      refine (alive _).mono ?_
      rintro e w' ⟨rfl, rfl⟩
      go_wp2
      go_ret
      exact ⟨rfl, HB.out⟩
    · have g0 : ((hl : Int) == 0) = false := by simpa using h0
      by_cases h8 : hl ≤ 8
      · have g8 : decide ((hl : Int) > 8) = false := decide_eq_false (by omega)
        have HNE := Lib.hid (show hulV ps ≠ [] from fun e => h0 (by rw [HHL.out, e]; rfl))
        have HL8 := Lib.hid (show (hulV ps).length ≤ 8 by have := HHL.out; omega)
        have s1 : 1 ≤ sl := by
          have := HP.out.1
          rcases Nat.lt_or_ge 0 ps.length with k | k
          · omega
          · exact absurd (show hulV ps = [] by rw [List.eq_nil_of_length_eq_zero (by omega : ps.length = 0), hulV_nil]) HNE.out
        have j0 : (0 : Int) ≤ (sl : Int) - 1 := by omega
        have j1 : (sl : Int) - 1 ≤ (sc : Int) := by have := HC.out; omega
        have j2 : ((sl : Int) - 1).toNat = sl - 1 := by omega
        obtain ⟨b, o, rfl, lt, _⟩ := HP.out.somes s1
        have HF := Lib.hid (HP.out.front s1)
        have HAR := Lib.hid (hul_area HNE.out HL8.out)
        go_wp2_with fail
        refine (implHullOf _ (sl - 1) sc ps.dropLast _ HF.out (by omega)).mono ?_
        rintro e w5 ⟨⟨pa, pl, pc⟩, rfl, hpl, O5, B5⟩
        replace HB := Lib.hid (below_call HB.out B5)
        replace HH := Lib.hid (HH.out.next B5)
        have HPT : Hid (PtsAt w5 pa pl (hulV ps.dropLast)) := Lib.hid (OwnPt.ints O5)
        have HPLN := Lib.hid (hulLen ps.dropLast (by rw [List.length_dropLast]; omega))
        have pl32 : pl ≤ 32 := by have : pl = (hulV ps.dropLast).length := hpl; have := HPLN.out; omega
        clear B5 O5 hpl HF
        by_cases p8 : pl ≤ 8
        · have q8 : decide ((pl : Int) > 8) = false := decide_eq_false (by omega)
          obtain ⟨d1, hd1⟩ : ∃ d, daV (hulV ps.dropLast) = d := ⟨_, rfl⟩
          obtain ⟨d2, hd2⟩ : ∃ d, daV (hulV ps) = d := ⟨_, rfl⟩
          rw [hd1, hd2] at HAR
          have hdd : decide (d1 ≤ d2) = true := decide_eq_true HAR.out
          have hdd' := HAR.out
          replace hd1 := Lib.hid hd1
          replace hd2 := Lib.hid hd2
          go_wp2_with fail
          refine (iAreaV pa pl pc _ d1 hd1.out _ HPT.out.pl (by omega)).mono ?_
          rintro e w6 ⟨rfl, B6⟩
          replace HB := Lib.hid (below_call HB.out B6)
          replace HH := Lib.hid (HH.out.next B6)
          clear B6
          go_wp2_with fail
          refine (iAreaV ha hl hc _ d2 hd2.out _ HH.out.pl (by omega)).mono ?_
          rintro e w7 ⟨rfl, B7⟩
          replace HB := Lib.hid (below_call HB.out B7)
          clear B7
          go_wp2
          go_ret
          exact ⟨rfl, HB.out⟩
        · have q8 : decide ((pl : Int) > 8) = true := decide_eq_true (by omega)
          go_wp2
          go_ret
          exact ⟨rfl, HB.out⟩
      · have g8 : decide ((hl : Int) > 8) = true := decide_eq_true (by omega)
        go_wp2_with fail
        refine (alive _).mono ?_
        rintro e w' ⟨rfl, rfl⟩
        go_wp2
        go_ret
        exact ⟨rfl, HB.out⟩
end Go.Proofs.Ytkmopgdnaohcdaa
