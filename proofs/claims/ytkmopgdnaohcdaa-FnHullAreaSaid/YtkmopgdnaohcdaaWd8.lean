/- The walk of the law FnDoubleArea: it returns true at every code. -/
import Derived.Test.YtkmopgdnaohcdaaTl8
import Derived.Test.YtkmopgdnaohcdaaDr8
import Derived.Test.YtkmopgdnaohcdaaLk8
namespace Go.Proofs.Ytkmopgdnaohcdaa
set_option maxRecDepth 100000
open Go.RowKit
attribute [local go_sem ↓] Go.wp_at_zero Go.wp_at_succ
theorem PL.down {w : World} {b o len : Nat} {ps : List P2} (h : PL w (some ⟨b, o, none⟩) len ps) (h1 : 1 ≤ len) : PL w (some ⟨b, o + 2, none⟩) (len - 1) ps.tail := by
  have k := h.sub (i := 1) (j := len) h1 (Nat.le_refl _)
  rw [h.1, List.take_length, List.drop_one, ← h.1] at k
  exact k
theorem iAreaV (a : Option Addr) (len cap : Nat) (ps : List P2) (d : Int) (hd : daV ps = d) (w : World) (hp : PL w a len ps) (hl : len ≤ 9223372036854775807) :
    Calls Try.prog 29 #[.slice a len cap] w fun e w' => e = .returned (.int .i64 d) ∧ Below w.heap.size w w' := by
  subst hd; exact iArea a len cap ps w hp hl
theorem sAreaV (a : Option Addr) (len cap : Nat) (ps : List P2) (d : Int) (hd : daV ps = d) (w : World) (hp : PL w a len ps) (hl : len ≤ 9223372036854775807) :
    Calls Try.prog 41 #[.slice a len cap] w fun e w' => e = .returned (.int .i64 d) ∧ Below w.heap.size w w' := by
  subst hd; exact specDoubleArea a len cap ps w hp hl
theorem iCvxV (a : Option Addr) (len cap : Nat) (ps : List P2) (v : Bool) (hv : decide (okCvx ps) = v) (w : World) (hp : PL w a len ps) (hl : len ≤ 9223372036854775807) :
    Calls Try.prog 20 #[.slice a len cap] w fun e w' => e = .returned (.bool v) ∧ Below w.heap.size w w' := by
  subst hv; exact implConvexValid a len cap ps w hp hl
theorem sCvxV (a : Option Addr) (len cap : Nat) (ps : List P2) (v : Bool) (hv : decide (okCvx ps) = v) (w : World) (hp : PL w a len ps) (hl : len ≤ 9223372036854775807) :
    Calls Try.prog 21 #[.slice a len cap] w fun e w' => e = .returned (.bool v) ∧ Below w.heap.size w w' := by
  subst hv; exact specConvexValid a len cap ps w hp hl
set_option maxHeartbeats 2000000 in
theorem walkFnDoubleArea (w : World) (a : Option Addr) (len cap : Nat) (zs : List Int) (h : Bytes w a len cap zs) :
    Calls Try.prog 8 #[.slice a len cap] w fun e w' => e = .returned (.bool true) ∧ Below w.heap.size w w' := by
  have hle := h.len_le
  obtain ⟨hl, hm⟩ := hle
  unfold maxLen at hm
  by_cases hbig : 1048576 < len
  · go_enter Try.func8, Try.ntmps8
    go_wp2
    go_ret
    exact ⟨rfl, Below.refl _ _⟩
  · go_enter Try.func8, Try.ntmps8
    go_wp2_with fail
    refine (drawDoubleArea w a len cap zs h).mono ?_
    rintro e w1 ⟨⟨sa, sl, sc⟩, ps, rfl, P, hn, B1, hc⟩
    simp only at P hc
    have hsl : sl ≤ 16 := by have := P.1; omega
    have HB := Lib.hid B1
    have HP := Lib.hid P
    have HC := Lib.hid hc
    clear B1 P h hl hm hbig hc
    obtain ⟨d, hd⟩ : ∃ d, daV ps = d := ⟨_, rfl⟩
    replace hd := Lib.hid hd
    have e0 : (d != d) = false := by simp
    go_wp2_with fail
    refine (iAreaV sa sl sc ps d hd.out _ HP.out (by omega)).mono ?_
    rintro e w2 ⟨rfl, B2⟩
    replace HP := Lib.hid (HP.out.next B2)
    replace HB := Lib.hid (below_call HB.out B2)
    clear B2
    go_wp2_with fail
    refine (sAreaV sa sl sc ps d hd.out _ HP.out (by omega)).mono ?_
    rintro e w3 ⟨rfl, B3⟩
    replace HP := Lib.hid (HP.out.next B3)
    replace HB := Lib.hid (below_call HB.out B3)
    clear B3
    by_cases hv : okCvx ps
    · have HV := Lib.hid hv
      have d0 : 0 < d := by have := da_pos hv; have := hd.out; omega
      have d1 : decide (d > 0) = true := decide_eq_true (by omega)
      have d2 : ¬ d ≤ 0 := by omega
      have h3 : 3 ≤ sl := by have := hv.1; have := HP.out.1; omega
      have hcp : sl ≤ sc := HC.out
      clear hv HC
      go_wp2_with fail
      refine (sCvxV sa sl sc ps true (decide_eq_true HV.out) _ HP.out (by omega)).mono ?_
      rintro e w4 ⟨rfl, B4⟩
      replace HP := Lib.hid (HP.out.next B4)
      replace HB := Lib.hid (below_call HB.out B4)
      clear B4
      go_wp2_with fail
      refine (turnListC sa sl sc ps _ HP.out (by omega) (by omega) hcp).mono ?_
      rintro e w5 ⟨⟨ta, tl, tc⟩, rfl, O5, B5⟩
      replace HP := Lib.hid (HP.out.next B5)
      replace HB := Lib.hid (below_call HB.out B5)
      have HO : Hid (PL w5 ta tl (trn ps)) := Lib.hid (OwnPt.ints O5).pl
      have htl : tl ≤ 16 := by have := HO.out.1; rw [trn_len] at this; omega
      clear B5 O5
      go_wp2_with fail
      refine (iAreaV ta tl tc (trn ps) d ((da_trn HV.out).trans hd.out) _ HO.out (by omega)).mono ?_
      rintro e w6 ⟨rfl, B6⟩
      replace HP := Lib.hid (HP.out.next B6)
      replace HB := Lib.hid (below_call HB.out B6)
      clear B6 HO
      by_cases hl3 : sl = 3
      · have g3 : ((sl : Int) == 3) = true := by rw [hl3]; rfl
        replace hl3 := Lib.hid hl3
        go_wp2
        go_ret
        exact ⟨rfl, HB.out⟩
      · have g3 : ((sl : Int) == 3) = false := by simp; omega
        have hc1 : ¬ sc = 1 := by omega
        have hl1 : 1 ≤ sl := by omega
        obtain ⟨b, o, rfl, lt, _⟩ := HP.out.somes (by omega)
        have HT := Lib.hid (HP.out.down (by omega))
        obtain ⟨d5, hd5⟩ : ∃ d5, daV ps.tail = d5 := ⟨_, rfl⟩
        replace hd5 := Lib.hid hd5
        have d6 : d5 < d := by have := da_tail HV.out (by have := HP.out.1; omega); have := hd.out; have := hd5.out; omega
        go_wp2_with fail
        refine (iAreaV _ (sl - 1) (sc - 1) ps.tail d5 hd5.out _ HT.out (by omega)).mono ?_
        rintro e w7 ⟨rfl, B7⟩
        replace HB := Lib.hid (below_call HB.out B7)
        clear B7
        go_wp2
        go_ret
        exact ⟨rfl, HB.out⟩
    · have dz := daV_no hv
      rw [hd.out] at dz
      subst dz
      have HV := Lib.hid hv
      clear hv
      go_wp2_with fail
      refine (sCvxV sa sl sc ps false (decide_eq_false HV.out) _ HP.out (by omega)).mono ?_
      rintro e w4 ⟨rfl, B4⟩
      replace HB := Lib.hid (below_call HB.out B4)
      clear B4
      go_wp2_with fail
      refine (alive _).mono ?_
      rintro e w' ⟨rfl, rfl⟩
      go_wp2
      go_ret
      exact ⟨rfl, HB.out⟩
end Go.Proofs.Ytkmopgdnaohcdaa
