/- The walk of the law FnConvexMeet: it returns true at every code. -/
import Derived.Test.YtkmopgdnaohcdaaWd8
namespace Go.Proofs.Ytkmopgdnaohcdaa
set_option maxRecDepth 100000
open Go.RowKit
attribute [local go_sem ↓] Go.wp_at_zero Go.wp_at_succ
theorem iMeetsV (a a2 : Option Addr) (len cap len2 cap2 : Nat) (ps qs : List P2) (v : Bool) (hv : decide (cmV ps qs) = v) (w : World) (hp : PL w a len ps) (hl : len ≤ 9223372036854775807) (hq : PL w a2 len2 qs) (hl2 : len2 ≤ 9223372036854775807) :
    Calls Try.prog 38 #[.slice a len cap, .slice a2 len2 cap2] w fun e w' => e = .returned (.bool v) ∧ Below w.heap.size w w' := by
  subst hv; exact iMeets a a2 len cap len2 cap2 ps qs w hp hl hq hl2
theorem sMeetsV (a a2 : Option Addr) (len cap len2 cap2 : Nat) (ps qs : List P2) (v : Bool) (hv : decide (cmV ps qs) = v) (w : World) (hp : PL w a len ps) (hl : len ≤ 9223372036854775807) (hq : PL w a2 len2 qs) (hl2 : len2 ≤ 9223372036854775807) :
    Calls Try.prog 39 #[.slice a len cap, .slice a2 len2 cap2] w fun e w' => e = .returned (.bool v) ∧ Below w.heap.size w w' := by
  subst hv; exact specConvexMeet a a2 len cap len2 cap2 ps qs w hp hl hq hl2
theorem iInsV (a : Option Addr) (len cap : Nat) (ps : List P2) (p : P2) (v : Bool) (hv : decide (insV ps p) = v) (w : World) (hp : PL w a len ps) (hl : len ≤ 9223372036854775807) :
    Calls Try.prog 25 #[.slice a len cap, pt p.1 p.2] w fun e w' => e = .returned (.bool v) ∧ Below w.heap.size w w' := by
  subst hv; exact iInside a len cap ps p w hp hl
theorem sInsV (a : Option Addr) (len cap : Nat) (ps : List P2) (p : P2) (v : Bool) (hv : decide (insV ps p) = v) (w : World) (hp : PL w a len ps) (hl : len ≤ 9223372036854775807) :
    Calls Try.prog 26 #[.slice a len cap, pt p.1 p.2] w fun e w' => e = .returned (.bool v) ∧ Below w.heap.size w w' := by
  subst hv; exact sInside a len cap ps p w hp hl
theorem sOkV (p : P2) (v : Bool) (hv : decide (okQ p) = v) (w : World) : Calls Try.prog 27 #[pt p.1 p.2] w fun e w' => e = .returned (.bool v) ∧ Below w.heap.size w w' := by
  subst hv; exact specPointValidC p w
set_option maxHeartbeats 2000000 in
theorem walkFnConvexMeet (w : World) (a : Option Addr) (len cap : Nat) (zs : List Int) (h : Bytes w a len cap zs) :
    Calls Try.prog 7 #[.slice a len cap] w fun e w' => e = .returned (.bool true) ∧ Below w.heap.size w w' := by
  have hle := h.len_le
  obtain ⟨hl, hm⟩ := hle
  unfold maxLen at hm
  by_cases hbig : 1048576 < len
  · go_enter Try.func7, Try.ntmps7
    go_wp2
    go_ret
    exact ⟨rfl, Below.refl _ _⟩
  · go_enter Try.func7, Try.ntmps7
    go_wp2_with fail
    refine (drawConvexMeet w a len cap zs h).mono ?_
    rintro e w1 ⟨⟨sa, sl, sc⟩, ⟨za, zl, zc⟩, ps, qs, rfl, P, hn, Q, hn2, B1⟩
    simp only at P Q
    have hsl : sl ≤ 16 := by have := P.1; omega
    have hzl : zl ≤ 16 := by have := Q.1; omega
    have HB := Lib.hid B1
    have HP := Lib.hid (And.intro P Q)
    clear B1 P Q h hl hm hbig
    obtain ⟨v, hv⟩ : ∃ v, decide (cmV ps qs) = v := ⟨_, rfl⟩
    have HV2 := Lib.hid (show decide (cmV qs ps) = v from (same_dec _ _ (cm_symm qs ps)).trans hv)
    replace hv := Lib.hid hv
    have e0 : (v != v) = false := by simp
    go_wp2_with fail
    refine (iMeetsV sa za sl sc zl zc ps qs v hv.out _ HP.out.1 (by omega) HP.out.2 (by omega)).mono ?_
    rintro e w2 ⟨rfl, B2⟩
    replace HP := Lib.hid (And.intro (HP.out.1.next B2) (HP.out.2.next B2))
    replace HB := Lib.hid (below_call HB.out B2)
    clear B2
    go_wp2_with fail
    refine (sMeetsV sa za sl sc zl zc ps qs v hv.out _ HP.out.1 (by omega) HP.out.2 (by omega)).mono ?_
    rintro e w3 ⟨rfl, B3⟩
    replace HP := Lib.hid (And.intro (HP.out.1.next B3) (HP.out.2.next B3))
    replace HB := Lib.hid (below_call HB.out B3)
    clear B3
    go_wp2_with fail
    refine (iMeetsV za sa zl zc sl sc qs ps v HV2.out _ HP.out.2 (by omega) HP.out.1 (by omega)).mono ?_
    rintro e w4 ⟨rfl, B4⟩
    replace HP := Lib.hid (And.intro (HP.out.1.next B4) (HP.out.2.next B4))
    replace HB := Lib.hid (below_call HB.out B4)
    clear B4 HV2
    by_cases h1 : okCvx ps
    · have HV1 := Lib.hid h1
      clear h1
      go_wp2_with fail
      refine (sCvxV sa sl sc ps true (decide_eq_true HV1.out) _ HP.out.1 (by omega)).mono ?_
      rintro e w5 ⟨rfl, B5⟩
      replace HP := Lib.hid (And.intro (HP.out.1.next B5) (HP.out.2.next B5))
      replace HB := Lib.hid (below_call HB.out B5)
      clear B5
      by_cases h2 : okCvx qs
      · have HV2 := Lib.hid h2
        clear h2
        go_wp2_with fail
        refine (sCvxV za zl zc qs true (decide_eq_true HV2.out) _ HP.out.2 (by omega)).mono ?_
        rintro e w6 ⟨rfl, B6⟩
        replace HP := Lib.hid (And.intro (HP.out.1.next B6) (HP.out.2.next B6))
        replace HB := Lib.hid (below_call HB.out B6)
        clear B6 e0
        have h3 : 3 ≤ sl := by have := HV1.out.1; have := HP.out.1.1; omega
        obtain ⟨b, o, rfl, lt, hcell⟩ := HP.out.1.somes (by omega)
        have HCL := Lib.hid hcell
        have HLE := Lib.hid HP.out.1.1
        have HI := Lib.hid (show v = false → ∀ k, k < ps.length → decide (insV qs (cor ps k)) = false from fun hvf k hk => decide_eq_false fun hi => by
          have := hv.out; rw [hvf] at this; exact of_decide_eq_false this (cm_corner HV1.out HV2.out hk hi.2.2))
        clear hcell hv
        go_wp2
        go_loopw [6] (fun i wr => ∃ k : Nat, k ≤ sl ∧ i = .int .i64 (k : Int) ∧ Hid (Below w6.heap.size w6 wr)) (fun i _ => sl - (intOf i).toNat)
        case atStart => exact ⟨0, Nat.zero_le _, rfl, Lib.hid (Below.refl _ _)⟩
        case round =>
          obtain ⟨k, hk, rfl, HW⟩ := hrel
          by_cases hlt : k < sl
          · have j0 : (0 : Int) ≤ (k : Int) := by omega
            have j1 : (k : Int) < (sl : Int) := by omega
            have HKL := Lib.hid (show k < ps.length by rw [← HLE.out]; exact hlt)
            have HIK := Lib.hid (fun hvf => HI.out hvf k HKL.out)
            have d0 : wr.cell? ⟨b, o + k * 2, none⟩ = some (.int .i64 (cor ps k).1) := (HW.out.cell (p := ⟨b, o + k * 2, none⟩) lt).trans (HCL.out k hlt).1
            have d1 : wr.cell? ⟨b, o + k * 2 + 1, none⟩ = some (.int .i64 (cor ps k).2) := (HW.out.cell (p := ⟨b, o + k * 2 + 1, none⟩) lt).trans (HCL.out k hlt).2
            generalize cor ps k = c at *
            cases v
            · go_wp2_with fail
              refine (iInsV za zl zc qs c false (HIK.out (by first | trivial | rfl)) _ (HP.out.2.next HW.out) (by omega)).mono ?_
              rintro e w7 ⟨rfl, B7⟩
              replace HW := Lib.hid (below_call HW.out B7)
              clear B7 d0 d1
              go_wp2
              go_roundw
              case rel => exact ⟨k + 1, by omega, by congr 1, HW⟩
              case measure => simp [intOf]; omega
            · obtain ⟨t, ht⟩ : ∃ t, decide (insV qs c) = t := ⟨_, rfl⟩
              replace ht := Lib.hid ht
              go_wp2_with fail
              refine (iInsV za zl zc qs c t ht.out _ (HP.out.2.next HW.out) (by omega)).mono ?_
              rintro e w7 ⟨rfl, B7⟩
              replace HW := Lib.hid (below_call HW.out B7)
              clear B7 d0 d1 ht
              cases t
              · go_wp2
                go_roundw
                case rel => exact ⟨k + 1, by omega, by congr 1, HW⟩
                case measure => simp [intOf]; omega
              · go_wp2
                go_roundw
                case rel => exact ⟨k + 1, by omega, by congr 1, HW⟩
                case measure => simp [intOf]; omega
          · obtain rfl : k = sl := by omega
            have HP1 := Lib.hid (HP.out.1.next HW.out)
            have HB1 := Lib.hid (below_call HB.out HW.out)
            clear HCL HI HP HB HW
            go_wp2_with fail
            refine (iMeetsV _ _ k sc k sc ps ps true (decide_eq_true (cm_self HV1.out)) _ HP1.out (by omega) HP1.out (by omega)).mono ?_
            rintro e w7 ⟨rfl, B7⟩
            replace HB1 := Lib.hid (below_call HB1.out B7)
            clear B7
            go_wp2
            go_ret
            exact ⟨rfl, HB1.out⟩
      · have HV2 := Lib.hid h2
        clear h2
        have hvf : v = false := by have := hv.out; rw [decide_eq_false (fun k => HV2.out k.2.1)] at this; exact this.symm
        subst hvf
        go_wp2_with fail
        refine (sCvxV za zl zc qs false (decide_eq_false HV2.out) _ HP.out.2 (by omega)).mono ?_
        rintro e w6 ⟨rfl, B6⟩
        replace HB := Lib.hid (below_call HB.out B6)
        clear B6
        go_wp2_with fail
        refine (alive _).mono ?_
        rintro e w' ⟨rfl, rfl⟩
        go_wp2
        go_ret
        exact ⟨rfl, HB.out⟩
    · have HV1 := Lib.hid h1
      clear h1
      have hvf : v = false := by have := hv.out; rw [decide_eq_false (fun k => HV1.out k.1)] at this; exact this.symm
      subst hvf
      go_wp2_with fail
      refine (sCvxV sa sl sc ps false (decide_eq_false HV1.out) _ HP.out.1 (by omega)).mono ?_
      rintro e w5 ⟨rfl, B5⟩
      replace HB := Lib.hid (below_call HB.out B5)
      clear B5
      go_wp2_with fail
      refine (alive _).mono ?_
      rintro e w' ⟨rfl, rfl⟩
      go_wp2
      go_ret
      exact ⟨rfl, HB.out⟩
end Go.Proofs.Ytkmopgdnaohcdaa
