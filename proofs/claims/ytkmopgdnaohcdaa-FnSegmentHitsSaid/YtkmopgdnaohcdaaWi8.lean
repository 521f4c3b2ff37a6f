/- The walk of the law FnInsideConvex: it returns true at every code. -/
import Derived.Test.YtkmopgdnaohcdaaWm8
namespace Go.Proofs.Ytkmopgdnaohcdaa
set_option maxRecDepth 100000
open Go.RowKit
attribute [local go_sem ↓] Go.wp_at_zero Go.wp_at_succ
theorem AtP.k8 {w : World} {b : Nat} {x y : Int} (h : AtP w b x y) : w.cell? ⟨b, 0, none⟩ = some (.int .i64 x) ∧ w.cell? ⟨b, 1, none⟩ = some (.int .i64 y) := ⟨h.c0, h.c1⟩
theorem sumA_bd {ps : List P2} {p : P2} (hk : okPts ps) (hp : okQ p) : ∀ m, m ≤ ps.length → 0 ≤ sumA ps p m ∧ sumA ps p m ≤ 800000000 * (m : Int) := by
  intro m
  induction m with
  | zero => intro _; unfold sumA; omega
  | succ m ih =>
    intro h
    have i := ih (by omega)
    have c := cr_bd hp (hk.cor (i := m) (by omega)) (hk.cor (nx_lt (ps := ps) (k := m) (by omega)))
    unfold sumA
    omega
theorem ins_test {ps : List P2} (h : okCvx ps) {p : P2} (hp : okQ p) {v : Bool} (hv : decide (insV ps p) = v) : ((sumA ps p ps.length == daV ps) = v) := by
  have e := ins_area h p
  cases v
  · have k : ¬ insV ps p := of_decide_eq_false hv
    have n : ¬ sumA ps p ps.length = daV ps := fun q => k ⟨h, hp, e.2 q⟩
    simpa using n
  · have k : insV ps p := of_decide_eq_true hv
    have n := e.1 k.2.2
    simpa using n
theorem insV_trn {ps : List P2} (h : okCvx ps) (p : P2) : insV (trn ps) p ↔ insV ps p :=
  ⟨fun ⟨_, b, c⟩ => ⟨h, b, (ins_trn p).1 c⟩, fun ⟨_, b, c⟩ => ⟨h.trn, b, (ins_trn p).2 c⟩⟩
theorem absV8 (n m : Int) (hm : max n (-n) = m) (w : World) (h0 : -1000000000 ≤ n) (h1 : n ≤ 1000000000) :
    Calls Try.prog 28 #[.int .i64 n] w fun e w' => e = .returned (.int .i64 m) ∧ w = w' := by
  have HE := Lib.hid hm
  clear hm
  go_enter Try.func28, Try.ntmps28
  go_wp2
  all_goals
    go_ret
    exact ⟨ret_int (by have := HE.out; omega), rfl⟩
set_option maxHeartbeats 4000000 in
theorem walkFnInsideConvex (w : World) (a : Option Addr) (len cap : Nat) (zs : List Int) (h : Bytes w a len cap zs) :
    Calls Try.prog 4 #[.slice a len cap] w fun e w' => e = .returned (.bool true) ∧ Below w.heap.size w w' := by
  have hle := h.len_le
  obtain ⟨hl, hm⟩ := hle
  unfold maxLen at hm
  by_cases hbig : 1048576 < len
  · go_enter Try.func4, Try.ntmps4
    go_wp2
    go_ret
    exact ⟨rfl, Below.refl _ _⟩
  · go_enter Try.func4, Try.ntmps4
    go_wp2_with fail
    refine (drawInsideConvex w a len cap zs h).mono ?_
    rintro e w1 ⟨⟨sa, sl, sc⟩, ps, ⟨px, py⟩, rfl, P, hn, B1, hc⟩
    simp only at P hc
    have hsl : sl ≤ 16 := by have := P.1; omega
    have HB := Lib.hid (below_call B1 (below_box w1 (.cells #[.int .i64 px, .int .i64 py] 28)))
    have HP := Lib.hid (P.next (below_box w1 (.cells #[.int .i64 px, .int .i64 py] 28)))
    have HX := Lib.hid (AtP.box w1 px py 28)
    have HC := Lib.hid hc
    clear B1 P h hl hm hbig hc
    obtain ⟨v, hv⟩ : ∃ v, decide (insV ps (px, py)) = v := ⟨_, rfl⟩
    replace hv := Lib.hid hv
    have e0 : (v != v) = false := by simp
    go_upto_region 4 with fail
    generalize w1.alloc (.cells #[.int .i64 px, .int .i64 py] 28) = w2 at *
    generalize w1.heap.size = vp at *
    obtain ⟨lvp, a1, a2⟩ := HX.out
    go_wp2_with fail
    refine (iInsV sa sl sc ps (px, py) v hv.out _ HP.out (by omega)).mono ?_
    rintro e w3 ⟨rfl, B⟩
    replace HP := Lib.hid (HP.out.next B)
    replace HX := Lib.hid (HX.out.next B)
    replace HB := Lib.hid (below_call HB.out B)
    clear B lvp a1 a2
    obtain ⟨lvp, a1, a2⟩ := HX.out
    go_wp2_with fail
    refine (sInsV sa sl sc ps (px, py) v hv.out _ HP.out (by omega)).mono ?_
    rintro e w4 ⟨rfl, B⟩
    replace HP := Lib.hid (HP.out.next B)
    replace HX := Lib.hid (HX.out.next B)
    replace HB := Lib.hid (below_call HB.out B)
    clear B lvp a1 a2
    obtain ⟨lvp, a1, a2⟩ := HX.out
    by_cases h1 : okCvx ps
    · have HV1 := Lib.hid h1
      clear h1
      go_wp2_with fail
      refine (sCvxV sa sl sc ps true (decide_eq_true HV1.out) _ HP.out (by omega)).mono ?_
      rintro e w5 ⟨rfl, B⟩
      replace HP := Lib.hid (HP.out.next B)
      replace HX := Lib.hid (HX.out.next B)
      replace HB := Lib.hid (below_call HB.out B)
      clear B lvp a1 a2
      obtain ⟨lvp, a1, a2⟩ := HX.out
      by_cases h2 : okQ (px, py)
      · have HV2 := Lib.hid h2
        have q : -10000 ≤ px ∧ px ≤ 10000 ∧ -10000 ≤ py ∧ py ≤ 10000 := by unfold okQ okP at h2; simp only at h2; omega
        obtain ⟨q1, q2, q3, q4⟩ := q
        clear h2
        go_wp2_with fail
        refine (sOkV (px, py) true (decide_eq_true HV2.out) _).mono ?_
        rintro e w6 ⟨rfl, B⟩
        replace HP := Lib.hid (HP.out.next B)
        replace HX := Lib.hid (HX.out.next B)
        replace HB := Lib.hid (below_call HB.out B)
        clear B lvp a1 a2 e0
        have h3 : 3 ≤ sl := by have := HV1.out.1; have := HP.out.1; omega
        obtain ⟨b, o, rfl, lt, hcell⟩ := HP.out.somes (by omega)
        have HCL := Lib.hid hcell
        have HLE := Lib.hid HP.out.1
        have HVN := Lib.hid hn
        clear hcell hn
        have hne : ¬ sl = 0 := by omega
        have hne2 : ¬ (sl : Int) = 0 := by omega
        go_wp2
        go_loopw [6, 7] (fun s i wr => ∃ k : Nat, k ≤ sl ∧ i = .int .i64 (k : Int) ∧ s = .int .i64 (sumA ps (px, py) k) ∧ Hid (Below w6.heap.size w6 wr)) (fun _ i _ => sl - (intOf i).toNat)
        case atStart => exact ⟨0, Nat.zero_le _, rfl, rfl, Lib.hid (Below.refl _ _)⟩
        case round =>
          obtain ⟨k, hk, rfl, rfl, HW⟩ := hrel
          have HSB := Lib.hid (sumA_bd (m := k) HV1.out.2.2.1 HV2.out (by rw [← HLE.out]; exact hk))
          by_cases hlt : k < sl
          · obtain ⟨S, hS⟩ : ∃ S, sumA ps (px, py) k = S := ⟨_, rfl⟩
            rw [hS] at HSB ⊢
            have s1 : 0 ≤ S := HSB.out.1
            have s2 : S ≤ 12800000000 := by have := HSB.out.2; omega
            replace hS := Lib.hid hS
            clear HSB
            have j0 : (0 : Int) ≤ (k : Int) := by omega
            have j1 : (k : Int) < (sl : Int) := by omega
            have HMD := Lib.hid (show ((k : Int) + 1).tmod (sl : Int) = (nx ps k : Nat) ∧ nx ps k < sl by
              rw [HLE.out] at hlt ⊢; exact ⟨tmod_nx ps k, nx_lt hlt⟩)
            have hmd := HMD.out.1
            have m1 : (0 : Int) ≤ (nx ps k : Int) := by omega
            have m2 : (nx ps k : Int) < (sl : Int) := by have := HMD.out.2; omega
            have d0 : wr.cell? ⟨b, o + k * 2, none⟩ = some (.int .i64 (cor ps k).1) := (HW.out.cell (p := ⟨b, o + k * 2, none⟩) lt).trans (HCL.out k hlt).1
            have d1 : wr.cell? ⟨b, o + k * 2 + 1, none⟩ = some (.int .i64 (cor ps k).2) := (HW.out.cell (p := ⟨b, o + k * 2 + 1, none⟩) lt).trans (HCL.out k hlt).2
            have d2 : wr.cell? ⟨b, o + nx ps k * 2, none⟩ = some (.int .i64 (cor ps (nx ps k)).1) := (HW.out.cell (p := ⟨b, o + nx ps k * 2, none⟩) lt).trans (HCL.out _ HMD.out.2).1
            have d3 : wr.cell? ⟨b, o + nx ps k * 2 + 1, none⟩ = some (.int .i64 (cor ps (nx ps k)).2) := (HW.out.cell (p := ⟨b, o + nx ps k * 2 + 1, none⟩) lt).trans (HCL.out _ HMD.out.2).2
            have hbw : b < wr.heap.size := Nat.lt_of_lt_of_le lt HW.out.size
            have HKL := Lib.hid (show k < ps.length by rw [← HLE.out]; exact hlt)
            have ha : okQ (cor ps k) := HV1.out.2.2.1.cor HKL.out
            have hb : okQ (cor ps (nx ps k)) := HV1.out.2.2.1.cor (nx_lt HKL.out)
            have HCO := Lib.hid (show decide (insV ps (cor ps k)) = true from decide_eq_true ⟨HV1.out, ha, ins_corner HV1.out HKL.out⟩)
            have HST := Lib.hid (show sumA ps (px, py) (k + 1) = S + max (cr (px, py) (cor ps k) (cor ps (nx ps k))) (- cr (px, py) (cor ps k) (cor ps (nx ps k))) by rw [← hS.out]; rfl)
            have HCB := Lib.hid (cr_bd HV2.out ha hb)
            generalize nx ps k = nk at *
            generalize cor ps k = ca at *
            generalize cor ps nk = cb at *
            obtain ⟨ax, ay⟩ := ca
            obtain ⟨bx, b_y⟩ := cb
            have qa : -10000 ≤ ax ∧ ax ≤ 10000 ∧ -10000 ≤ ay ∧ ay ≤ 10000 := by unfold okQ okP at ha; simp only at ha; omega
            have qb : -10000 ≤ bx ∧ bx ≤ 10000 ∧ -10000 ≤ b_y ∧ b_y ≤ 10000 := by unfold okQ okP at hb; simp only at hb; omega
            obtain ⟨qa1, qa2, qa3, qa4⟩ := qa
            obtain ⟨qb1, qb2, qb3, qb4⟩ := qb
            simp only at d0 d1 d2 d3
            obtain ⟨n1, n2⟩ := mul_bd8 (x := ax - px) (y := b_y - py) (by omega) (by omega) (by omega) (by omega)
            obtain ⟨n3, n4⟩ := mul_bd8 (x := ay - py) (y := bx - px) (by omega) (by omega) (by omega) (by omega)
            have HCR := Lib.hid (show cr (px, py) (ax, ay) (bx, b_y) = (ax - px) * (b_y - py) - (ay - py) * (bx - px) from rfl)
            rw [HCR.out] at HST HCB
            obtain ⟨m, hm⟩ : ∃ m, max ((ax - px) * (b_y - py) - (ay - py) * (bx - px)) (-((ax - px) * (b_y - py) - (ay - py) * (bx - px))) = m := ⟨_, rfl⟩
            rw [hm] at HST
            have m3 : 0 ≤ m := by omega
            have m4 : m ≤ 800000000 := by omega
            replace hm := Lib.hid hm
            have HXW := Lib.hid (HX.out.next HW.out)
            obtain ⟨lvp, a1, a2⟩ := HXW.out
            have nvb : vp ≠ wr.heap.size := by omega
            have HB2 := Lib.hid (below_box2 wr (.cells #[.int .i64 ax, .int .i64 ay] 28) (.cells #[.int .i64 bx, .int .i64 b_y] 28))
            clear ha hb HCB
            go_wp2_with fail
            refine (absV8 _ m hm.out _ (by omega) (by omega)).mono ?_
            rintro e w' ⟨rfl, rfl⟩
            go_wp2_with fail
            refine (iInsV (some ⟨b, o, none⟩) sl sc ps (ax, ay) true HCO.out _ (HP.out.next (below_call HW.out HB2.out)) (by omega)).mono ?_
            rintro e w7 ⟨rfl, B⟩
            have HW2 := Lib.hid (below_call (below_call HW.out HB2.out) B)
            clear B d0 d1 d2 d3 a1 a2 lvp HW HB2 HXW
            go_wp2
            go_roundw
            case rel => exact ⟨k + 1, by omega, by congr 1, by rw [HST.out], HW2⟩
            case measure => simp [intOf]; omega
          · obtain rfl : k = sl := by omega
            have HT := Lib.hid (show (sumA ps (px, py) k == daV ps) = v by rw [HLE.out]; exact ins_test HV1.out HV2.out hv.out)
            have HTV := Lib.hid (show decide (insV (trn ps) (px, py)) = v from (same_dec _ _ (insV_trn HV1.out (px, py))).trans hv.out)
            have HPW := Lib.hid (HP.out.next HW.out)
            have HXW := Lib.hid (HX.out.next HW.out)
            have HBW := Lib.hid (below_call HB.out HW.out)
            have hcc : k ≤ sc := HC.out
            generalize sumA ps (px, py) k = S at *
            obtain ⟨d, hd⟩ : ∃ d, daV ps = d := ⟨_, rfl⟩
            rw [hd] at HT
            replace hd := Lib.hid hd
            have t1 : (S == d) = v := HT.out
            have t2 : (v == v) = true := by simp
            clear HT HCL HP HX HB HW HC HV2
            have HXD := HXW.out.next (below_drew wr)
            have HPD := Lib.hid (HPW.out.next (below_drew wr))
            have HBD := Lib.hid (below_call HBW.out (below_drew wr))
            have k0 := HXD.k8
            replace HXD := Lib.hid HXD
            clear HPW HXW HBW
            go_upto_region 18 with fail
            go_region_held3 (fun u => u.cell? ⟨vp, 0, none⟩ = some (.int .i64 px) ∧ u.cell? ⟨vp, 1, none⟩ = some (.int .i64 py)) (first | exact k0 | exact k1 | exact k2 | exact k3) (first
              | (go_at_call 29
                 (with_reducible refine (iAreaV _ k sc ps d hd.out _ HPD.out (by omega)).mono ?_)
                 rintro e u1 ⟨rfl, K1⟩
                 have HP1 := Lib.hid (HPD.out.next K1)
                 have HB1 := Lib.hid (below_call HBD.out K1)
                 have HX1 := HXD.out.next K1
                 have k1 := HX1.k8
                 replace HX1 := Lib.hid HX1
                 clear K1)
              | (go_at_call 23
                 (with_reducible refine (turnListC _ k sc ps _ HP1.out (by omega) (by omega) hcc).mono ?_)
                 rintro e u2 ⟨⟨ta, tl, tc⟩, rfl, O2, K2⟩
                 have HT2 : Hid (PL u2 ta tl (trn ps)) := Lib.hid (OwnPt.ints O2).pl
                 have htl : tl ≤ 16 := by have := HT2.out.1; rw [trn_len] at this; have := HVN.out; omega
                 have HB2 := Lib.hid (below_call HB1.out K2)
                 have HX2 := HX1.out.next K2
                 have k2 := HX2.k8
                 replace HX2 := Lib.hid HX2
                 clear K2 O2)
              | (go_at_call 25
                 (with_reducible refine (iInsV ta tl tc (trn ps) (px, py) v HTV.out _ HT2.out (by omega)).mono ?_)
                 rintro e u3 ⟨rfl, K3⟩
                 have HB3 := Lib.hid (below_call HB2.out K3)
                 have k3 := (HX2.out.next K3).k8
                 clear K3)
              | fail)
            go_wp2
            go_ret
            exact ⟨rfl, HB3.out⟩
      · have HV2 := Lib.hid h2
        clear h2
        have hvf : v = false := by have := hv.out; rw [decide_eq_false (fun k => HV2.out k.2.1)] at this; exact this.symm
        subst hvf
        go_wp2_with fail
        refine (sOkV (px, py) false (decide_eq_false HV2.out) _).mono ?_
        rintro e w6 ⟨rfl, B⟩
        replace HB := Lib.hid (below_call HB.out B)
        clear B
        go_wp2_with fail
        refine (alive _).mono ?_
        rintro e w' ⟨rfl, rfl⟩
        go_wp2
        go_ret
        exact ⟨rfl, HB.out⟩
    · have HV1 := Lib.hid h1
      clear h1
      have hvf : v = false := by have := hv.out; rw [decide_eq_false (fun k => HV1.out k.1)] at this; exact this.symm
      subst hvf
      go_wp2_with fail
      refine (sCvxV sa sl sc ps false (decide_eq_false HV1.out) _ HP.out (by omega)).mono ?_
      rintro e w5 ⟨rfl, B⟩
      replace HB := Lib.hid (below_call HB.out B)
      clear B
      go_wp2_with fail
      refine (alive _).mono ?_
      rintro e w' ⟨rfl, rfl⟩
      go_wp2
      go_ret
      exact ⟨rfl, HB.out⟩
end Go.Proofs.Ytkmopgdnaohcdaa
