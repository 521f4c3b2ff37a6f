/- The walk of the law FnSegmentHits: it returns true at every code. -/
import Derived.Test.YtkmopgdnaohcdaaWi8
namespace Go.Proofs.Ytkmopgdnaohcdaa
set_option maxRecDepth 100000
open Go.RowKit
attribute [local go_sem ↓] Go.wp_at_zero Go.wp_at_succ
/-- One of the ends is inside, or one of the first k edges is met. -/
def HitTo (ps : List P2) (p q : P2) (k : Nat) : Prop := (insV ps p ∨ insV ps q) ∨ ∃ i, i < k ∧ segV p q (cor ps i) (cor ps (nx ps i))
noncomputable instance (ps : List P2) (p q : P2) (k : Nat) : Decidable (HitTo ps p q k) := Classical.propDecidable _
def Any8 (ps : List P2) (p q : P2) (k : Nat) (v : Value) : Prop := ∃ c : Bool, v = .bool c ∧ decide (HitTo ps p q k) = c
theorem Any8.any {ps : List P2} {p q : P2} {k : Nat} {v : Value} (h : Any8 ps p q k v) : ∃ c : Bool, v = .bool c ∧ decide (HitTo ps p q k) = c := h
theorem hitTo_first (ps : List P2) (p q : P2) (h : decide (insV ps p) = true) : Any8 ps p q 0 (.bool true) := ⟨true, rfl, decide_eq_true (.inl (.inl (of_decide_eq_true h)))⟩
theorem hitTo_second (ps : List P2) (p q : P2) (t : Bool) (h : decide (insV ps p) = false) (h2 : decide (insV ps q) = t) : Any8 ps p q 0 (.bool t) := by
  refine ⟨t, rfl, ?_⟩
  cases t
  · refine decide_eq_false fun k => ?_
    rcases k with (k | k) | ⟨i, hi, _⟩
    · exact of_decide_eq_false h k
    · exact of_decide_eq_false h2 k
    · omega
  · exact decide_eq_true (.inl (.inr (of_decide_eq_true h2)))
theorem hitTo_stay {ps : List P2} {p q : P2} {k : Nat} (h : decide (HitTo ps p q k) = true) : Any8 ps p q (k + 1) (.bool true) := by
  refine ⟨true, rfl, decide_eq_true ?_⟩
  rcases of_decide_eq_true h with a | ⟨i, hi, hs⟩
  · exact .inl a
  · exact .inr ⟨i, by omega, hs⟩
theorem hitTo_next {ps : List P2} {p q : P2} {k : Nat} {t : Bool} (h : decide (HitTo ps p q k) = false) (ht : decide (segV p q (cor ps k) (cor ps (nx ps k))) = t) : Any8 ps p q (k + 1) (.bool t) := by
  refine ⟨t, rfl, ?_⟩
  have hn := of_decide_eq_false h
  cases t
  · have hs := of_decide_eq_false ht
    refine decide_eq_false fun c => ?_
    rcases c with a | ⟨i, hi, hc⟩
    · exact hn (.inl a)
    · by_cases e : i = k
      · subst e; exact hs hc
      · exact hn (.inr ⟨i, by omega, hc⟩)
  · exact decide_eq_true (.inr ⟨k, by omega, of_decide_eq_true ht⟩)
theorem hitTo_all {ps : List P2} {p q : P2} (h : okCvx ps) (hp : okQ p) (hq : okQ q) : HitTo ps p q ps.length ↔ shV ps p q := by
  constructor
  · rintro ((a | a) | ⟨i, hi, hs⟩)
    · exact ⟨h, hp, hq, .inl (.inl a.2.2)⟩
    · exact ⟨h, hp, hq, .inl (.inr a.2.2)⟩
    · exact ⟨h, hp, hq, .inr ⟨i, hi, hs.2.2.2.2⟩⟩
  · rintro ⟨_, _, _, (a | a) | ⟨i, hi, hs⟩⟩
    · exact .inl (.inl ⟨h, hp, a⟩)
    · exact .inl (.inr ⟨h, hq, a⟩)
    · exact .inr ⟨i, hi, hp, hq, h.2.2.1.cor hi, h.2.2.1.cor (nx_lt hi), hs⟩
theorem shV_swap (ps : List P2) (p q : P2) : decide (shV ps q p) = decide (shV ps p q) := same_dec _ _ (by
  unfold shV
  rw [hit_swap ps q p]
  constructor <;> (rintro ⟨a, b, c, d⟩; exact ⟨a, c, b, d⟩))
theorem iHitsV (a : Option Addr) (len cap : Nat) (ps : List P2) (p q : P2) (v : Bool) (hv : decide (shV ps p q) = v) (w : World) (hp : PL w a len ps) (hl : len ≤ 9223372036854775807) :
    Calls Try.prog 35 #[.slice a len cap, pt p.1 p.2, pt q.1 q.2] w fun e w' => e = .returned (.bool v) ∧ Below w.heap.size w w' := by
  subst hv; exact iHits a len cap ps p q w hp hl
theorem sHitsV (a : Option Addr) (len cap : Nat) (ps : List P2) (p q : P2) (v : Bool) (hv : decide (shV ps p q) = v) (w : World) (hp : PL w a len ps) (hl : len ≤ 9223372036854775807) :
    Calls Try.prog 36 #[.slice a len cap, pt p.1 p.2, pt q.1 q.2] w fun e w' => e = .returned (.bool v) ∧ Below w.heap.size w w' := by
  subst hv; exact sHits a len cap ps p q w hp hl
theorem iSegsV (a b c d : P2) (v : Bool) (hv : decide (segV a b c d) = v) (w : World) :
    Calls Try.prog 31 #[pt a.1 a.2, pt b.1 b.2, pt c.1 c.2, pt d.1 d.2] w fun e w' => e = .returned (.bool v) ∧ Below w.heap.size w w' := by
  subst hv; exact iSegs a b c d w
theorem at2_next {w w' : World} {x1 x2 : Nat} {a b c d : Int} (h : AtP w x1 a b ∧ AtP w x2 c d) (hb : Below w.heap.size w w') : AtP w' x1 a b ∧ AtP w' x2 c d := ⟨h.1.next hb, h.2.next hb⟩
set_option maxHeartbeats 4000000 in
theorem walkFnSegmentHits (w : World) (a : Option Addr) (len cap : Nat) (zs : List Int) (h : Bytes w a len cap zs) :
    Calls Try.prog 6 #[.slice a len cap] w fun e w' => e = .returned (.bool true) ∧ Below w.heap.size w w' := by
  have hle := h.len_le
  obtain ⟨hl, hm⟩ := hle
  unfold maxLen at hm
  by_cases hbig : 1048576 < len
  · go_enter Try.func6, Try.ntmps6
    go_wp2
    go_ret
    exact ⟨rfl, Below.refl _ _⟩
  · go_enter Try.func6, Try.ntmps6
    go_wp2_with fail
    refine (drawSegmentHits w a len cap zs h).mono ?_
    rintro e w1 ⟨⟨sa, sl, sc⟩, ps, ⟨px, py⟩, ⟨qx, qy⟩, rfl, P, hn, B1, hc⟩
    simp only at P hc
    have hsl : sl ≤ 16 := by have := P.1; omega
    have HBX := Lib.hid (below_box2 w1 (.cells #[.int .i64 px, .int .i64 py] 28) (.cells #[.int .i64 qx, .int .i64 qy] 28))
    have HB := Lib.hid (below_call B1 HBX.out)
    have HP := Lib.hid (P.next HBX.out)
    have X1 := (AtP.box w1 px py 28).next (below_box _ (.cells #[.int .i64 qx, .int .i64 qy] 28))
    have X2 := AtP.box (w1.alloc (.cells #[.int .i64 px, .int .i64 py] 28)) qx qy 28
    simp only [World.size_alloc] at X2
    have HX := Lib.hid (And.intro X1 X2)
    clear B1 P h hl hm hbig hc HBX X1 X2
    obtain ⟨v, hv⟩ : ∃ v, decide (shV ps (px, py) (qx, qy)) = v := ⟨_, rfl⟩
    have HSW := Lib.hid ((shV_swap ps (px, py) (qx, qy)).trans hv)
    replace hv := Lib.hid hv
    have e0 : (v != v) = false := by simp
    go_upto_region 4 with fail
    generalize (w1.alloc (.cells #[.int .i64 px, .int .i64 py] 28)).alloc (.cells #[.int .i64 qx, .int .i64 qy] 28) = w2 at *
    generalize hvq : w1.heap.size + 1 = vq at *
    replace hvq := Lib.hid hvq
    generalize w1.heap.size = vp at *
    obtain ⟨⟨_, a1, a2⟩, ⟨_, b1, b2⟩⟩ := HX.out
    go_wp2_with fail
    refine (iHitsV sa sl sc ps (px, py) (qx, qy) v hv.out _ HP.out (by omega)).mono ?_
    rintro e w3 ⟨rfl, B⟩
    replace HP := Lib.hid (HP.out.next B)
    replace HX := Lib.hid (at2_next HX.out B)
    replace HB := Lib.hid (below_call HB.out B)
    clear B a1 a2 b1 b2
    obtain ⟨⟨_, a1, a2⟩, ⟨_, b1, b2⟩⟩ := HX.out
    go_wp2_with fail
    refine (sHitsV sa sl sc ps (px, py) (qx, qy) v hv.out _ HP.out (by omega)).mono ?_
    rintro e w4 ⟨rfl, B⟩
    replace HP := Lib.hid (HP.out.next B)
    replace HX := Lib.hid (at2_next HX.out B)
    replace HB := Lib.hid (below_call HB.out B)
    clear B a1 a2 b1 b2
    obtain ⟨⟨_, a1, a2⟩, ⟨_, b1, b2⟩⟩ := HX.out
    go_wp2_with fail
    refine (iHitsV sa sl sc ps (qx, qy) (px, py) v HSW.out _ HP.out (by omega)).mono ?_
    rintro e w5 ⟨rfl, B⟩
    replace HP := Lib.hid (HP.out.next B)
    replace HX := Lib.hid (at2_next HX.out B)
    replace HB := Lib.hid (below_call HB.out B)
    clear B a1 a2 b1 b2 HSW
    obtain ⟨⟨_, a1, a2⟩, ⟨_, b1, b2⟩⟩ := HX.out
    by_cases h1 : okCvx ps
    · have HV1 := Lib.hid h1
      clear h1
      go_wp2_with fail
      refine (sCvxV sa sl sc ps true (decide_eq_true HV1.out) _ HP.out (by omega)).mono ?_
      rintro e w6 ⟨rfl, B⟩
      replace HP := Lib.hid (HP.out.next B)
      replace HX := Lib.hid (at2_next HX.out B)
      replace HB := Lib.hid (below_call HB.out B)
      clear B a1 a2 b1 b2
      obtain ⟨⟨_, a1, a2⟩, ⟨_, b1, b2⟩⟩ := HX.out
      by_cases h2 : okQ (px, py)
      · have HV2 := Lib.hid h2
        clear h2
        go_wp2_with fail
        refine (sOkV (px, py) true (decide_eq_true HV2.out) _).mono ?_
        rintro e w7 ⟨rfl, B⟩
        replace HP := Lib.hid (HP.out.next B)
        replace HX := Lib.hid (at2_next HX.out B)
        replace HB := Lib.hid (below_call HB.out B)
        clear B a1 a2 b1 b2
        obtain ⟨⟨_, a1, a2⟩, ⟨_, b1, b2⟩⟩ := HX.out
        by_cases h3 : okQ (qx, qy)
        · have HV3 := Lib.hid h3
          clear h3
          go_wp2_with fail
          refine (sOkV (qx, qy) true (decide_eq_true HV3.out) _).mono ?_
          rintro e w8 ⟨rfl, B⟩
          replace HP := Lib.hid (HP.out.next B)
          replace HX := Lib.hid (at2_next HX.out B)
          replace HB := Lib.hid (below_call HB.out B)
          clear B a1 a2 b1 b2 e0
          obtain ⟨⟨_, a1, a2⟩, ⟨_, b1, b2⟩⟩ := HX.out
          go_upto_region 9 with fail
          go_cut [7] (fun y wx => Any8 ps (px, py) (qx, qy) 0 y ∧ Hid (Below w8.heap.size w8 wx))
          case first =>
            obtain ⟨t1, ht1⟩ : ∃ t, decide (insV ps (px, py)) = t := ⟨_, rfl⟩
            replace ht1 := Lib.hid ht1
            go_wp2_with fail
            refine (iInsV sa sl sc ps (px, py) t1 ht1.out _ HP.out (by omega)).mono ?_
            rintro e w9 ⟨rfl, B⟩
            have HW := Lib.hid B
            have HX9 := Lib.hid (at2_next HX.out B)
            clear B a1 a2 b1 b2
            obtain ⟨⟨_, a1, a2⟩, ⟨_, b1, b2⟩⟩ := HX9.out
            cases t1
            · obtain ⟨t2, ht2⟩ : ∃ t, decide (insV ps (qx, qy)) = t := ⟨_, rfl⟩
              replace ht2 := Lib.hid ht2
              go_wp2_with fail
              refine (iInsV sa sl sc ps (qx, qy) t2 ht2.out _ (HP.out.next HW.out) (by omega)).mono ?_
              rintro e w10 ⟨rfl, B⟩
              replace HW := Lib.hid (below_call HW.out B)
              have HF := Lib.hid (hitTo_second ps (px, py) (qx, qy) t2 ht1.out ht2.out)
              clear B a1 a2 b1 b2 ht1 ht2
              go_wp2
              go_meet
              exact ⟨HF.out, HW⟩
            · have HF := Lib.hid (hitTo_first ps (px, py) (qx, qy) ht1.out)
              clear ht1
              go_wp2
              go_meet
              exact ⟨HF.out, HW⟩
          case rest =>
            obtain ⟨hA, HW0⟩ := hcut
            replace hA := Lib.hid hA
            replace HX := Lib.hid (at2_next HX.out HW0.out)
            replace HP := Lib.hid (HP.out.next HW0.out)
            replace HB := Lib.hid (below_call HB.out HW0.out)
            clear a1 a2 b1 b2 HW0
            have h3 : 3 ≤ sl := by have := HV1.out.1; have := HP.out.1; omega
            obtain ⟨b, o, rfl, lt, hcell⟩ := HP.out.somes (by omega)
            have HCL := Lib.hid hcell
            have HLE := Lib.hid HP.out.1
            clear hcell hn
            have hne : ¬ sl = 0 := by omega
            have hne2 : ¬ (sl : Int) = 0 := by omega
            go_wp2
            go_loopw [7, 8] (fun y i wr => ∃ k : Nat, k ≤ sl ∧ i = .int .i64 (k : Int) ∧ Hid (Any8 ps (px, py) (qx, qy) k y) ∧ Hid (Below wc.heap.size wc wr)) (fun _ i _ => sl - (intOf i).toNat)
            case atStart => exact ⟨0, Nat.zero_le _, rfl, hA, Lib.hid (Below.refl _ _)⟩
            case round =>
              obtain ⟨k, hk, rfl, HA, HW⟩ := hrel
              clear hA
              obtain ⟨c, rfl, HC⟩ := HA.out.any
              clear HA
              replace HC := Lib.hid HC
              by_cases hlt : k < sl
              · have j0 : (0 : Int) ≤ (k : Int) := by omega
                have j1 : (k : Int) < (sl : Int) := by omega
                have HMD := Lib.hid (show ((k : Int) + 1).tmod (sl : Int) = (nx ps k : Nat) ∧ nx ps k < sl by
                  rw [HLE.out] at hlt ⊢; exact ⟨tmod_nx ps k, nx_lt hlt⟩)
                have hmd := HMD.out.1
                have m1 : (0 : Int) ≤ (nx ps k : Int) := by omega
                have m2 : (nx ps k : Int) < (sl : Int) := by have := HMD.out.2; omega
                have hbw : b < wr.heap.size := Nat.lt_of_lt_of_le lt HW.out.size
                have u1 := keptCell (w := wr) (b := b) (o := o + k * 2) hbw ((HW.out.cell (p := ⟨b, o + k * 2, none⟩) lt).trans (HCL.out k hlt).1)
                have u2 := keptCell (w := wr) (b := b) (o := o + k * 2 + 1) hbw ((HW.out.cell (p := ⟨b, o + k * 2 + 1, none⟩) lt).trans (HCL.out k hlt).2)
                have u3 := keptCell (w := wr) (b := b) (o := o + nx ps k * 2) hbw ((HW.out.cell (p := ⟨b, o + nx ps k * 2, none⟩) lt).trans (HCL.out _ HMD.out.2).1)
                have u4 := keptCell (w := wr) (b := b) (o := o + nx ps k * 2 + 1) hbw ((HW.out.cell (p := ⟨b, o + nx ps k * 2 + 1, none⟩) lt).trans (HCL.out _ HMD.out.2).2)
                obtain ⟨u5, u6⟩ := (HX.out.1.next HW.out).kepts
                obtain ⟨u7, u8⟩ := (HX.out.2.next HW.out).kepts
                cases c
                · obtain ⟨t, ht⟩ : ∃ t, decide (segV (px, py) (qx, qy) (cor ps k) (cor ps (nx ps k))) = t := ⟨_, rfl⟩
                  have HN := Lib.hid (hitTo_next HC.out ht)
                  have HSG := Lib.hid (fun (n : Kept wr) => keptCall (iSegsV (px, py) (qx, qy) (cor ps k) (cor ps (nx ps k)) t ht n.u))
                  clear ht HC
                  go_upto_region 13 with fail
                  refine wp_region_kept (by kernel_rfl) (by kernel_rfl) ?_
                  repeat (go_big_quiet_step ((go_at_call 31; with_reducible exact HSG.out _)))
                  refine wpQuiet_nil ?_
                  rintro w9 ⟨⟨_, K9⟩, rfl⟩
                  replace HW := Lib.hid (below_call HW.out K9)
                  clear u1 u2 u3 u4 u5 u6 u7 u8 K9 HSG
                  go_wp2
                  go_roundw
                  case rel => exact ⟨k + 1, by omega, by congr 1, HN, HW⟩
                  case measure => simp [intOf]; omega
                · have HN := Lib.hid (hitTo_stay HC.out)
                  clear HC
                  go_upto_region 13 with fail
                  refine wp_region_kept (by kernel_rfl) (by kernel_rfl) ?_
                  repeat (go_big_quiet_step (fail))
                  refine wpQuiet_nil ?_
                  rintro w9 ⟨⟨_, K9⟩, rfl⟩
                  replace HW := Lib.hid (below_call HW.out K9)
                  clear u1 u2 u3 u4 u5 u6 u7 u8 K9
                  go_wp2
                  go_roundw
                  case rel => exact ⟨k + 1, by omega, by congr 1, HN, HW⟩
                  case measure => simp [intOf]; omega
              · obtain rfl : k = sl := by omega
                have hcv : c = v := by
                  have e1 := HC.out
                  rw [HLE.out] at e1
                  rw [← e1, ← hv.out]
                  exact same_dec _ _ (hitTo_all HV1.out HV2.out HV3.out)
                subst hcv
                have t2 : (c == c) = true := by simp
                have HBW := Lib.hid (below_call HB.out HW.out)
                clear HC HCL HP HX HB HW
                go_wp2
                go_ret
                exact ⟨rfl, HBW.out⟩
        · have HV3 := Lib.hid h3
          clear h3
          have hvf : v = false := by have := hv.out; rw [decide_eq_false (fun k => HV3.out k.2.2.1)] at this; exact this.symm
          subst hvf
          go_wp2_with fail
          refine (sOkV (qx, qy) false (decide_eq_false HV3.out) _).mono ?_
          rintro e w8 ⟨rfl, B⟩
          replace HB := Lib.hid (below_call HB.out B)
          clear B
          go_wp2_with fail
          refine (alive _).mono ?_
          rintro e w' ⟨rfl, rfl⟩
          go_wp2
          go_ret
          exact ⟨rfl, HB.out⟩
      · have HV2 := Lib.hid h2
        clear h2
        have hvf : v = false := by have := hv.out; rw [decide_eq_false (fun k => HV2.out k.2.1)] at this; exact this.symm
        subst hvf
        go_wp2_with fail
        refine (sOkV (px, py) false (decide_eq_false HV2.out) _).mono ?_
        rintro e w7 ⟨rfl, B⟩
        replace HB := Lib.hid (below_call HB.out B)
        clear B
        go_wp2_with fail
        refine (alive _).mono ?_
        rintro e w' ⟨rfl, rfl⟩
        go_wp2
        go_ret
        exact ⟨rfl, HB.out⟩
    · have HV1 := Lib.hid h1
      clear h1
      have hvf : v = false := by have := hv.out; rw [decide_eq_false (fun k => HV1.out k.1)] at this; exact this.symm
      subst hvf
      go_wp2_with fail
      refine (sCvxV sa sl sc ps false (decide_eq_false HV1.out) _ HP.out (by omega)).mono ?_
      rintro e w6 ⟨rfl, B⟩
      replace HB := Lib.hid (below_call HB.out B)
      clear B
      go_wp2_with fail
      refine (alive _).mono ?_
      rintro e w' ⟨rfl, rfl⟩
      go_wp2
      go_ret
      exact ⟨rfl, HB.out⟩
end Go.Proofs.Ytkmopgdnaohcdaa
