/- The walk of the law FnPolygonSquare: it returns true at every code. -/
import Derived.Test.YtgpoknehbadddaaLk9
import Derived.Test.YtgpoknehbadddaaDr9
import Derived.Test.YtgpoknehbadddaaTl8
namespace Go.Proofs.Ytgpoknehbadddaa
set_option maxRecDepth 100000
open Go.RowKit
attribute [local go_sem ↓] Go.wp_at_zero Go.wp_at_succ
theorem AtP.k9 {w : World} {b : Nat} {x y : Int} (h : AtP w b x y) : w.cell? ⟨b, 0, none⟩ = some (.int .i64 x) ∧ w.cell? ⟨b, 1, none⟩ = some (.int .i64 y) := ⟨h.c0, h.c1⟩
theorem iInsE (a : Option Addr) (len cap : Nat) (ps : List P2) (p : P2) (v : Bool) (hv : decide (insV ps p) = v) (w : World) (hp : PL w a len ps) (hl : len ≤ 9223372036854775807) :
    Calls Try.prog 18 #[.slice a len cap, pt p.1 p.2] w fun e w' => e = .returned (.bool v) ∧ Below w.heap.size w w' := by
  subst hv; exact iInside a len cap ps p w hp hl
set_option maxHeartbeats 4000000 in
theorem walkFnPolygonSquare (w : World) (a : Option Addr) (len cap : Nat) (zs : List Int) (h : Bytes w a len cap zs) :
    Calls Try.prog 4 #[.slice a len cap] w fun e w' => e = .returned (.bool true) ∧ Below w.heap.size w w' := by
  have hle := h.len_le
  obtain ⟨hl, hm⟩ := hle
  unfold maxLen at hm
  by_cases hbig : 1048576 < len
  · go_enter Try.func4, Try.ntmps4
    go_wp2
    go_ret
    exact ⟨rfl, Below.refl _ _⟩
  · go_enter Try.func4, Try.ntmps4
    go_wp2_with fail
    refine (drawPolygonSquare w a len cap zs h).mono ?_
    rintro e w0 ⟨⟨sa, sl, sc⟩, ps, p, rfl, P, hn, B1, hc⟩
    clear h hl hm hbig
    simp only at P hc
    have hsl : sl ≤ 16 := by have := P.1; omega
    have HB := Lib.hid (below_call B1 (below_box w0 (.cells #[.int .i64 p.1, .int .i64 p.2] 24)))
    have HP := Lib.hid (P.next (below_box w0 (.cells #[.int .i64 p.1, .int .i64 p.2] 24)))
    have HX := Lib.hid (AtP.box w0 p.1 p.2 24)
    have HC := Lib.hid hc
    clear B1 P hc
    obtain ⟨n, hn9⟩ : ∃ n, psV ps p = n := ⟨_, rfl⟩
    have HNN := Lib.hid hn9
    have HNE := Lib.hid (psV_neg (ps := ps) (p := p))
    have HBD := Lib.hid (psV_bd ps p)
    have HNO := Lib.hid (fun h => psV_no (ps := ps) (p := p) h)
    rw [hn9] at HNE HBD HNO
    clear hn9
    have e0 : (n != n) = false := by simp
    go_upto_region 4 with fail
    generalize w0.alloc (.cells #[.int .i64 p.1, .int .i64 p.2] 24) = w2 at *
    generalize w0.heap.size = vp at *
    obtain ⟨lvp, a1, a2⟩ := HX.out
    go_wp2_with fail
    refine (iPqE sa sl sc ps p n HNN.out _ HP.out (by omega)).mono ?_
    rintro e w3 ⟨rfl, B⟩
    replace HP := Lib.hid (HP.out.next B)
    replace HX := Lib.hid (HX.out.next B)
    replace HB := Lib.hid (below_call HB.out B)
    clear B lvp a1 a2
    obtain ⟨lvp, a1, a2⟩ := HX.out
    go_wp2_with fail
    refine (sPqE sa sl sc ps p n HNN.out _ HP.out (by omega)).mono ?_
    rintro e w4 ⟨rfl, B⟩
    replace HP := Lib.hid (HP.out.next B)
    replace HX := Lib.hid (HX.out.next B)
    replace HB := Lib.hid (below_call HB.out B)
    clear B lvp a1 a2
    obtain ⟨lvp, a1, a2⟩ := HX.out
    by_cases hk : okPol9 ps p
    rotate_left
    · skip
      obtain rfl := HNO.out hk
      clear hk HNN HNE HBD HNO
      go_wp2_with fail
      refine (alive _).mono ?_
      rintro e w' ⟨rfl, rfl⟩
      go_wp2
      go_ret
      exact ⟨rfl, HB.out⟩
    · have HK := Lib.hid hk
      have g : ¬ n < 0 := fun q => (HNE.out.1 q) hk
      have h3 : 3 ≤ sl := by have := hk.1.1; have := HP.out.1; omega
      obtain ⟨b, o, rfl, lt, hcell⟩ := HP.out.somes (by omega)
      have HCL := Lib.hid hcell
      have HLE := Lib.hid HP.out.1
      clear hcell hk HNE HBD HNO
      have hne : ¬ sl = 0 := by omega
      have hne2 : ¬ (sl : Int) = 0 := by omega
      go_wp2
      clear lvp a1 a2
      go_loopw [6] (fun i wr => ∃ j : Nat, j ≤ sl ∧ i = .int .i64 (j : Int) ∧ Hid (Below w4.heap.size w4 wr)) (fun i _ => sl - (intOf i).toNat)
      case atStart => exact ⟨0, Nat.zero_le _, rfl, Lib.hid (Below.refl _ _)⟩
      case round =>
        obtain ⟨j, hj, rfl, HW⟩ := hrel
        by_cases hlt : j < sl
        · have HMD := Lib.hid (show ((j : Int) + 1).tmod (sl : Int) = (nx ps j : Nat) ∧ nx ps j < sl by
            rw [HLE.out] at hlt ⊢; exact ⟨tmod_nx ps j, nx_lt hlt⟩)
          obtain ⟨m, hm⟩ : ∃ m, ssV p (cor ps j) (cor ps (nx ps j)) = m := ⟨_, rfl⟩
          have hge : n ≤ m := by have := psV_edge HK.out (k := j) (by rw [← HLE.out]; exact hlt); have := HNN.out; omega
          have g2 : ¬ n > m := by omega
          have lt' := Nat.lt_of_lt_of_le lt HW.out.size
          have u1 := keptCell (b := b) (o := o + j * 2) lt' ((HW.out.cell (p := ⟨b, o + j * 2, none⟩) lt).trans (HCL.out j hlt).1)
          have u2 := keptCell (b := b) (o := o + j * 2 + 1) lt' ((HW.out.cell (p := ⟨b, o + j * 2 + 1, none⟩) lt).trans (HCL.out j hlt).2)
          have u3 := keptCell (b := b) (o := o + nx ps j * 2) lt' ((HW.out.cell (p := ⟨b, o + nx ps j * 2, none⟩) lt).trans (HCL.out (nx ps j) HMD.out.2).1)
          have u4 := keptCell (b := b) (o := o + nx ps j * 2 + 1) lt' ((HW.out.cell (p := ⟨b, o + nx ps j * 2 + 1, none⟩) lt).trans (HCL.out (nx ps j) HMD.out.2).2)
          obtain ⟨u5, u6⟩ := (HX.out.next HW.out).kepts
          have HQ := Lib.hid (fun (q : Kept wr) => keptCall (iSqE p (cor ps j) (cor ps (nx ps j)) m hm q.u))
          have hm1 := HMD.out.1
          have j1 : (0 : Int) ≤ (j : Int) := by omega
          have j2 : (j : Int) < (sl : Int) := by omega
          have j3 : (0 : Int) ≤ (nx ps j : Int) := by omega
          have j4 : (nx ps j : Int) < (sl : Int) := by have := HMD.out.2; omega
          clear hm hge
          go_upto_region 12 with fail
          refine wp_region_kept (by kernel_rfl) (by kernel_rfl) ?_
          repeat (go_big_quiet_step ((go_at_call 11; with_reducible exact HQ.out _)))
          refine wpQuiet_nil ?_
          rintro w5 ⟨⟨_, K5⟩, rfl⟩
          have HW2 := Lib.hid (below_call HW.out K5)
          clear u1 u2 u3 u4 u5 u6 HQ K5 hm1 j3 j4
          go_wp2
          go_roundw
          case rel => exact ⟨j + 1, by omega, by congr 1, HW2⟩
          case measure => simp [intOf]; omega
        · obtain rfl : j = sl := by omega
          have hcc : j ≤ sc := HC.out
          have HTN := Lib.hid (show psV (trn ps) p = n from (psV_trn HK.out).trans HNN.out)
          have HPW := HP.out.next HW.out
          have HXW := HX.out.next HW.out
          have HPD := Lib.hid (HPW.next (below_drew wr))
          have HXD := Lib.hid (HXW.next (below_drew wr))
          have HBD := Lib.hid (below_call (below_call HB.out HW.out) (below_drew wr))
          have k0 := HXD.out.k9
          have t2 : (n == n) = true := by simp
          by_cases hi : insV ps p
          · have HVI := Lib.hid (decide_eq_true hi)
            have t3 : (n == 0) = true := by have := psV_in HK.out hi.2.2; have := HNN.out; simp; omega
            clear hi HPW HXW HP HX HB HW HC HCL HNN HK
            go_upto_region 14 with fail
            go_region_held3 (fun u => u.cell? ⟨vp, 0, none⟩ = some (.int .i64 p.1) ∧ u.cell? ⟨vp, 1, none⟩ = some (.int .i64 p.2)) (first | exact k0 | exact k1 | exact k2 | exact k3) (first
              | (go_at_call 18
                 (with_reducible refine (iInsE _ j sc ps p _ HVI.out _ HPD.out (by omega)).mono ?_)
                 rintro e u1 ⟨rfl, K1⟩
                 have HP1 := Lib.hid (HPD.out.next K1)
                 have HB1 := Lib.hid (below_call HBD.out K1)
                 have HX1 := HXD.out.next K1
                 have k1 := HX1.k9
                 replace HX1 := Lib.hid HX1
                 clear K1)
              | (go_at_call 19
                 (with_reducible refine (turnListC _ j sc ps _ HP1.out (by omega) (by omega) hcc).mono ?_)
                 rintro e u2 ⟨⟨ta, tl, tc⟩, rfl, O2, K2⟩
                 have HT2 : Hid (PL u2 ta tl (trn ps)) := Lib.hid (OwnPt.ints O2).pl
                 have htl : tl ≤ 16 := by have := HT2.out.1; rw [trn_len] at this; have := HLE.out; omega
                 have HB2 := Lib.hid (below_call HB1.out K2)
                 have HX2 := HX1.out.next K2
                 have k2 := HX2.k9
                 replace HX2 := Lib.hid HX2
                 clear K2 O2)
              | (go_at_call 16
                 (with_reducible refine (iPqE ta tl tc (trn ps) p n HTN.out _ HT2.out (by omega)).mono ?_)
                 rintro e u3 ⟨rfl, K3⟩
                 have HB3 := Lib.hid (below_call HB2.out K3)
                 have k3 := (HX2.out.next K3).k9
                 clear K3)
              | fail)
            go_wp2
            go_ret
            exact ⟨rfl, HB3.out⟩
          · have HVI := Lib.hid (decide_eq_false hi)
            clear hi HPW HXW HP HX HB HW HC HCL HNN HK
            go_upto_region 14 with fail
            obtain ⟨k0a, k0b⟩ := k0
            first
            | go_region_with (first
              | (go_at_call 18
                 (with_reducible refine (iInsE _ j sc ps p _ HVI.out _ HPD.out (by omega)).mono ?_)
                 rintro e u1 ⟨rfl, K1⟩
                 have HP1 := Lib.hid (HPD.out.next K1)
                 have HB1 := Lib.hid (below_call HBD.out K1)
                 have HX1 := HXD.out.next K1
                 have k1 := HX1.k9
                 replace HX1 := Lib.hid HX1
                 clear K1
                 obtain ⟨k1a, k1b⟩ := k1)
              | (go_at_call 19
                 (with_reducible refine (turnListC _ j sc ps _ HP1.out (by omega) (by omega) hcc).mono ?_)
                 rintro e u2 ⟨⟨ta, tl, tc⟩, rfl, O2, K2⟩
                 have HT2 : Hid (PL u2 ta tl (trn ps)) := Lib.hid (OwnPt.ints O2).pl
                 have htl : tl ≤ 16 := by have := HT2.out.1; rw [trn_len] at this; have := HLE.out; omega
                 have HB2 := Lib.hid (below_call HB1.out K2)
                 have HX2 := HX1.out.next K2
                 have k2 := HX2.k9
                 replace HX2 := Lib.hid HX2
                 clear K2 O2
                 obtain ⟨k2a, k2b⟩ := k2)
              | (go_at_call 16
                 (with_reducible refine (iPqE ta tl tc (trn ps) p n HTN.out _ HT2.out (by omega)).mono ?_)
                 rintro e u3 ⟨rfl, K3⟩
                 have HB3 := Lib.hid (below_call HB2.out K3)
                 have k3 := (HX2.out.next K3).k9
                 clear K3)
              | fail)
            | fail
            all_goals
              go_wp2
              go_ret
              exact ⟨rfl, HB3.out⟩
end Go.Proofs.Ytgpoknehbadddaa
