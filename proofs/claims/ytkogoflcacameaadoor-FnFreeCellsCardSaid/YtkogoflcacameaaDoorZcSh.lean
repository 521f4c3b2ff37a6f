/- Several of my texts in one: Sh8, Dp8, Ds8, Dl8. -/
import Derived.Test.YtkogoflcacameaaDoorZcDx
import Derived.Test.YtkogoflcacameaaDoorZbLst
import Derived.Test.YtkogoflcacameaaDoorZbHv
import Derived.Test.YtkogoflcacameaaDoorZbInv
import Derived.Test.YtkogoflcacameaaDoorZbRd
import Derived.Test.YtkogoflcacameaaDoorZcCol
import Derived.Deep.RegionHeld3
namespace Go.Proofs.YtkogoflcacameaaDoor
set_option maxRecDepth 100000
open Go.RowKit
attribute [local go_sem ↓] Go.wp_at_zero Go.wp_at_succ
theorem eqT8 {a b : P2} (h : a = b) (u : World) : (if a.1 = b.1 then if a.2 = b.2 then Result.ok (Next.value (Value.bool true)) u else Result.ok (Next.value (Value.bool false)) u else Result.ok (Next.value (Value.bool false)) u) = Result.ok (Next.value (Value.bool true)) u := by
  rw [if_pos (by rw [h]), if_pos (by rw [h])]
theorem eqF8 {a b : P2} (h : a ≠ b) (u : World) : (if a.1 = b.1 then if a.2 = b.2 then Result.ok (Next.value (Value.bool true)) u else Result.ok (Next.value (Value.bool false)) u else Result.ok (Next.value (Value.bool false)) u) = Result.ok (Next.value (Value.bool false)) u := by
  by_cases h1 : a.1 = b.1
  · rw [if_pos h1, if_neg (fun h2 => h (Prod.ext h1 h2))]
  · rw [if_neg h1]
theorem squareC (a b : P2) (w : World) (ha : okQ a) (hb : okQ b) : Calls Tryd.prog 79 #[pt a.1 a.2, pt b.1 b.2] w fun e w' => e = .returned (.int .i64 (sq2 a b)) ∧ Below w.heap.size w w' := by
  have := l2Square a.1 a.2 b.1 b.2 w ha hb
  rw [sqV_in' ⟨ha, hb⟩] at this
  exact this
set_option maxHeartbeats 8000000 in
theorem specHullOf (a : Option Addr) (len cap : Nat) (ps : List P2) (w : World) (hp : PL w a len ps) (hl : len ≤ 9223372036854775807) :
    Calls Tryd.prog 66 #[.slice a len cap] w (RowP (hulV ps) w) := by
  obtain ⟨i0, hi0, hz0, hz1, hz2⟩ := info_parts infoPt6
  have HLE := Lib.hid hp.1
  have R0 := Lib.hid (Ro.empty (Below.refl w.heap.size w) 89 rfl)
  by_cases h16 : len ≤ 16
  · by_cases h0 : len = 0
    · subst h0
      have HV := Lib.hid (show ([] : List P2) = hulV ps by have := HLE.out; rw [List.eq_nil_of_length_eq_zero this.symm, hulV_nil])
      clear hp
      go_enter Tryd.func66, Tryd.ntmps66
      go_wp2
      go_ret
      rw [← HV.out]; exact R0.out.row
    · have HP := Lib.hid hp
      obtain ⟨b, o, rfl, ltb, hcb⟩ := (hp.next R0.out.bel).somes (by omega)
      obtain ⟨d0, d1⟩ := hcb 0 (by omega)
      simp only [Nat.zero_mul, Nat.add_zero] at d0 d1
      have g1 : ¬ (len : Int) > 16 := by omega
      have g2 : ((len : Int) == 0) = false := by simpa using h0
      have g3 : (0 : Int) < (len : Int) := by omega
      have n1 : 0 < len := by omega
      clear hp
      go_enter Tryd.func66, Tryd.ntmps66
      go_wp2
      have HB2 := Lib.hid (show Ro w ((w.alloc (.cells #[] 89)).alloc (.cells (ptC (cor ps 0)) 89)) (.slice (some ⟨w.heap.size, 0, none⟩) 0 0) [] from R0.out.next (below_box _ _))
      have HA2 := Lib.hid (show Bx w ((w.alloc (.cells #[] 89)).alloc (.cells (ptC (cor ps 0)) 89)) (.slice (some ⟨w.heap.size, 0, none⟩) 0 0) (w.heap.size + 1) (cor ps 0) from by
        have := Bx.new R0.out (cor ps 0); rw [World.size_alloc] at this; exact this)
      have HL0 := Lib.hid (show Lst8 ps 0 (cor ps 0) from ⟨cor_mem (by rw [← HLE.out]; exact n1), fun i hi => by omega⟩)
      clear d0 d1 hcb ltb g2 g3 R0
      go_loopw [5] (fun i wr => ∃ (j : Nat) (c : P2), j ≤ len ∧ i = .int .i64 (j : Int) ∧ Hid (Lst8 ps j c) ∧ Hid (Ro w wr (.slice (some ⟨w.heap.size, 0, none⟩) 0 0) []) ∧ Hid (Bx w wr (.slice (some ⟨w.heap.size, 0, none⟩) 0 0) (w.heap.size + 1) c)) (fun i _ => len - (intOf i).toNat)
      case atStart => exact ⟨0, cor ps 0, Nat.zero_le _, rfl, HL0, HB2, HA2⟩
      case round =>
        obtain ⟨j, x, hj, rfl, HL, HR, HA⟩ := hrel
        clear HB2 HA2 HL0
        by_cases hlt : j < len
        · obtain ⟨_, _, e, ltb, hc⟩ := (HP.out.next HR.out.bel).somes (by omega)
          simp only [Option.some.injEq, Addr.mk.injEq, and_true] at e
          obtain ⟨rfl, rfl⟩ := e
          obtain ⟨d0, d1⟩ := hc j hlt
          have j1 : (0 : Int) ≤ (j : Int) := by omega
          have j2 : (j : Int) < (len : Int) := by omega
          have HSP := Lib.hid (fun u => specPointValidC (cor ps j) u)
          by_cases hv : okQ (cor ps j)
          · have HLS := Lib.hid (HL.out.step (by rw [← HLE.out]; exact hlt) hv)
            have hv' : decide (okQ (cor ps j)) = true := decide_eq_true hv
            clear hc hv
            generalize cor ps j = c at *
            go_wp2_with fail
            refine (HSP.out _).mono ?_
            rintro e w1 ⟨rfl, B1⟩
            rw [hv']
            have HR1 := Lib.hid (HR.out.next B1)
            have HA1 := Lib.hid (HA.out.next B1)
            have hb1 : b < w1.heap.size := Nat.lt_of_lt_of_le ltb B1.size
            have e0 : w1.cell? ⟨b, o + j * 2, none⟩ = some (.int .i64 c.1) := (B1.cell (p := ⟨b, o + j * 2, none⟩) ltb).trans d0
            have e1 : w1.cell? ⟨b, o + j * 2 + 1, none⟩ = some (.int .i64 c.2) := (B1.cell (p := ⟨b, o + j * 2 + 1, none⟩) ltb).trans d1
            have u1 := keptCell hb1 e0
            have u2 := keptCell hb1 e1
            obtain ⟨u3, u4⟩ := HA1.out.at.kepts
            clear d0 d1 B1 HR HA
            by_cases hq1 : c.1 < x.1
            · have b1 : decide (c.1 < x.1) = true := decide_eq_true hq1
              rw [if_pos (.inl hq1)] at HLS
              clear hq1
              go_wp2_with fail
              refine wp_region_kept (by kernel_rfl) (by kernel_rfl) ?_
              repeat (go_big_quiet_step (fail))
              refine wpQuiet_nil ?_
              rintro w5 ⟨⟨_, K5⟩, rfl⟩
              have HR5 := Lib.hid (HR1.out.next K5)
              have HA5 := Lib.hid (HA1.out.next K5)
              have f0 := (u1 ⟨w5, K5⟩)
              have f1 := (u2 ⟨w5, K5⟩)
              simp only at f0 f1
              obtain ⟨z0, z1⟩ := HA5.out.fr
              obtain ⟨_, m0, m1⟩ := HA5.out.at
              have HR6 := Lib.hid (HR5.out.put HA5.out (.int .i64 c.1) (.int .i64 c.2))
              have HA6 := Lib.hid (HA5.out.put c)
              clear u1 u2 u3 u4 HR1 HA1 K5 HR5 HA5
              go_wp2
              go_roundw
              case rel => exact ⟨j + 1, c, by omega, by congr 1, HLS, HR6, HA6⟩
              case measure => simp [intOf]; omega
            · have b1 : decide (c.1 < x.1) = false := decide_eq_false hq1
              by_cases hq2 : c.1 = x.1
              · have b2 : (c.1 == x.1) = true := by simpa using hq2
                by_cases hq3 : c.2 < x.2
                · have b3 : decide (c.2 < x.2) = true := decide_eq_true hq3
                  rw [if_pos (.inr ⟨hq2, hq3⟩)] at HLS
                  clear hq1 hq2 hq3
                  go_wp2_with fail
                  refine wp_region_kept (by kernel_rfl) (by kernel_rfl) ?_
                  repeat (go_big_quiet_step (fail))
                  refine wpQuiet_nil ?_
                  rintro w5 ⟨⟨_, K5⟩, rfl⟩
                  have HR5 := Lib.hid (HR1.out.next K5)
                  have HA5 := Lib.hid (HA1.out.next K5)
                  have f0 := (u1 ⟨w5, K5⟩)
                  have f1 := (u2 ⟨w5, K5⟩)
                  simp only at f0 f1
                  obtain ⟨z0, z1⟩ := HA5.out.fr
                  obtain ⟨_, m0, m1⟩ := HA5.out.at
                  have HR6 := Lib.hid (HR5.out.put HA5.out (.int .i64 c.1) (.int .i64 c.2))
                  have HA6 := Lib.hid (HA5.out.put c)
                  clear u1 u2 u3 u4 HR1 HA1 K5 HR5 HA5
                  go_wp2
                  go_roundw
                  case rel => exact ⟨j + 1, c, by omega, by congr 1, HLS, HR6, HA6⟩
                  case measure => simp [intOf]; omega
                · have b3 : decide (c.2 < x.2) = false := decide_eq_false hq3
                  rw [if_neg (by omega)] at HLS
                  clear hq1 hq2 hq3
                  go_wp2_with fail
                  refine wp_region_kept (by kernel_rfl) (by kernel_rfl) ?_
                  repeat (go_big_quiet_step (fail))
                  refine wpQuiet_nil ?_
                  rintro w5 ⟨⟨_, K5⟩, rfl⟩
                  have HR5 := Lib.hid (HR1.out.next K5)
                  have HA5 := Lib.hid (HA1.out.next K5)
                  clear u1 u2 u3 u4 HR1 HA1 K5
                  go_wp2
                  go_roundw
                  case rel => exact ⟨j + 1, x, by omega, by congr 1, HLS, HR5, HA5⟩
                  case measure => simp [intOf]; omega
              · have b2 : (c.1 == x.1) = false := by simpa using hq2
                rw [if_neg (by omega)] at HLS
                clear hq1 hq2
                go_wp2_with fail
                refine wp_region_kept (by kernel_rfl) (by kernel_rfl) ?_
                repeat (go_big_quiet_step (fail))
                refine wpQuiet_nil ?_
                rintro w5 ⟨⟨_, K5⟩, rfl⟩
                have HR5 := Lib.hid (HR1.out.next K5)
                have HA5 := Lib.hid (HA1.out.next K5)
                clear u1 u2 u3 u4 HR1 HA1 K5
                go_wp2
                go_roundw
                case rel => exact ⟨j + 1, x, by omega, by congr 1, HLS, HR5, HA5⟩
                case measure => simp [intOf]; omega
          · have HNV := Lib.hid (show ([] : List P2) = hulV ps from (hulV_out fun k => hv (k.2.cor (by rw [← HLE.out]; exact hlt))).symm)
            have hv' : decide (okQ (cor ps j)) = false := decide_eq_false hv
            clear hc hv
            generalize cor ps j = c at *
            go_wp2_with fail
            refine (HSP.out _).mono ?_
            rintro e w1 ⟨rfl, B1⟩
            rw [hv']
            have HF := Lib.hid (Ro.empty (below_call HR.out.bel B1) 89 rfl)
            clear d0 d1 B1 HR HA
            go_wp2
            go_ret
            rw [← HNV.out]; exact HF.out.row
        · have hjl : j = len := by omega
          subst j
          replace HL := Lib.hid (show Lst8 ps ps.length x by rw [← HLE.out]; exact HL.out)
          have HK := Lib.hid HL.out.ok
          have HC0 := Lib.hid (show Chain8 ps ([] ++ [x]) ∧ cor ([] ++ [x]) 0 = x from ⟨HL.out.chain, rfl⟩)
          have HLEAST := Lib.hid HL.out.le
          obtain ⟨_, m0, m1⟩ := HA.out.at
          have HBF := Lib.hid (Bx.new HR.out x)
          have HRF := Lib.hid (HR.out.next (below_box wr (.cells (ptC x) 89)))
          have HAF := Lib.hid (HA.out.next (below_box wr (.cells (ptC x) 89)))
          have HNE := Lib.hid (show w.heap.size + 1 ≠ wr.heap.size from by have := HA.out.c.lt; omega)
          clear HL HR HA
          go_wp2
          clear m0 m1
          generalize wr.alloc (.cells #[.int .i64 x.1, .int .i64 x.2] 89) = w2 at *
          generalize wr.heap.size = bF at *
          generalize w.heap.size + 1 = bA at *
          generalize x = f at *
          go_loopw [3] (fun v wr => ∃ (H : List P2) (a : P2), Hid (Chain8 ps (H ++ [a]) ∧ cor (H ++ [a]) 0 = f) ∧ Hid (Ro w wr v H) ∧ Hid (Bx w wr v bA a) ∧ Hid (Bx w wr v bF f)) (fun v _ => 17 - slLen v)
          case atStart => exact ⟨[], f, HC0, HRF, HAF, HBF⟩
          case round =>
            obtain ⟨H, x, HC, HR, HA, HF⟩ := hrel
            obtain ⟨va, vn, vc, rfl, hvn⟩ := HR.out.sl
            have hsh : vn + 1 ≤ 16 := by have := walk_short HC.out.1; have := HLE.out; omega
            have HVN := Lib.hid hvn
            clear HC0 HRF HAF HBF hvn
            obtain ⟨_, m0, m1⟩ := HA.out.at
            have HRa := Lib.hid (HR.out.next (below_box wr (.cells (ptC x) 89)))
            have HAa := Lib.hid (HA.out.next (below_box wr (.cells (ptC x) 89)))
            have HFa := Lib.hid (HF.out.next (below_box wr (.cells (ptC x) 89)))
            have HNn := Lib.hid (two_new6 wr (.int .i64 x.1) (.int .i64 x.2) 89)
            have HPV := Lib.hid (pvals_snoc6 H x)
            have HWW := Lib.hid (show w.heap.size ≤ (wr.alloc (.cells (ptC x) 89)).heap.size from HRa.out.bel.size)
            have HON := Lib.hid (show (wr.alloc (.cells (ptC x) 89)).ownsRow w.heap.size 89 2 (.slice va vn vc) vn (pvals H) by
              have o := HRa.out.own; unfold OwnPt at o; rw [← HVN.out] at o; exact o)
            clear HR HA HF
            go_upto_region 14 with (at_builtin; refine wpList_append_lies _ rfl (.tmp 69) (.tmp 71) 72 rfl w.heap.size 89 i0 (pt 0 0) 2 16 Tryd.underlying72 hi0 hz0 hz1 hz2 rfl (by decide) _ vn (pvals H) rfl HON.out ⟨wr.heap.size, 0, none⟩ 1 1 [.int .i64 x.1, .int .i64 x.2] rfl rfl HNn.out (by intro u hu; simp at hu; rcases hu with rfl | rfl <;> rfl) (by omega) (by unfold maxLen; omega) (by omega) HWW.out _ rfl ?_; intro g7 cap7 w7 own7 grow7 at7 ltg7; have HA7 := Lib.hid (And.intro own7 (And.intro grow7 at7)); clear own7 grow7 at7 ltg7)
            have HR7 := Lib.hid (show Ro w w7 (.slice (some ⟨g7, 0, none⟩) (vn + 1) cap7) (H ++ [x]) from HRa.out.app HA7.out.2.1 (by
              have o := HA7.out.1
              rw [← HPV.out] at o
              unfold OwnPt
              rw [List.length_append, ← HVN.out]
              exact o))
            have HA8 := Lib.hid (HAa.out.app (n := vn + 1) (cap := cap7) HA7.out.2.1 HA7.out.2.2)
            have HF8 := Lib.hid (HFa.out.app (n := vn + 1) (cap := cap7) HA7.out.2.1 HA7.out.2.2)
            clear HA7 HRa HAa HFa HNn HPV HWW HON m0 m1
            obtain ⟨_, m0, m1⟩ := HA8.out.at
            have HX7 := Lib.hid (Bx.new HR7.out x)
            have HNE2 := Lib.hid (show bA ≠ w7.heap.size from Nat.ne_of_lt HA8.out.c.lt)
            have HNE3 := Lib.hid (show bF ≠ w7.heap.size from Nat.ne_of_lt HF8.out.c.lt)
            have HR8 := Lib.hid (HR7.out.next (below_box w7 (.cells (ptC x) 89)))
            replace HA8 := Lib.hid (HA8.out.next (below_box w7 (.cells (ptC x) 89)))
            replace HF8 := Lib.hid (HF8.out.next (below_box w7 (.cells (ptC x) 89)))
            have HEX := Lib.hid (show Ext ps x from HC.out.1.extA.2)
            have HMX := Lib.hid (show x ∈ ps from HC.out.1.extA.1)
            have HN0 := Lib.hid (NxTo.start ps x)
            clear HR7
            go_upto_region 16 with fail
            clear m0 m1
            generalize w7.alloc (.cells #[.int .i64 x.1, .int .i64 x.2] 89) = w8 at *
            generalize w7.heap.size = bN at *
            obtain ⟨V, hV⟩ : ∃ V, Value.slice (some ⟨g7, 0, none⟩) (vn + 1) cap7 = V := ⟨_, rfl⟩
            rw [hV] at HR8 HA8 HF8 HX7
            replace hV := Lib.hid hV
            go_loopw [8] (fun i wr => ∃ (k : Nat) (q : P2), k ≤ len ∧ i = .int .i64 (k : Int) ∧ Hid (NxTo ps x k q) ∧ Hid (Ro w wr V (H ++ [x])) ∧ Hid (Bx w wr V bA x) ∧ Hid (Bx w wr V bF f) ∧ Hid (Bx w wr V bN q)) (fun i _ => len - (intOf i).toNat)
            case atStart => exact ⟨0, x, Nat.zero_le _, rfl, HN0, HR8, HA8, HF8, HX7⟩
            case round =>
              obtain ⟨k, q, hk, rfl, HN, HRk, HAk, HFk, HXk⟩ := hrel
              clear HN0 HR8 HA8 HF8 HX7
              by_cases hlt : k < len
              · obtain ⟨_, _, e, ltb, hc⟩ := (HP.out.next HRk.out.bel).somes (by omega)
                simp only [Option.some.injEq, Addr.mk.injEq, and_true] at e
                obtain ⟨rfl, rfl⟩ := e
                have u1 := keptCell (b := b) (o := o + k * 2) ltb (hc k hlt).1
                have u2 := keptCell (b := b) (o := o + k * 2 + 1) ltb (hc k hlt).2
                obtain ⟨u3, u4⟩ := HAk.out.at.kepts
                obtain ⟨u5, u6⟩ := HXk.out.at.kepts
                have j1 : (0 : Int) ≤ (k : Int) := by omega
                have j2 : (k : Int) < (len : Int) := by omega
                have HKL := Lib.hid (show k < ps.length by rw [← HLE.out]; exact hlt)
                have HSM := Lib.hid (fun e => HN.out.same (j := k) e)
                have HKP := Lib.hid (fun e => HN.out.keep (j := k) e)
                have HTK := Lib.hid (fun hne e => HN.out.take (j := k) HEX.out HKL.out hne e)
                have HQ1 := Lib.hid (show okQ x from HK.out x HMX.out)
                have HQ2 := Lib.hid (show okQ q from HK.out q (HN.out.mem HMX.out))
                have HQ3 := Lib.hid (show okQ (cor ps k) from HK.out.cor HKL.out)
                clear hc
                generalize cor ps k = c at *
                by_cases hcx : c = x
                · have hb := eqT8 hcx
                  have HN9 := Lib.hid (show NxTo ps x (k + 1) q from HSM.out hcx)
                  clear hcx
                  go_upto_region 18 with fail
                  refine wp_region_kept (by kernel_rfl) (by kernel_rfl) ?_
                  repeat (go_big_quiet_step (fail))
                  refine wpQuiet_nil ?_
                  rintro w5 ⟨⟨_, K5⟩, rfl⟩
                  have HRl := Lib.hid (HRk.out.next K5)
                  have HAl := Lib.hid (HAk.out.next K5)
                  have HFl := Lib.hid (HFk.out.next K5)
                  have HXl := Lib.hid (HXk.out.next K5)
                  clear u1 u2 u3 u4 u5 u6 K5 HRk HAk HFk HXk
                  go_wp2
                  go_roundw
                  case rel => exact ⟨k + 1, q, by omega, by congr 1, HN9, HRl, HAl, HFl, HXl⟩
                  case measure => simp [intOf]; omega
                · have hb := eqF8 hcx
                  replace HTK := Lib.hid (HTK.out hcx)
                  clear hcx HSM
                  go_upto_region 18 with fail
                  refine wp_region_kept (by kernel_rfl) (by kernel_rfl) ?_
                  repeat (go_big_quiet_step (fail))
                  refine wpQuiet_nil ?_
                  rintro w5 ⟨⟨_, K5⟩, rfl⟩
                  replace u1 := keptCell (Nat.lt_of_lt_of_le ltb K5.size) (u1 ⟨w5, K5⟩)
                  replace u2 := keptCell (Nat.lt_of_lt_of_le ltb K5.size) (u2 ⟨w5, K5⟩)
                  replace ltb := Nat.lt_of_lt_of_le ltb K5.size
                  have HRm := Lib.hid (HRk.out.next K5)
                  have HAm := Lib.hid (HAk.out.next K5)
                  have HFm := Lib.hid (HFk.out.next K5)
                  have HXm := Lib.hid (HXk.out.next K5)
                  clear u3 u4 u5 u6
                  obtain ⟨u3, u4⟩ := HAm.out.at.kepts
                  obtain ⟨u5, u6⟩ := HXm.out.at.kepts
                  clear K5 HRk HAk HFk HXk
                  have HCR := Lib.hid (fun (n : Kept w5) => keptCall (crossC x q c n.u HQ1.out HQ2.out HQ3.out))
                  go_upto_region 19 with fail
                  refine wp_region_ktail 7 (by kernel_rfl) (by kernel_rfl) ?_
                  simp only [List.take_succ_cons, List.take_zero, List.drop_succ_cons, List.drop_zero]
                  repeat (go_big_quiet_step ((go_at_call 78; with_reducible exact HCR.out _)))
                  refine wpQuiet_nil ?_
                  rintro w4 ⟨⟨_, K4⟩, rfl⟩
                  replace u1 := keptCell (Nat.lt_of_lt_of_le ltb K4.size) (u1 ⟨w4, K4⟩)
                  replace u2 := keptCell (Nat.lt_of_lt_of_le ltb K4.size) (u2 ⟨w4, K4⟩)
                  replace ltb := Nat.lt_of_lt_of_le ltb K4.size
                  have HRl := Lib.hid (HRm.out.next K4)
                  have HAl := Lib.hid (HAm.out.next K4)
                  have HFl := Lib.hid (HFm.out.next K4)
                  have HXl := Lib.hid (HXm.out.next K4)
                  clear u3 u4 u5 u6
                  obtain ⟨u3, u4⟩ := HAl.out.at.kepts
                  obtain ⟨u5, u6⟩ := HXl.out.at.kepts
                  clear K4 HRm HAm HFm HXm
                  clear HCR hb
                  have HS1 := Lib.hid (fun (n : Kept w4) => keptCall (squareC x c n.u HQ1.out HQ3.out))
                  have HS2 := Lib.hid (fun (n : Kept w4) => keptCall (squareC x q n.u HQ1.out HQ2.out))
                  obtain ⟨d, hd⟩ : ∃ d, cr x q c = d := ⟨_, rfl⟩
                  rw [hd]
                  have HD := Lib.hid hd
                  clear hd
                  by_cases hqx : q = x
                  · have hb := eqT8 hqx
                    have HQX := Lib.hid hqx
                    clear hqx
                    go_wp2_with fail
                    refine wp_region_kept (by kernel_rfl) (by kernel_rfl) ?_
                    repeat (go_big_quiet_step ((go_at_call 79; (first | with_reducible exact HS1.out _ | with_reducible exact HS2.out _))))
                    refine wpQuiet_nil ?_
                    rintro w6 ⟨⟨_, K6⟩, rfl⟩
                    have HR9 := Lib.hid (HRl.out.next K6)
                    have HA9 := Lib.hid (HAl.out.next K6)
                    have HF9 := Lib.hid (HFl.out.next K6)
                    have HX9 := Lib.hid (HXl.out.next K6)
                    have HN9 := Lib.hid (show NxTo ps x (k + 1) c from HTK.out (.inl HQX.out))
                    have f0 := (u1 ⟨w6, K6⟩)
                    have f1 := (u2 ⟨w6, K6⟩)
                    simp only at f0 f1
                    obtain ⟨z0, z1⟩ := HX9.out.fr
                    obtain ⟨_, m0, m1⟩ := HX9.out.at
                    replace HR9 := Lib.hid (HR9.out.put HX9.out (.int .i64 c.1) (.int .i64 c.2))
                    replace HA9 := Lib.hid (HA9.out.far HNE2.out (.int .i64 c.1) (.int .i64 c.2))
                    replace HF9 := Lib.hid (HF9.out.far HNE3.out (.int .i64 c.1) (.int .i64 c.2))
                    replace HX9 := Lib.hid (HX9.out.put c)
                    clear u1 u2 u3 u4 u5 u6 K6 HRl HAl HFl HXl HS1 HS2
                    go_wp2
                    go_roundw
                    case rel => exact ⟨k + 1, c, by omega, by congr 1, HN9, HR9, HA9, HF9, HX9⟩
                    case measure => simp [intOf]; omega
                  · have hb := eqF8 hqx
                    have HQX := Lib.hid hqx
                    clear hqx
                    rcases Int.lt_trichotomy d 0 with hd | hd | hd
                    · have HDD := Lib.hid hd
                      have b1 : decide (d < 0) = true := decide_eq_true hd
                      clear hd
                      go_wp2_with fail
                      refine wp_region_kept (by kernel_rfl) (by kernel_rfl) ?_
                      repeat (go_big_quiet_step ((go_at_call 79; (first | with_reducible exact HS1.out _ | with_reducible exact HS2.out _))))
                      refine wpQuiet_nil ?_
                      rintro w6 ⟨⟨_, K6⟩, rfl⟩
                      have HR9 := Lib.hid (HRl.out.next K6)
                      have HA9 := Lib.hid (HAl.out.next K6)
                      have HF9 := Lib.hid (HFl.out.next K6)
                      have HX9 := Lib.hid (HXl.out.next K6)
                      have HN9 := Lib.hid (show NxTo ps x (k + 1) c from HTK.out (.inr (.inl (by rw [HD.out]; exact HDD.out))))
                      have f0 := (u1 ⟨w6, K6⟩)
                      have f1 := (u2 ⟨w6, K6⟩)
                      simp only at f0 f1
                      obtain ⟨z0, z1⟩ := HX9.out.fr
                      obtain ⟨_, m0, m1⟩ := HX9.out.at
                      replace HR9 := Lib.hid (HR9.out.put HX9.out (.int .i64 c.1) (.int .i64 c.2))
                      replace HA9 := Lib.hid (HA9.out.far HNE2.out (.int .i64 c.1) (.int .i64 c.2))
                      replace HF9 := Lib.hid (HF9.out.far HNE3.out (.int .i64 c.1) (.int .i64 c.2))
                      replace HX9 := Lib.hid (HX9.out.put c)
                      clear u1 u2 u3 u4 u5 u6 K6 HRl HAl HFl HXl HS1 HS2
                      go_wp2
                      go_roundw
                      case rel => exact ⟨k + 1, c, by omega, by congr 1, HN9, HR9, HA9, HF9, HX9⟩
                      case measure => simp [intOf]; omega
                    · subst hd
                      by_cases hs : sq2 x q < sq2 x c
                      · have HSS := Lib.hid hs
                        have b2 : decide (sq2 x c > sq2 x q) = true := decide_eq_true hs
                        clear hs
                        go_wp2_with fail
                        refine wp_region_kept (by kernel_rfl) (by kernel_rfl) ?_
                        repeat (go_big_quiet_step ((go_at_call 79; (first | with_reducible exact HS1.out _ | with_reducible exact HS2.out _))))
                        refine wpQuiet_nil ?_
                        rintro w6 ⟨⟨_, K6⟩, rfl⟩
                        have HR9 := Lib.hid (HRl.out.next K6)
                        have HA9 := Lib.hid (HAl.out.next K6)
                        have HF9 := Lib.hid (HFl.out.next K6)
                        have HX9 := Lib.hid (HXl.out.next K6)
                        have HN9 := Lib.hid (show NxTo ps x (k + 1) c from HTK.out (.inr (.inr ⟨HD.out, HSS.out⟩)))
                        have f0 := (u1 ⟨w6, K6⟩)
                        have f1 := (u2 ⟨w6, K6⟩)
                        simp only at f0 f1
                        obtain ⟨z0, z1⟩ := HX9.out.fr
                        obtain ⟨_, m0, m1⟩ := HX9.out.at
                        replace HR9 := Lib.hid (HR9.out.put HX9.out (.int .i64 c.1) (.int .i64 c.2))
                        replace HA9 := Lib.hid (HA9.out.far HNE2.out (.int .i64 c.1) (.int .i64 c.2))
                        replace HF9 := Lib.hid (HF9.out.far HNE3.out (.int .i64 c.1) (.int .i64 c.2))
                        replace HX9 := Lib.hid (HX9.out.put c)
                        clear u1 u2 u3 u4 u5 u6 K6 HRl HAl HFl HXl HS1 HS2
                        go_wp2
                        go_roundw
                        case rel => exact ⟨k + 1, c, by omega, by congr 1, HN9, HR9, HA9, HF9, HX9⟩
                        case measure => simp [intOf]; omega
                      · have HSS := Lib.hid hs
                        have b2 : decide (sq2 x c > sq2 x q) = false := decide_eq_false hs
                        clear hs
                        go_wp2_with fail
                        refine wp_region_kept (by kernel_rfl) (by kernel_rfl) ?_
                        repeat (go_big_quiet_step ((go_at_call 79; (first | with_reducible exact HS1.out _ | with_reducible exact HS2.out _))))
                        refine wpQuiet_nil ?_
                        rintro w6 ⟨⟨_, K6⟩, rfl⟩
                        have HR9 := Lib.hid (HRl.out.next K6)
                        have HA9 := Lib.hid (HAl.out.next K6)
                        have HF9 := Lib.hid (HFl.out.next K6)
                        have HX9 := Lib.hid (HXl.out.next K6)
                        have HN9 := Lib.hid (show NxTo ps x (k + 1) q from HKP.out (by unfold takes; rw [HD.out]; have h1 := HQX.out; have h2 := HSS.out; rintro (k | k | k); exact h1 k; omega; have := k.2; omega))
                        clear u1 u2 u3 u4 u5 u6 K6 HRl HAl HFl HXl HS1 HS2
                        go_wp2
                        go_roundw
                        case rel => exact ⟨k + 1, q, by omega, by congr 1, HN9, HR9, HA9, HF9, HX9⟩
                        case measure => simp [intOf]; omega
                    · have HDD := Lib.hid hd
                      have b1 : decide (d < 0) = false := decide_eq_false (by omega)
                      have b2 : (d == 0) = false := by simp; omega
                      clear hd
                      go_wp2_with fail
                      refine wp_region_kept (by kernel_rfl) (by kernel_rfl) ?_
                      repeat (go_big_quiet_step ((go_at_call 79; (first | with_reducible exact HS1.out _ | with_reducible exact HS2.out _))))
                      refine wpQuiet_nil ?_
                      rintro w6 ⟨⟨_, K6⟩, rfl⟩
                      have HR9 := Lib.hid (HRl.out.next K6)
                      have HA9 := Lib.hid (HAl.out.next K6)
                      have HF9 := Lib.hid (HFl.out.next K6)
                      have HX9 := Lib.hid (HXl.out.next K6)
                      have HN9 := Lib.hid (show NxTo ps x (k + 1) q from HKP.out (by unfold takes; rw [HD.out]; have h1 := HQX.out; have h2 := HDD.out; rintro (k | k | k); exact h1 k; omega; omega))
                      clear u1 u2 u3 u4 u5 u6 K6 HRl HAl HFl HXl HS1 HS2
                      go_wp2
                      go_roundw
                      case rel => exact ⟨k + 1, q, by omega, by congr 1, HN9, HR9, HA9, HF9, HX9⟩
                      case measure => simp [intOf]; omega
              · have hkl : k = len := by omega
                subst k
                replace HN := Lib.hid (show NxTo ps x ps.length q by rw [← HLE.out]; exact HN.out)
                obtain ⟨_, m0, m1⟩ := HXk.out.at
                obtain ⟨_, m2, m3⟩ := HFk.out.at
                obtain ⟨_, m4, m5⟩ := HAk.out.at
                have g2 : ¬ ((vn : Int) + 1 > 16) := by omega
                by_cases hqf : q = f
                · have hb := eqT8 hqf
                  have HQE := Lib.hid (show q = cor (H ++ [x]) 0 ∨ q = x by rw [HC.out.2]; exact .inl hqf)
                  clear hqf
                  have HWE := Lib.hid (hulV_eq (by rw [← HLE.out]; exact h16) HK.out (walk_end HC.out.1 HN.out (by rw [HC.out.2]; exact HLEAST.out) HQE.out))
                  by_cases h3 : vn + 1 < 3
                  · have g3 : ((vn : Int) + 1 < 3) := by omega
                    have HV := Lib.hid (show ([] : List P2) = hulV ps by rw [← HWE.out, if_pos (by rw [← HVN.out]; exact h3)])
                    have HZ := Lib.hid (Ro.empty HRk.out.bel 89 rfl)
                    clear h3
                    go_wp2
                    go_ret
                    rw [← HV.out]; exact HZ.out.row
                  · have g3 : ¬ ((vn : Int) + 1 < 3) := by omega
                    have HV := Lib.hid (show H ++ [x] = hulV ps by rw [← HWE.out, if_neg (by rw [← HVN.out]; exact h3)])
                    have HZ := Lib.hid (show RowP (hulV ps) w (.returned (.slice (some ⟨g7, 0, none⟩) (vn + 1) cap7)) wr by rw [← HV.out]; have r := HRk.out; rw [← hV.out] at r; exact r.row)
                    clear h3
                    go_wp2
                    go_ret
                    exact HZ.out
                · have hb := eqF8 hqf
                  by_cases hqx : q = x
                  · have hb2 := eqT8 hqx
                    have HQE := Lib.hid (show q = cor (H ++ [x]) 0 ∨ q = x from .inr hqx)
                    clear hqf hqx
                    have HWE := Lib.hid (hulV_eq (by rw [← HLE.out]; exact h16) HK.out (walk_end HC.out.1 HN.out (by rw [HC.out.2]; exact HLEAST.out) HQE.out))
                    by_cases h3 : vn + 1 < 3
                    · have g3 : ((vn : Int) + 1 < 3) := by omega
                      have HV := Lib.hid (show ([] : List P2) = hulV ps by rw [← HWE.out, if_pos (by rw [← HVN.out]; exact h3)])
                      have HZ := Lib.hid (Ro.empty HRk.out.bel 89 rfl)
                      clear h3
                      go_wp2
                      go_ret
                      rw [← HV.out]; exact HZ.out.row
                    · have g3 : ¬ ((vn : Int) + 1 < 3) := by omega
                      have HV := Lib.hid (show H ++ [x] = hulV ps by rw [← HWE.out, if_neg (by rw [← HVN.out]; exact h3)])
                      have HZ := Lib.hid (show RowP (hulV ps) w (.returned (.slice (some ⟨g7, 0, none⟩) (vn + 1) cap7)) wr by rw [← HV.out]; have r := HRk.out; rw [← hV.out] at r; exact r.row)
                      clear h3
                      go_wp2
                      go_ret
                      exact HZ.out
                  · have hb2 := eqF8 hqx
                    have HNX := Lib.hid (show Nxt ps x q by rcases HN.out.done with ⟨e, _⟩ | e; exact absurd e hqx; exact e)
                    have HC2 := Lib.hid (show Chain8 ps ((H ++ [x]) ++ [q]) ∧ cor ((H ++ [x]) ++ [q]) 0 = f from ⟨HC.out.1.go HNX.out (by rw [HC.out.2]; exact hqf), by rw [cor_left (by simp)]; exact HC.out.2⟩)
                    obtain ⟨z0, z1⟩ := HAk.out.fr
                    have HR9 := Lib.hid (HRk.out.put HAk.out (.int .i64 q.1) (.int .i64 q.2))
                    have HF9 := Lib.hid (HFk.out.far HNE.out.symm (.int .i64 q.1) (.int .i64 q.2))
                    have HA9 := Lib.hid (HAk.out.put q)
                    rw [← hV.out] at HR9 HF9 HA9
                    clear hqf hqx HRk HFk HAk HXk
                    go_wp2
                    go_roundw
                    case rel => exact ⟨H ++ [x], q, HC2, HR9, HA9, HF9⟩
                    case measure => simp [slLen]; omega
  · have HV := Lib.hid (show ([] : List P2) = hulV ps from (hulV_out fun k => h16 (by rw [HLE.out]; exact k.1)).symm)
    have g1 : (len : Int) > 16 := by omega
    clear hp h16
    go_enter Tryd.func66, Tryd.ntmps66
    go_wp2
    go_ret
    rw [← HV.out]; exact R0.out.row
end Go.Proofs.YtkogoflcacameaaDoor
namespace Go.Proofs.YtkogoflcacameaaDoor
set_option maxRecDepth 100000
open Go.RowKit
attribute [local go_sem ↓] Go.wp_at_zero Go.wp_at_succ
/-- Coordinates below 20000. -/
def SmQ (ps : List P2) : Prop := ∀ p ∈ ps, (-20000 ≤ p.1 ∧ p.1 ≤ 20000) ∧ -20000 ≤ p.2 ∧ p.2 ≤ 20000
theorem SmP.q {ps : List P2} (h : SmP ps) : SmQ ps := fun p hp => by have := h p hp; omega
theorem SmQ.sub {ps qs : List P2} (h : SmQ ps) (hq : ∀ p ∈ qs, p ∈ ps) : SmQ qs := fun p hp => h p (hq p hp)
theorem SmQ.app {ps qs : List P2} (h : SmQ ps) (k : SmQ qs) : SmQ (ps ++ qs) := fun p hp => by
  rcases List.mem_append.1 hp with e | e
  · exact h p e
  · exact k p e
theorem SmQ.cor {ps : List P2} (h : SmQ ps) (i : Nat) : (-20000 ≤ (cor ps i).1 ∧ (cor ps i).1 ≤ 20000) ∧ -20000 ≤ (cor ps i).2 ∧ (cor ps i).2 ≤ 20000 := by
  unfold Go.Proofs.YtkogoflcacameaaDoor.cor
  rw [List.getD_eq_getElem?_getD]
  cases hx : ps[i]? with
  | none => simp
  | some p => exact h p (List.mem_of_getElem? hx)
theorem SmQ.set {ps : List P2} (h : SmQ ps) (k : Nat) {p : P2} (hp : (-20000 ≤ p.1 ∧ p.1 ≤ 20000) ∧ -20000 ≤ p.2 ∧ p.2 ≤ 20000) : SmQ (ps.set k p) := fun q hq => by
  rcases List.mem_or_eq_of_mem_set hq with k | k
  · exact h q k
  · rw [k]; exact hp
/-- The reader, and all that lay in w0 but for it. -/
structure S8 (w0 : World) (B M r : Nat) (u : World) : Prop where
  rd : Rd B M u r
  gr : w0.grownBy u (some r)
theorem S8.alloc {w0 u : World} {B M r : Nat} (h : S8 w0 B M r u) (o : Obj) : S8 w0 B M r (u.alloc o) := ⟨h.rd.alloc o, only_alloc h.gr o⟩
theorem S8.atp {w0 u : World} {B M r V : Nat} {x y : Int} (h : S8 w0 B M r u) (hp : AtP w0 V x y) (hn : V ≠ r) : AtP u V x y := hp.row6 h.gr (fun e => by injection e with e; exact hn e)
theorem S8.pick {w0 u : World} {B M r : Nat} (n : Int) (hn : 1 ≤ n) (h : S8 w0 B M r u) (hM : M ≤ 1000000) :
    Calls Tryd.prog 25 #[.pointer (some ⟨r, 0, none⟩), .int .i64 n] u fun e u' => ∃ x : Int, 0 ≤ x ∧ x < n ∧ e = .returned (.int .i64 x) ∧ S8 w0 B (M + 1) r u' ∧ u.grownBy u' (some r) :=
  (Go.Proofs.YtkogoflcacameaaDoor.pick B M r n u h.rd hM).mono fun _ _ ⟨x, p0, p1, he, hr, hg, _⟩ => ⟨x, p0, p1 hn, he, ⟨hr, h.gr.trans hg⟩, hg⟩
/-- A point with coordinates from lo to hi. -/
def CQ8 (lo hi : Int) (v : Value) : Prop := ∃ x y : Int, v = pt x y ∧ lo ≤ x ∧ x ≤ hi ∧ lo ≤ y ∧ y ≤ hi
theorem CQ8.any {lo hi : Int} {v : Value} (h : CQ8 lo hi v) : ∃ x y : Int, v = pt x y ∧ lo ≤ x ∧ x ≤ hi ∧ lo ≤ y ∧ y ≤ hi := h
/-- A fresh list of three points. -/
def CB8 (w0 u : World) (r : Nat) (v : Value) : Prop := ∃ (b : Nat) (p a c : P2), v = .slice (some ⟨b, 0, none⟩) 3 3 ∧ (SmQ [p, a, c] ∧ w0.heap.size ≤ b ∧ b ≠ r ∧ Cells8 u b #[.int .i64 p.1, .int .i64 p.2, .int .i64 a.1, .int .i64 a.2, .int .i64 c.1, .int .i64 c.2] 89)
theorem CB8.any {w0 u : World} {r : Nat} {v : Value} (h : CB8 w0 u r v) : ∃ (b : Nat) (p a c : P2), v = .slice (some ⟨b, 0, none⟩) 3 3 ∧ (SmQ [p, a, c] ∧ w0.heap.size ≤ b ∧ b ≠ r ∧ Cells8 u b #[.int .i64 p.1, .int .i64 p.2, .int .i64 a.1, .int .i64 a.2, .int .i64 c.1, .int .i64 c.2] 89) := h
theorem CB8.pick {w0 u u' : World} {r : Nat} {v : Value} (h : CB8 w0 u r v) (hg : u.grownBy u' (some r)) : CB8 w0 u' r v := by
  obtain ⟨b, p, a, c, e, h1, h2, h3, h4⟩ := h
  exact ⟨b, p, a, c, e, h1, h2, h3, (hg.block b h4.lt (fun e => by injection e with e; exact h3 e)).trans h4⟩
theorem CB8.alloc {w0 u : World} {r : Nat} {v : Value} (h : CB8 w0 u r v) (o : Obj) : CB8 w0 (u.alloc o) r v := by
  obtain ⟨b, p, a, c, e, h1, h2, h3, h4⟩ := h
  exact ⟨b, p, a, c, e, h1, h2, h3, h4.alloc o⟩
theorem CB8.new {w0 u : World} {B M r : Nat} {p a c : P2} (G : S8 w0 B M r u) (T : TypeId) (hT : T = 89) (hs : SmQ [p, a, c]) :
    CB8 w0 (u.alloc (.cells #[.int .i64 p.1, .int .i64 p.2, .int .i64 a.1, .int .i64 a.2, .int .i64 c.1, .int .i64 c.2] T)) r (.slice (some ⟨u.heap.size, 0, none⟩) 3 3) := by
  subst hT
  exact ⟨u.heap.size, p, a, c, rfl, hs, G.gr.size, (by have := G.rd.lt; omega), Cells8.new _ _ _⟩
theorem CB8.own {w0 u : World} {r : Nat} {v : Value} (h : CB8 w0 u r v) : ∃ ps : List P2, ps.length = 3 ∧ SmQ ps ∧ OwnPt u w0.heap.size v ps := by
  obtain ⟨b, p, a, c, rfl, h1, h2, h3, h4⟩ := h
  exact ⟨[p, a, c], rfl, h1, rfl, .inr ⟨b, 3, _, rfl, h2, h4, Nat.le_refl _, by unfold maxLen; omega, rfl, by simp [pvals, cz, List.range, List.range.loop]⟩⟩
/-- What holds when the operations of 'listed' have come up. -/
inductive RFPol (w0 : World) (B r V : Nat) (x y : Int) (m : Nat) (p1 p2 p3 p4 p7 p8 p9 p10 p37 p38 p39 p40 p41 p42 p43 p44 p45 p46 p47 p48 p49 p50 p51 p52 p53 p54 p55 p56 p57 p58 p59 p60 p61 p62 p63 p64 p65 p66 p67 p68 p69 p70 p71 p72 p73 p74 p75 p76 p77 p78 p79 p80 p81 p82 p83 : Value) (u : World) : Array Bool → Act → Prop
  | mk (l0 l1 l2 l3 l4 l5 l6 l7 l8 l9 l10 l11 l12 l13 l14 l15 l16 l17 l18 l19 l20 l21 l22 l23 l24 l25 l26 : Bool) (v6 v11 v12 v13 v14 v15 v16 v17 v18 v19 v20 v21 v22 v23 v24 v25 v26 v27 v28 v29 v30 v31 v32 v33 v34 v35 v36 : Value) (M : Nat)
    (c0 : l0 = true → v11 = pt x y) (c1 : l1 = true → v12 = .pointer (some ⟨V, 0, none⟩)) (c2 : l2 = true → CI (-10001) (10001) v13) (c3 : l3 = true → CI (-10001) (10002) v14) (c4 : l4 = true → v15 = .pointer (some ⟨r, 0, none⟩)) (c5 : l5 = true → CI 0 19 v16) (c6 : l6 = true → CI (-20000) (20000) v17) (c7 : l7 = true → v18 = .pointer (some ⟨V, 1, none⟩)) (c8 : l8 = true → CI (-10001) (10001) v19) (c9 : l9 = true → v20 = .pointer (some ⟨r, 0, none⟩)) (c10 : l10 = true → CI 0 4 v21) (c11 : l11 = true → CI (-20000) (20000) v22) (c12 : l12 = true → CQ8 (-20000) (20000) v23) (c13 : l13 = true → v24 = .pointer (some ⟨V, 0, none⟩)) (c14 : l14 = true → CI (-10001) (10001) v25) (c15 : l15 = true → v26 = .pointer (some ⟨r, 0, none⟩)) (c16 : l16 = true → CI 0 19 v27) (c17 : l17 = true → CI (-20000) (20000) v28) (c18 : l18 = true → v29 = .pointer (some ⟨V, 1, none⟩)) (c19 : l19 = true → CI (-10001) (10001) v30) (c20 : l20 = true → CI (-10001) (10007) v31) (c21 : l21 = true → v32 = .pointer (some ⟨r, 0, none⟩)) (c22 : l22 = true → CI 0 19 v33) (c23 : l23 = true → CI (-20000) (20000) v34) (c24 : l24 = true → CQ8 (-20000) (20000) v35) (c25 : l25 = true → CB8 w0 u r v36) (c26 : l26 = true → CB8 w0 u r v6)
    (hM : M + ((if l5 then 0 else 1) + (if l10 then 0 else 1) + (if l16 then 0 else 1) + (if l22 then 0 else 1)) ≤ m + 4) (G : S8 w0 B M r u) : RFPol w0 B r V x y m p1 p2 p3 p4 p7 p8 p9 p10 p37 p38 p39 p40 p41 p42 p43 p44 p45 p46 p47 p48 p49 p50 p51 p52 p53 p54 p55 p56 p57 p58 p59 p60 p61 p62 p63 p64 p65 p66 p67 p68 p69 p70 p71 p72 p73 p74 p75 p76 p77 p78 p79 p80 p81 p82 p83 u #[l0, l1, l2, l3, l4, l5, l6, l7, l8, l9, l10, l11, l12, l13, l14, l15, l16, l17, l18, l19, l20, l21, l22, l23, l24, l25, l26] { tmps := #[.pointer (some ⟨r, 0, none⟩), p1, p2, p3, p4, .pointer (some ⟨V, 0, none⟩), v6, p7, p8, p9, p10, v11, v12, v13, v14, v15, v16, v17, v18, v19, v20, v21, v22, v23, v24, v25, v26, v27, v28, v29, v30, v31, v32, v33, v34, v35, v36, p37, p38, p39, p40, p41, p42, p43, p44, p45, p46, p47, p48, p49, p50, p51, p52, p53, p54, p55, p56, p57, p58, p59, p60, p61, p62, p63, p64, p65, p66, p67, p68, p69, p70, p71, p72, p73, p74, p75, p76, p77, p78, p79, p80, p81, p82, p83], defers := [] }
theorem RFPol.size {w0 : World} {B r V : Nat} {x y : Int} {m : Nat} {p1 p2 p3 p4 p7 p8 p9 p10 p37 p38 p39 p40 p41 p42 p43 p44 p45 p46 p47 p48 p49 p50 p51 p52 p53 p54 p55 p56 p57 p58 p59 p60 p61 p62 p63 p64 p65 p66 p67 p68 p69 p70 p71 p72 p73 p74 p75 p76 p77 p78 p79 p80 p81 p82 p83 : Value} {u : World} {listed : Array Bool} {a : Act} (h : RFPol w0 B r V x y m p1 p2 p3 p4 p7 p8 p9 p10 p37 p38 p39 p40 p41 p42 p43 p44 p45 p46 p47 p48 p49 p50 p51 p52 p53 p54 p55 p56 p57 p58 p59 p60 p61 p62 p63 p64 p65 p66 p67 p68 p69 p70 p71 p72 p73 p74 p75 p76 p77 p78 p79 p80 p81 p82 p83 u listed a) : listed.size = 27 := by cases h; rfl
/-- The reader at a chance of one in n, n = 0 too. -/
theorem oddN (B M r : Nat) (n : Int) (w : World) (hr : Rd B M w r) (hM : M ≤ 1000000) (hn : n = 0 ∨ (0 < n ∧ n ≤ 1000000)) :
    Calls Tryd.prog 48 #[.pointer (some ⟨r, 0, none⟩), .int .i64 n] w fun e w' => ∃ b : Bool, e = .returned (.bool b) ∧ Rd B (M + 1) w' r ∧ w.grownBy w' (some r) ∧ w'.heap.size = w.heap.size := by
  rcases hn with rfl | ⟨h0, h1⟩
  · exact (odd0 r w).mono fun _ _ ⟨he, hw⟩ => by subst hw; exact ⟨false, he, hr.mono (by omega), World.grownBy.refl w (some r), rfl⟩
  · exact oddA B M r n w hr hM h0 h1
/-- What a draw of a polygon says. -/
def DrawnQ (B M r N : Nat) (w : World) (e : Ending) (w' : World) : Prop :=
  ∃ (s : Sl) (ps : List P2), e = .returned (.slice s.a s.len s.cap) ∧ s.len = ps.length ∧ ps.length ≤ N ∧ SmQ ps ∧ LSt w B M r w' (.slice s.a s.len s.cap) ps
theorem LSt.drawnQ {w0 u : World} {B M M' r N : Nat} {v : Value} {ps : List P2} (h : LSt w0 B M r u v ps) (hM : M ≤ M') (hn : ps.length ≤ N) (hs : SmQ ps) : DrawnQ B M' r N w0 (.returned v) u := by
  obtain ⟨s, rfl, hl⟩ := h.row.sl
  exact ⟨s, ps, rfl, hl, hn, hs, h.mono hM⟩
theorem LSt.next8 {w0 u u' : World} {B M r : Nat} {v : Value} {ps : List P2} (h : LSt w0 B M r u v ps) (hb : Below u.heap.size u u') : LSt w0 B M r u' v ps := by
  have hg : u.grownBy u' none := ⟨hb.os, hb.tape, hb.output, hb.size, fun k hk _ => hb.block k hk⟩
  exact ⟨h.rd.kept hg (by simp) (fun k hk => by cases hk), only_row h.gr hg (fun k hk => by cases hk), h.row.next hb⟩
theorem LSt.cut8 {w0 u : World} {B M r g n cap m : Nat} {ps : List P2} (h : LSt w0 B M r u (.slice (some ⟨g, 0, none⟩) n cap) ps) (hm : m ≤ ps.length) : LSt w0 B M r u (.slice (some ⟨g, 0, none⟩) m cap) (ps.take m) := ⟨h.rd, h.gr, own_take h.row hm⟩
/-- A list of three to eight points that is being drawn. -/
def PolQ (w0 : World) (B M r : Nat) (v : Value) (u : World) : Prop := ∃ ps : List P2, 3 ≤ ps.length ∧ ps.length ≤ 8 ∧ SmQ ps ∧ LSt w0 B M r u v ps
theorem PolQ.any {w0 u : World} {B M r : Nat} {v : Value} (h : PolQ w0 B M r v u) : ∃ ps : List P2, 3 ≤ ps.length ∧ ps.length ≤ 8 ∧ SmQ ps ∧ LSt w0 B M r u v ps := h
/-- A list of at most sixteen points that is being drawn. -/
def PolR (w0 : World) (B M r : Nat) (v : Value) (u : World) : Prop := ∃ ps : List P2, ps.length ≤ 16 ∧ SmQ ps ∧ LSt w0 B M r u v ps
theorem PolR.drawn {w0 u : World} {B M M' r : Nat} {v : Value} (h : PolR w0 B M r v u) (hM : M ≤ M') : ∃ s : Sl, v = .slice s.a s.len s.cap ∧ DrawnQ B M' r 16 w0 (.returned (.slice s.a s.len s.cap)) u := by
  obtain ⟨ps, hn, hs, S⟩ := h
  obtain ⟨s, rfl, _⟩ := S.row.sl
  exact ⟨s, rfl, S.drawnQ hM hn hs⟩
set_option maxHeartbeats 16000000 in
theorem l20Polygon (B M r : Nat) (n : Int) (w : World) (hr : Rd B M w r) (hM : M ≤ 600000) (hn : n = 0 ∨ (0 < n ∧ n ≤ 1000000)) :
    Calls Tryd.prog 49 #[.pointer (some ⟨r, 0, none⟩), .int .i64 n] w (DrawnQ B (M + 200) r 16 w) := by
  obtain ⟨i0, hi0, hz0, hz1, hz2⟩ := info_parts infoPt6
  have hrlt := hr.lt
  have hrge := hr.ge
  have HBw := Lib.hid (show B ≤ w.heap.size by omega)
  have HNN := Lib.hid hn
  clear hn
  go_enter Tryd.func49, Tryd.ntmps49
  go_wp2_with fail
  refine (l20Point0 B M r w hr (by omega)).mono ?_
  rintro e w1 ⟨x, y, p1, p2, p3, p4, rfl, hr1, hg1⟩
  have HR2 := Lib.hid (hr1.alloc (.cells #[.int .i64 x, .int .i64 y] 89))
  have HG2 := Lib.hid (only_alloc hg1 (.cells #[.int .i64 x, .int .i64 y] 89))
  have HPV := Lib.hid (AtP.box w1 x y 89)
  have nVr : w1.heap.size ≠ r := by have := hr1.lt; omega
  clear hr hr1 hg1
  go_upto_region 2 with fail
  generalize w1.alloc (.cells #[.int .i64 x, .int .i64 y] 89) = w0 at *
  generalize w1.heap.size = V at *
  have HM0 := Lib.hid (show M + 7 + ((if false then 0 else 1) + (if false then 0 else 1) + (if false then 0 else 1) + (if false then 0 else 1)) ≤ M + 7 + 4 by simp)
  have G0 := Lib.hid (show S8 w0 B (M + 7) r w0.drew from ⟨HR2.out.drew, by have hb := below_drew w0; exact ⟨hb.os, hb.tape, hb.output, hb.size, fun k hk _ => hb.block k hk⟩⟩)
  clear HR2
  go_cut [6] (fun v wx => PolQ w B (M + 11) r v wx)
  case first =>
    refine wp_region_inv (fun listed act u => RFPol w0 B r V x y (M + 7) ?p1 ?p2 ?p3 ?p4 ?p7 ?p8 ?p9 ?p10 ?p37 ?p38 ?p39 ?p40 ?p41 ?p42 ?p43 ?p44 ?p45 ?p46 ?p47 ?p48 ?p49 ?p50 ?p51 ?p52 ?p53 ?p54 ?p55 ?p56 ?p57 ?p58 ?p59 ?p60 ?p61 ?p62 ?p63 ?p64 ?p65 ?p66 ?p67 ?p68 ?p69 ?p70 ?p71 ?p72 ?p73 ?p74 ?p75 ?p76 ?p77 ?p78 ?p79 ?p80 ?p81 ?p82 ?p83 u listed act) (by kernel_rfl) ?hlt ?hsz ?h0 ?hstep ?hdone
    case h0 =>
      exact ⟨false, false, false, false, false, false, false, false, false, false, false, false, false, false, false, false, false, false, false, false, false, false, false, false, false, false, false, _, _, _, _, _, _, _, _, _, _, _, _, _, _, _, _, _, _, _, _, _, _, _, _, _, _, _, _, (by intro h; cases h), (by intro h; cases h), (by intro h; cases h), (by intro h; cases h), (by intro h; cases h), (by intro h; cases h), (by intro h; cases h), (by intro h; cases h), (by intro h; cases h), (by intro h; cases h), (by intro h; cases h), (by intro h; cases h), (by intro h; cases h), (by intro h; cases h), (by intro h; cases h), (by intro h; cases h), (by intro h; cases h), (by intro h; cases h), (by intro h; cases h), (by intro h; cases h), (by intro h; cases h), (by intro h; cases h), (by intro h; cases h), (by intro h; cases h), (by intro h; cases h), (by intro h; cases h), (by intro h; cases h), HM0.out, G0.out⟩
    case hstep =>
      intro listed act u i o hR ho hl hd
      obtain ⟨l0, l1, l2, l3, l4, l5, l6, l7, l8, l9, l10, l11, l12, l13, l14, l15, l16, l17, l18, l19, l20, l21, l22, l23, l24, l25, l26, v6, v11, v12, v13, v14, v15, v16, v17, v18, v19, v20, v21, v22, v23, v24, v25, v26, v27, v28, v29, v30, v31, v32, v33, v34, v35, v36, M2, c0, c1, c2, c3, c4, c5, c6, c7, c8, c9, c10, c11, c12, c13, c14, c15, c16, c17, c18, c19, c20, c21, c22, c23, c24, c25, c26, hM, G⟩ := hR
      have hi : i < 27 := by rcases Nat.lt_or_ge i 27 with h | h; exact h; rw [Array.getElem?_eq_none (by simpa using h)] at ho; cases ho
      have hi2 : i = 0 ∨ i = 1 ∨ i = 2 ∨ i = 3 ∨ i = 4 ∨ i = 5 ∨ i = 6 ∨ i = 7 ∨ i = 8 ∨ i = 9 ∨ i = 10 ∨ i = 11 ∨ i = 12 ∨ i = 13 ∨ i = 14 ∨ i = 15 ∨ i = 16 ∨ i = 17 ∨ i = 18 ∨ i = 19 ∨ i = 20 ∨ i = 21 ∨ i = 22 ∨ i = 23 ∨ i = 24 ∨ i = 25 ∨ i = 26 := by omega
      rcases hi2 with rfl | rfl | rfl | rfl | rfl | rfl | rfl | rfl | rfl | rfl | rfl | rfl | rfl | rfl | rfl | rfl | rfl | rfl | rfl | rfl | rfl | rfl | rfl | rfl | rfl | rfl | rfl
      all_goals (cases ho)
      · obtain ⟨_, k0, k1⟩ := G.atp HPV.out nVr
        refine wpOp_step rfl (fun K hK => ?_)
        go_simp
        refine hK _ _ ?_
        exact ⟨true, l1, l2, l3, l4, l5, l6, l7, l8, l9, l10, l11, l12, l13, l14, l15, l16, l17, l18, l19, l20, l21, l22, l23, l24, l25, l26, _, _, _, _, _, _, _, _, _, _, _, _, _, _, _, _, _, _, _, _, _, _, _, _, _, _, _, M2, fun _ => rfl, c1, c2, c3, c4, c5, c6, c7, c8, c9, c10, c11, c12, c13, c14, c15, c16, c17, c18, c19, c20, c21, c22, c23, c24, c25, c26, hM, G⟩
      · skip
        refine wpOp_step rfl (fun K hK => ?_)
        go_simp
        refine hK _ _ ?_
        exact ⟨l0, true, l2, l3, l4, l5, l6, l7, l8, l9, l10, l11, l12, l13, l14, l15, l16, l17, l18, l19, l20, l21, l22, l23, l24, l25, l26, _, _, _, _, _, _, _, _, _, _, _, _, _, _, _, _, _, _, _, _, _, _, _, _, _, _, _, M2, c0, fun _ => rfl, c2, c3, c4, c5, c6, c7, c8, c9, c10, c11, c12, c13, c14, c15, c16, c17, c18, c19, c20, c21, c22, c23, c24, c25, c26, hM, G⟩
      · obtain rfl := c1 (hd { on := 1, ground := Ground.data } (by simp) rfl)
        obtain ⟨_, k0, k1⟩ := G.atp HPV.out nVr
        refine wpOp_step rfl (fun K hK => ?_)
        go_simp
        refine hK _ _ ?_
        exact ⟨l0, l1, true, l3, l4, l5, l6, l7, l8, l9, l10, l11, l12, l13, l14, l15, l16, l17, l18, l19, l20, l21, l22, l23, l24, l25, l26, _, _, _, _, _, _, _, _, _, _, _, _, _, _, _, _, _, _, _, _, _, _, _, _, _, _, _, M2, c0, c1, fun _ => ⟨_, rfl, by omega, by omega⟩, c3, c4, c5, c6, c7, c8, c9, c10, c11, c12, c13, c14, c15, c16, c17, c18, c19, c20, c21, c22, c23, c24, c25, c26, hM, G⟩
      · obtain ⟨z, rfl, h0, h1⟩ := (c2 (hd { on := 2, ground := Ground.data } (by simp) rfl)).any
        have ow : IntKind.i64.wrap (z + 1) = z + 1 := wrap_in (by omega) (by omega)
        refine wpOp_step rfl (fun K hK => ?_)
        go_simp
        refine hK _ _ ?_
        exact ⟨l0, l1, l2, true, l4, l5, l6, l7, l8, l9, l10, l11, l12, l13, l14, l15, l16, l17, l18, l19, l20, l21, l22, l23, l24, l25, l26, _, _, _, _, _, _, _, _, _, _, _, _, _, _, _, _, _, _, _, _, _, _, _, _, _, _, _, M2, c0, c1, c2, fun _ => ⟨_, rfl, by omega, by omega⟩, c4, c5, c6, c7, c8, c9, c10, c11, c12, c13, c14, c15, c16, c17, c18, c19, c20, c21, c22, c23, c24, c25, c26, hM, G⟩
      · skip
        refine wpOp_step rfl (fun K hK => ?_)
        go_simp
        refine hK _ _ ?_
        exact ⟨l0, l1, l2, l3, true, l5, l6, l7, l8, l9, l10, l11, l12, l13, l14, l15, l16, l17, l18, l19, l20, l21, l22, l23, l24, l25, l26, _, _, _, _, _, _, _, _, _, _, _, _, _, _, _, _, _, _, _, _, _, _, _, _, _, _, _, M2, c0, c1, c2, c3, fun _ => rfl, c5, c6, c7, c8, c9, c10, c11, c12, c13, c14, c15, c16, c17, c18, c19, c20, c21, c22, c23, c24, c25, c26, hM, G⟩
      · obtain rfl := c4 (hd { on := 4, ground := Ground.data } (by simp) rfl)
        have e5 : l5 = false := hl
        subst e5
        refine wpOp_step rfl (fun K hK => ?_)
        go_simp
        refine (G.pick 20 (by omega) (by omega)).mono ?_
        rintro e u' ⟨xk, h0, h1, rfl, G', hg⟩
        refine hK _ _ ?_
        exact ⟨l0, l1, l2, l3, l4, true, l6, l7, l8, l9, l10, l11, l12, l13, l14, l15, l16, l17, l18, l19, l20, l21, l22, l23, l24, l25, l26, _, _, _, _, _, _, _, _, _, _, _, _, _, _, _, _, _, _, _, _, _, _, _, _, _, _, _, (M2 + 1), c0, c1, c2, c3, c4, fun _ => ⟨xk, rfl, h0, by omega⟩, c6, c7, c8, c9, c10, c11, c12, c13, c14, c15, c16, c17, c18, c19, c20, c21, c22, c23, c24, fun h => (c25 h).pick hg, fun h => (c26 h).pick hg, by simp only [Bool.false_eq_true, if_false, if_true] at hM ⊢; omega, G'⟩
      · obtain ⟨z, rfl, h0, h1⟩ := (c3 (hd { on := 3, ground := Ground.data } (by simp) rfl)).any
        obtain ⟨z2, rfl, h2, h3⟩ := (c5 (hd { on := 5, ground := Ground.data } (by simp) rfl)).any
        have ow : IntKind.i64.wrap (z + z2) = z + z2 := wrap_in (by omega) (by omega)
        refine wpOp_step rfl (fun K hK => ?_)
        go_simp
        refine hK _ _ ?_
        exact ⟨l0, l1, l2, l3, l4, l5, true, l7, l8, l9, l10, l11, l12, l13, l14, l15, l16, l17, l18, l19, l20, l21, l22, l23, l24, l25, l26, _, _, _, _, _, _, _, _, _, _, _, _, _, _, _, _, _, _, _, _, _, _, _, _, _, _, _, M2, c0, c1, c2, c3, c4, c5, fun _ => ⟨_, rfl, by omega, by omega⟩, c7, c8, c9, c10, c11, c12, c13, c14, c15, c16, c17, c18, c19, c20, c21, c22, c23, c24, c25, c26, hM, G⟩
      · skip
        refine wpOp_step rfl (fun K hK => ?_)
        go_simp
        refine hK _ _ ?_
        exact ⟨l0, l1, l2, l3, l4, l5, l6, true, l8, l9, l10, l11, l12, l13, l14, l15, l16, l17, l18, l19, l20, l21, l22, l23, l24, l25, l26, _, _, _, _, _, _, _, _, _, _, _, _, _, _, _, _, _, _, _, _, _, _, _, _, _, _, _, M2, c0, c1, c2, c3, c4, c5, c6, fun _ => rfl, c8, c9, c10, c11, c12, c13, c14, c15, c16, c17, c18, c19, c20, c21, c22, c23, c24, c25, c26, hM, G⟩
      · obtain rfl := c7 (hd { on := 7, ground := Ground.data } (by simp) rfl)
        obtain ⟨_, k0, k1⟩ := G.atp HPV.out nVr
        refine wpOp_step rfl (fun K hK => ?_)
        go_simp
        refine hK _ _ ?_
        exact ⟨l0, l1, l2, l3, l4, l5, l6, l7, true, l9, l10, l11, l12, l13, l14, l15, l16, l17, l18, l19, l20, l21, l22, l23, l24, l25, l26, _, _, _, _, _, _, _, _, _, _, _, _, _, _, _, _, _, _, _, _, _, _, _, _, _, _, _, M2, c0, c1, c2, c3, c4, c5, c6, c7, fun _ => ⟨_, rfl, by omega, by omega⟩, c9, c10, c11, c12, c13, c14, c15, c16, c17, c18, c19, c20, c21, c22, c23, c24, c25, c26, hM, G⟩
      · skip
        refine wpOp_step rfl (fun K hK => ?_)
        go_simp
        refine hK _ _ ?_
        exact ⟨l0, l1, l2, l3, l4, l5, l6, l7, l8, true, l10, l11, l12, l13, l14, l15, l16, l17, l18, l19, l20, l21, l22, l23, l24, l25, l26, _, _, _, _, _, _, _, _, _, _, _, _, _, _, _, _, _, _, _, _, _, _, _, _, _, _, _, M2, c0, c1, c2, c3, c4, c5, c6, c7, c8, fun _ => rfl, c10, c11, c12, c13, c14, c15, c16, c17, c18, c19, c20, c21, c22, c23, c24, c25, c26, hM, G⟩
      · obtain rfl := c9 (hd { on := 9, ground := Ground.data } (by simp) rfl)
        have e10 : l10 = false := hl
        subst e10
        refine wpOp_step rfl (fun K hK => ?_)
        go_simp
        refine (G.pick 5 (by omega) (by omega)).mono ?_
        rintro e u' ⟨xk, h0, h1, rfl, G', hg⟩
        refine hK _ _ ?_
        exact ⟨l0, l1, l2, l3, l4, l5, l6, l7, l8, l9, true, l11, l12, l13, l14, l15, l16, l17, l18, l19, l20, l21, l22, l23, l24, l25, l26, _, _, _, _, _, _, _, _, _, _, _, _, _, _, _, _, _, _, _, _, _, _, _, _, _, _, _, (M2 + 1), c0, c1, c2, c3, c4, c5, c6, c7, c8, c9, fun _ => ⟨xk, rfl, h0, by omega⟩, c11, c12, c13, c14, c15, c16, c17, c18, c19, c20, c21, c22, c23, c24, fun h => (c25 h).pick hg, fun h => (c26 h).pick hg, by simp only [Bool.false_eq_true, if_false, if_true] at hM ⊢; omega, G'⟩
      · obtain ⟨z, rfl, h0, h1⟩ := (c8 (hd { on := 8, ground := Ground.data } (by simp) rfl)).any
        obtain ⟨z2, rfl, h2, h3⟩ := (c10 (hd { on := 10, ground := Ground.data } (by simp) rfl)).any
        have ow : IntKind.i64.wrap (z + z2) = z + z2 := wrap_in (by omega) (by omega)
        refine wpOp_step rfl (fun K hK => ?_)
        go_simp
        refine hK _ _ ?_
        exact ⟨l0, l1, l2, l3, l4, l5, l6, l7, l8, l9, l10, true, l12, l13, l14, l15, l16, l17, l18, l19, l20, l21, l22, l23, l24, l25, l26, _, _, _, _, _, _, _, _, _, _, _, _, _, _, _, _, _, _, _, _, _, _, _, _, _, _, _, M2, c0, c1, c2, c3, c4, c5, c6, c7, c8, c9, c10, fun _ => ⟨_, rfl, by omega, by omega⟩, c12, c13, c14, c15, c16, c17, c18, c19, c20, c21, c22, c23, c24, c25, c26, hM, G⟩
      · obtain ⟨z, rfl, h0, h1⟩ := (c6 (hd { on := 6, ground := Ground.data } (by simp) rfl)).any
        obtain ⟨z2, rfl, h2, h3⟩ := (c11 (hd { on := 11, ground := Ground.data } (by simp) rfl)).any
        refine wpOp_step rfl (fun K hK => ?_)
        go_simp
        refine hK _ _ ?_
        exact ⟨l0, l1, l2, l3, l4, l5, l6, l7, l8, l9, l10, l11, true, l13, l14, l15, l16, l17, l18, l19, l20, l21, l22, l23, l24, l25, l26, _, _, _, _, _, _, _, _, _, _, _, _, _, _, _, _, _, _, _, _, _, _, _, _, _, _, _, M2, c0, c1, c2, c3, c4, c5, c6, c7, c8, c9, c10, c11, fun _ => ⟨z, z2, rfl, by omega, by omega, by omega, by omega⟩, c13, c14, c15, c16, c17, c18, c19, c20, c21, c22, c23, c24, c25, c26, hM, G⟩
      · skip
        refine wpOp_step rfl (fun K hK => ?_)
        go_simp
        refine hK _ _ ?_
        exact ⟨l0, l1, l2, l3, l4, l5, l6, l7, l8, l9, l10, l11, l12, true, l14, l15, l16, l17, l18, l19, l20, l21, l22, l23, l24, l25, l26, _, _, _, _, _, _, _, _, _, _, _, _, _, _, _, _, _, _, _, _, _, _, _, _, _, _, _, M2, c0, c1, c2, c3, c4, c5, c6, c7, c8, c9, c10, c11, c12, fun _ => rfl, c14, c15, c16, c17, c18, c19, c20, c21, c22, c23, c24, c25, c26, hM, G⟩
      · obtain rfl := c13 (hd { on := 13, ground := Ground.data } (by simp) rfl)
        obtain ⟨_, k0, k1⟩ := G.atp HPV.out nVr
        refine wpOp_step rfl (fun K hK => ?_)
        go_simp
        refine hK _ _ ?_
        exact ⟨l0, l1, l2, l3, l4, l5, l6, l7, l8, l9, l10, l11, l12, l13, true, l15, l16, l17, l18, l19, l20, l21, l22, l23, l24, l25, l26, _, _, _, _, _, _, _, _, _, _, _, _, _, _, _, _, _, _, _, _, _, _, _, _, _, _, _, M2, c0, c1, c2, c3, c4, c5, c6, c7, c8, c9, c10, c11, c12, c13, fun _ => ⟨_, rfl, by omega, by omega⟩, c15, c16, c17, c18, c19, c20, c21, c22, c23, c24, c25, c26, hM, G⟩
      · skip
        refine wpOp_step rfl (fun K hK => ?_)
        go_simp
        refine hK _ _ ?_
        exact ⟨l0, l1, l2, l3, l4, l5, l6, l7, l8, l9, l10, l11, l12, l13, l14, true, l16, l17, l18, l19, l20, l21, l22, l23, l24, l25, l26, _, _, _, _, _, _, _, _, _, _, _, _, _, _, _, _, _, _, _, _, _, _, _, _, _, _, _, M2, c0, c1, c2, c3, c4, c5, c6, c7, c8, c9, c10, c11, c12, c13, c14, fun _ => rfl, c16, c17, c18, c19, c20, c21, c22, c23, c24, c25, c26, hM, G⟩
      · obtain rfl := c15 (hd { on := 15, ground := Ground.data } (by simp) rfl)
        have e16 : l16 = false := hl
        subst e16
        refine wpOp_step rfl (fun K hK => ?_)
        go_simp
        refine (G.pick 20 (by omega) (by omega)).mono ?_
        rintro e u' ⟨xk, h0, h1, rfl, G', hg⟩
        refine hK _ _ ?_
        exact ⟨l0, l1, l2, l3, l4, l5, l6, l7, l8, l9, l10, l11, l12, l13, l14, l15, true, l17, l18, l19, l20, l21, l22, l23, l24, l25, l26, _, _, _, _, _, _, _, _, _, _, _, _, _, _, _, _, _, _, _, _, _, _, _, _, _, _, _, (M2 + 1), c0, c1, c2, c3, c4, c5, c6, c7, c8, c9, c10, c11, c12, c13, c14, c15, fun _ => ⟨xk, rfl, h0, by omega⟩, c17, c18, c19, c20, c21, c22, c23, c24, fun h => (c25 h).pick hg, fun h => (c26 h).pick hg, by simp only [Bool.false_eq_true, if_false, if_true] at hM ⊢; omega, G'⟩
      · obtain ⟨z, rfl, h0, h1⟩ := (c14 (hd { on := 14, ground := Ground.data } (by simp) rfl)).any
        obtain ⟨z2, rfl, h2, h3⟩ := (c16 (hd { on := 16, ground := Ground.data } (by simp) rfl)).any
        have ow : IntKind.i64.wrap (z + z2) = z + z2 := wrap_in (by omega) (by omega)
        refine wpOp_step rfl (fun K hK => ?_)
        go_simp
        refine hK _ _ ?_
        exact ⟨l0, l1, l2, l3, l4, l5, l6, l7, l8, l9, l10, l11, l12, l13, l14, l15, l16, true, l18, l19, l20, l21, l22, l23, l24, l25, l26, _, _, _, _, _, _, _, _, _, _, _, _, _, _, _, _, _, _, _, _, _, _, _, _, _, _, _, M2, c0, c1, c2, c3, c4, c5, c6, c7, c8, c9, c10, c11, c12, c13, c14, c15, c16, fun _ => ⟨_, rfl, by omega, by omega⟩, c18, c19, c20, c21, c22, c23, c24, c25, c26, hM, G⟩
      · skip
        refine wpOp_step rfl (fun K hK => ?_)
        go_simp
        refine hK _ _ ?_
        exact ⟨l0, l1, l2, l3, l4, l5, l6, l7, l8, l9, l10, l11, l12, l13, l14, l15, l16, l17, true, l19, l20, l21, l22, l23, l24, l25, l26, _, _, _, _, _, _, _, _, _, _, _, _, _, _, _, _, _, _, _, _, _, _, _, _, _, _, _, M2, c0, c1, c2, c3, c4, c5, c6, c7, c8, c9, c10, c11, c12, c13, c14, c15, c16, c17, fun _ => rfl, c19, c20, c21, c22, c23, c24, c25, c26, hM, G⟩
      · obtain rfl := c18 (hd { on := 18, ground := Ground.data } (by simp) rfl)
        obtain ⟨_, k0, k1⟩ := G.atp HPV.out nVr
        refine wpOp_step rfl (fun K hK => ?_)
        go_simp
        refine hK _ _ ?_
        exact ⟨l0, l1, l2, l3, l4, l5, l6, l7, l8, l9, l10, l11, l12, l13, l14, l15, l16, l17, l18, true, l20, l21, l22, l23, l24, l25, l26, _, _, _, _, _, _, _, _, _, _, _, _, _, _, _, _, _, _, _, _, _, _, _, _, _, _, _, M2, c0, c1, c2, c3, c4, c5, c6, c7, c8, c9, c10, c11, c12, c13, c14, c15, c16, c17, c18, fun _ => ⟨_, rfl, by omega, by omega⟩, c20, c21, c22, c23, c24, c25, c26, hM, G⟩
      · obtain ⟨z, rfl, h0, h1⟩ := (c19 (hd { on := 19, ground := Ground.data } (by simp) rfl)).any
        have ow : IntKind.i64.wrap (z + 6) = z + 6 := wrap_in (by omega) (by omega)
        refine wpOp_step rfl (fun K hK => ?_)
        go_simp
        refine hK _ _ ?_
        exact ⟨l0, l1, l2, l3, l4, l5, l6, l7, l8, l9, l10, l11, l12, l13, l14, l15, l16, l17, l18, l19, true, l21, l22, l23, l24, l25, l26, _, _, _, _, _, _, _, _, _, _, _, _, _, _, _, _, _, _, _, _, _, _, _, _, _, _, _, M2, c0, c1, c2, c3, c4, c5, c6, c7, c8, c9, c10, c11, c12, c13, c14, c15, c16, c17, c18, c19, fun _ => ⟨_, rfl, by omega, by omega⟩, c21, c22, c23, c24, c25, c26, hM, G⟩
      · skip
        refine wpOp_step rfl (fun K hK => ?_)
        go_simp
        refine hK _ _ ?_
        exact ⟨l0, l1, l2, l3, l4, l5, l6, l7, l8, l9, l10, l11, l12, l13, l14, l15, l16, l17, l18, l19, l20, true, l22, l23, l24, l25, l26, _, _, _, _, _, _, _, _, _, _, _, _, _, _, _, _, _, _, _, _, _, _, _, _, _, _, _, M2, c0, c1, c2, c3, c4, c5, c6, c7, c8, c9, c10, c11, c12, c13, c14, c15, c16, c17, c18, c19, c20, fun _ => rfl, c22, c23, c24, c25, c26, hM, G⟩
      · obtain rfl := c21 (hd { on := 21, ground := Ground.data } (by simp) rfl)
        have e22 : l22 = false := hl
        subst e22
        refine wpOp_step rfl (fun K hK => ?_)
        go_simp
        refine (G.pick 20 (by omega) (by omega)).mono ?_
        rintro e u' ⟨xk, h0, h1, rfl, G', hg⟩
        refine hK _ _ ?_
        exact ⟨l0, l1, l2, l3, l4, l5, l6, l7, l8, l9, l10, l11, l12, l13, l14, l15, l16, l17, l18, l19, l20, l21, true, l23, l24, l25, l26, _, _, _, _, _, _, _, _, _, _, _, _, _, _, _, _, _, _, _, _, _, _, _, _, _, _, _, (M2 + 1), c0, c1, c2, c3, c4, c5, c6, c7, c8, c9, c10, c11, c12, c13, c14, c15, c16, c17, c18, c19, c20, c21, fun _ => ⟨xk, rfl, h0, by omega⟩, c23, c24, fun h => (c25 h).pick hg, fun h => (c26 h).pick hg, by simp only [Bool.false_eq_true, if_false, if_true] at hM ⊢; omega, G'⟩
      · obtain ⟨z, rfl, h0, h1⟩ := (c20 (hd { on := 20, ground := Ground.data } (by simp) rfl)).any
        obtain ⟨z2, rfl, h2, h3⟩ := (c22 (hd { on := 22, ground := Ground.data } (by simp) rfl)).any
        have ow : IntKind.i64.wrap (z + z2) = z + z2 := wrap_in (by omega) (by omega)
        refine wpOp_step rfl (fun K hK => ?_)
        go_simp
        refine hK _ _ ?_
        exact ⟨l0, l1, l2, l3, l4, l5, l6, l7, l8, l9, l10, l11, l12, l13, l14, l15, l16, l17, l18, l19, l20, l21, l22, true, l24, l25, l26, _, _, _, _, _, _, _, _, _, _, _, _, _, _, _, _, _, _, _, _, _, _, _, _, _, _, _, M2, c0, c1, c2, c3, c4, c5, c6, c7, c8, c9, c10, c11, c12, c13, c14, c15, c16, c17, c18, c19, c20, c21, c22, fun _ => ⟨_, rfl, by omega, by omega⟩, c24, c25, c26, hM, G⟩
      · obtain ⟨z, rfl, h0, h1⟩ := (c17 (hd { on := 17, ground := Ground.data } (by simp) rfl)).any
        obtain ⟨z2, rfl, h2, h3⟩ := (c23 (hd { on := 23, ground := Ground.data } (by simp) rfl)).any
        refine wpOp_step rfl (fun K hK => ?_)
        go_simp
        refine hK _ _ ?_
        exact ⟨l0, l1, l2, l3, l4, l5, l6, l7, l8, l9, l10, l11, l12, l13, l14, l15, l16, l17, l18, l19, l20, l21, l22, l23, true, l25, l26, _, _, _, _, _, _, _, _, _, _, _, _, _, _, _, _, _, _, _, _, _, _, _, _, _, _, _, M2, c0, c1, c2, c3, c4, c5, c6, c7, c8, c9, c10, c11, c12, c13, c14, c15, c16, c17, c18, c19, c20, c21, c22, c23, fun _ => ⟨z, z2, rfl, by omega, by omega, by omega, by omega⟩, c25, c26, hM, G⟩
      · obtain rfl := c0 (hd { on := 0, ground := Ground.data } (by simp) rfl)
        obtain ⟨z1, z2, rfl, h0, h1, h2, h3⟩ := (c12 (hd { on := 12, ground := Ground.data } (by simp) rfl)).any
        obtain ⟨z3, z4, rfl, h4, h5, h6, h7⟩ := (c24 (hd { on := 24, ground := Ground.data } (by simp) rfl)).any
        have HBK := Lib.hid (CB8.new G (p := (x, y)) (a := (z1, z2)) (c := (z3, z4)) 89 rfl (by intro q hq; simp at hq; rcases hq with rfl | rfl | rfl <;> simp <;> omega))
        refine wpOp_step rfl (fun K hK => ?_)
        go_simp
        refine hK _ _ ?_
        exact ⟨l0, l1, l2, l3, l4, l5, l6, l7, l8, l9, l10, l11, l12, l13, l14, l15, l16, l17, l18, l19, l20, l21, l22, l23, l24, true, l26, _, _, _, _, _, _, _, _, _, _, _, _, _, _, _, _, _, _, _, _, _, _, _, _, _, _, _, M2, c0, c1, c2, c3, c4, c5, c6, c7, c8, c9, c10, c11, c12, c13, c14, c15, c16, c17, c18, c19, c20, c21, c22, c23, c24, fun _ => HBK.out, fun h => (c26 h).alloc _, hM, (G.alloc _)⟩
      · obtain ⟨b, q1, q2, q3, rfl, HBK⟩ := (c25 (hd { on := 25, ground := Ground.data } (by simp) rfl)).any
        refine wpOp_step rfl (fun K hK => ?_)
        go_simp
        refine hK _ _ ?_
        exact ⟨l0, l1, l2, l3, l4, l5, l6, l7, l8, l9, l10, l11, l12, l13, l14, l15, l16, l17, l18, l19, l20, l21, l22, l23, l24, l25, true, _, _, _, _, _, _, _, _, _, _, _, _, _, _, _, _, _, _, _, _, _, _, _, _, _, _, _, M2, c0, c1, c2, c3, c4, c5, c6, c7, c8, c9, c10, c11, c12, c13, c14, c15, c16, c17, c18, c19, c20, c21, c22, c23, c24, c25, fun _ => ⟨b, q1, q2, q3, rfl, HBK⟩, hM, G⟩
    case hlt => exact backB_spec (by kernel_rfl)
    case hsz => exact fun listed a u h => h.size
    case hdone =>
      intro listed act u hR hall
      obtain ⟨l0, l1, l2, l3, l4, l5, l6, l7, l8, l9, l10, l11, l12, l13, l14, l15, l16, l17, l18, l19, l20, l21, l22, l23, l24, l25, l26, v6, v11, v12, v13, v14, v15, v16, v17, v18, v19, v20, v21, v22, v23, v24, v25, v26, v27, v28, v29, v30, v31, v32, v33, v34, v35, v36, M2, c0, c1, c2, c3, c4, c5, c6, c7, c8, c9, c10, c11, c12, c13, c14, c15, c16, c17, c18, c19, c20, c21, c22, c23, c24, c25, c26, hM, G⟩ := hR
      obtain ⟨b, q1, q2, q3, rfl, HBK⟩ := (c26 (hall 26 (by decide))).any
      have hM3 : M2 ≤ M + 11 := by omega
      obtain ⟨ps, hps, hsq, O⟩ := CB8.own (w0 := w0) (u := u) (r := r) (v := .slice (some ⟨b, 0, none⟩) 3 3) ⟨b, q1, q2, q3, rfl, HBK⟩
      have S1 := Lib.hid (show PolQ w B (M + 11) r (.slice (some ⟨b, 0, none⟩) 3 3) u from ⟨ps, by omega, by omega, hsq, ⟨G.rd.mono hM3, HG2.out.trans G.gr, O.down6 HG2.out.size⟩⟩)
      clear c0 c1 c2 c3 c4 c5 c6 c7 c8 c9 c10 c11 c12 c13 c14 c15 c16 c17 c18 c19 c20 c21 c22 c23 c24 c25 c26 hall G hM HBK O hsq hps HPV HG2 HM0 G0 hM3
      dsimp only
      go_wp2_with fail
      go_meet
      exact S1.out
  case rest =>
    clear HG2 HPV HM0 G0 nVr
    replace hcut := Lib.hid hcut
    obtain ⟨ps, hp3, hp8, hsq, S1⟩ := hcut.out.any
    clear hcut
    replace S1 := Lib.hid S1
    have HSQ := Lib.hid hsq
    clear hsq
    go_wp2_with fail
    refine (pick B _ r 2 _ S1.out.rd (by omega)).mono ?_
    rintro e w2 ⟨z, z0, z1, rfl, hr2, hg2, hs2⟩
    have S2 := Lib.hid (S1.out.pick hr2 hg2 hrlt)
    clear hr2 hg2 hs2 S1 z1
    go_upto_if 39 with fail
    go_cut [6] (fun v wx => PolQ w B (M + 112) r v wx)
    case first =>
      by_cases hz : z = 0
      · subst hz
        go_wp2_with fail
        refine (l20Cloud B _ r 0 _ S2.out.rd (by omega) (.inl rfl)).mono ?_
        rintro e w3 ⟨s, cs, rfl, HPc, hcn, hcs, hr3, hg3, _⟩
        have S3 := Lib.hid (S2.out.pick hr3 hg3 hrlt)
        have HSH := Lib.hid (show SmQ (hulV cs) from (hcs.sub hulV_sub).q)
        have HH := Lib.hid (specHullOf s.a s.len s.cap cs w3 HPc (by have := HPc.1; omega))
        clear S2 HPc hcn hcs hr3 hg3
        go_wp2_with fail
        refine HH.out.mono ?_
        rintro e w4 ⟨⟨ha, hn, hc⟩, rfl, hhl, OH, BH⟩
        have S4 := Lib.hid ((S3.out.next8 BH).mono (show M + 11 + 1 + 100 ≤ M + 112 by omega))
        have SH := Lib.hid (show LSt w B (M + 112) r w4 (.slice ha hn hc) (hulV cs) from ⟨S4.out.rd, S4.out.gr, OwnPt.down6 OH S3.out.gr.size⟩)
        have HHL := Lib.hid (show hn = (hulV cs).length from hhl)
        clear hhl OH BH S3 HH
        by_cases hb1 : 2 < hn
        · have b1 : ¬ ((hn : Int) ≤ 2) := by omega
          have b1' : decide ((hn : Int) > 2) = true := decide_eq_true (by omega)
          by_cases hb2 : hn ≤ 8
          · have b2 : decide ((hn : Int) ≤ 8) = true := decide_eq_true (by omega)
            have HF := Lib.hid (show PolQ w B (M + 112) r (.slice ha hn hc) w4 from ⟨hulV cs, by have := HHL.out; omega, by have := HHL.out; omega, HSH.out, SH.out⟩)
            clear HHL SH HSH S4 HSQ hp3 hp8
            go_wp2
            go_meet
            exact HF.out
          · have b2 : decide ((hn : Int) ≤ 8) = false := decide_eq_false (by omega)
            have HF := Lib.hid (show PolQ w B (M + 112) r _ w4 from ⟨ps, hp3, hp8, HSQ.out, S4.out⟩)
            clear HHL SH HSH S4 HSQ hp3 hp8
            go_wp2
            go_meet
            exact HF.out
        · have b1 : (hn : Int) ≤ 2 := by omega
          have b1' : decide ((hn : Int) > 2) = false := decide_eq_false (by omega)
          have HF := Lib.hid (show PolQ w B (M + 112) r _ w4 from ⟨ps, hp3, hp8, HSQ.out, S4.out⟩)
          clear HHL SH HSH S4 HSQ hp3 hp8
          go_wp2
          go_meet
          exact HF.out
      · have hz' : (z == 0) = false := by simpa using hz
        have HF := Lib.hid (show PolQ w B (M + 112) r _ w2 from ⟨ps, hp3, hp8, HSQ.out, S2.out.mono (show M + 11 + 1 ≤ M + 112 by omega)⟩)
        clear S2 HSQ hp3 hp8
        go_wp2
        go_meet
        exact HF.out
    case rest =>
      clear S2 HSQ hp3 hp8
      replace hcut := Lib.hid hcut
      obtain ⟨ps, hp3, hp8, hsq, S4⟩ := hcut.out.any
      clear hcut
      replace S4 := Lib.hid S4
      have HSQ := Lib.hid hsq
      clear hsq z0
      go_wp2_with fail
      refine (oddN B _ r n _ S4.out.rd (by omega) HNN.out).mono ?_
      rintro e w5 ⟨b2, rfl, hr5, hg5, hs5⟩
      have S5 := Lib.hid (S4.out.pick hr5 hg5 hrlt)
      clear hr5 hg5 hs5 S4
      go_upto_if 54 with fail
      go_cut [6] (fun v wx => PolR w B (M + 150) r v wx)
      case first =>
        cases b2
        · have HF := Lib.hid (show PolR w B (M + 150) r _ w5 from ⟨ps, by omega, HSQ.out, S5.out.mono (by omega)⟩)
          clear S5 HSQ hp3 hp8
          go_wp2
          go_meet
          exact HF.out
        · go_wp2_with fail
          refine (pick B _ r 4 _ S5.out.rd (by omega)).mono ?_
          rintro e w6 ⟨z, z0, z1, rfl, hr6, hg6, hs6⟩
          have z2 := z1 (by omega)
          have S6 := Lib.hid (S5.out.pick hr6 hg6 hrlt)
          clear hr6 hg6 hs6 S5 z1
          obtain ⟨g, cap, rfl, hg1, hg2⟩ := S6.out.row.at7 (by omega)
          have hz : z = 0 ∨ z = 1 ∨ z = 2 ∨ z = 3 := by omega
          clear z0 z2
          have hgl : g < w6.heap.size := (World.ownsRow.lt S6.out.row g rfl).2
          rcases hz with rfl | rfl | rfl | rfl
          · have c2 : (2 : Int) ≤ (cap : Int) := by omega
            have HF := Lib.hid (show PolR w B (M + 150) r _ w6 from ⟨_, by simp; omega, HSQ.out.sub fun p hp => List.mem_of_mem_take hp, (S6.out.cut8 (m := 2) (by omega)).mono (by omega)⟩)
            clear S6 HSQ
            go_wp2
            go_meet
            exact HF.out
          · have d0 := World.ownsRow.cellAt S6.out.row 0 (by omega)
            have d1 := World.ownsRow.frozenAt S6.out.row 0
            have d2 := World.ownsRow.cellAt S6.out.row 1 (by omega)
            have d3 := World.ownsRow.frozenAt S6.out.row 1
            have d4 := World.ownsRow.cellAt S6.out.row 2 (by omega)
            have d5 := World.ownsRow.frozenAt S6.out.row 2
            have d6 := World.ownsRow.cellAt S6.out.row 3 (by omega)
            have d7 := World.ownsRow.frozenAt S6.out.row 3
            rw [pvals_at _ _ (by omega)] at d0 d2 d4 d6
            obtain ⟨x0, hx0⟩ : ∃ x, cz ps 0 = x := ⟨_, rfl⟩
            obtain ⟨y0, hy0⟩ : ∃ x, cz ps 1 = x := ⟨_, rfl⟩
            obtain ⟨x1, hx1⟩ : ∃ x, cz ps 2 = x := ⟨_, rfl⟩
            obtain ⟨y1, hy1⟩ : ∃ x, cz ps 3 = x := ⟨_, rfl⟩
            rw [hx0] at d0
            rw [hy0] at d2
            rw [hx1] at d4
            rw [hy1] at d6
            have HC0 := HSQ.out.cor 0
            have HC1 := HSQ.out.cor 1
            have e0 : (cor ps 0).1 = x0 := hx0
            have e1 : (cor ps 0).2 = y0 := hy0
            have e2 : (cor ps 1).1 = x1 := hx1
            have e3 : (cor ps 1).2 = y1 := hy1
            have HSQ2 := Lib.hid (show SmQ ((ps.set 0 (x1, y1)).set 1 (x0, y0)) from (HSQ.out.set 0 (p := (x1, y1)) (by rw [e2, e3] at HC1; exact HC1)).set 1 (p := (x0, y0)) (by rw [e0, e1] at HC0; exact HC0))
            have S7 := Lib.hid ((((S6.out.put (k := 0) hrlt HBw.out (by omega) x1 y1).put (k := 1) hrlt HBw.out (by rw [List.length_set]; omega) x0 y0).alloc (.cells #[.int .i64 x0, .int .i64 y0] 89)))
            have HF := Lib.hid (show PolR w B (M + 150) r _ _ from ⟨_, by simp; omega, HSQ2.out, S7.out.mono (by omega)⟩)
            have hgn : g ≠ w6.heap.size := by omega
            have n0 : 0 < ps.length := by omega
            have n1 : 1 < ps.length := by omega
            have n2 : (1 : Int) < (ps.length : Int) := by omega
            clear S6 HSQ hx0 hy0 hx1 hy1 HC0 HC1 e0 e1 e2 e3 S7 HSQ2
            go_wp2
            go_meet
            exact HF.out
          · have HNW := Lib.hid ((OwnPt.ints S6.out.row).pl.news (by omega))
            have HW := Lib.hid S6.out.gr.size
            have HPA := Lib.hid (pvals_app8 ps ps)
            go_wp2_with (at_builtin; refine wpList_append_lies _ rfl (.tmp 80) (.tmp 81) 72 rfl w.heap.size 89 i0 (pt 0 0) 2 16 Tryd.underlying72 hi0 hz0 hz1 hz2 rfl (by decide) _ ps.length (pvals ps) rfl S6.out.row ⟨g, 0, none⟩ ps.length cap (pvals ps) rfl (by rw [pvals_len]) HNW.out (pvals_one8 ps) (by omega) (by unfold maxLen; omega) (by omega) HW.out _ rfl ?_; intro g7 cap7 w7 own7 grow7 at7 ltg7; have HA7 := Lib.hid (And.intro own7 grow7); clear own7 grow7 at7 ltg7)
            have S7 := Lib.hid (S6.out.app (v' := .slice (some ⟨g7, 0, none⟩) (ps.length + ps.length) cap7) (ps' := ps ++ ps) hrlt HBw.out (by have o := HA7.out.1; rw [← HPA.out] at o; unfold OwnPt; rw [List.length_append]; exact o) HA7.out.2)
            clear HA7 S6
            go_meet
            exact ⟨_, by simp; omega, HSQ.out.app HSQ.out, S7.out.mono (by omega)⟩
          · go_wp2_with fail
            refine (l20Point B _ r 1 _ S6.out.rd (by omega) (by omega) (by omega)).mono ?_
            rintro e w8 ⟨x9, y9, t1, t2, t3, t4, rfl, hr8, hg8⟩
            have S7 := S6.out.pick hr8 hg8 hrlt
            have HF := Lib.hid (show PolR w B (M + 150) r _ _ from ⟨_, by rw [List.length_set]; omega, HSQ.out.set 0 (p := (x9, y9)) ⟨by simp; omega, by simp; omega⟩, (S7.put (k := 0) hrlt HBw.out (by omega) x9 y9).mono (by omega)⟩)
            have d0 := World.ownsRow.cellAt S7.row 0 (by omega)
            have d1 := World.ownsRow.frozenAt S7.row 0
            have d2 := World.ownsRow.cellAt S7.row 1 (by omega)
            have d3 := World.ownsRow.frozenAt S7.row 1
            rw [pvals_at _ _ (by omega)] at d0 d2
            have n0 : 0 < ps.length := by omega
            clear hr8 hg8 S7 S6 HSQ t1 t2 t3 t4
            go_wp2
            go_meet
            exact HF.out
      case rest =>
        clear S5 HSQ hp3 hp8
        replace hcut := Lib.hid hcut
        obtain ⟨s, rfl, HF⟩ := hcut.out.drawn (show M + 150 ≤ M + 200 by omega)
        clear hcut
        replace HF := Lib.hid HF
        go_wp2
        go_ret
        exact HF.out
end Go.Proofs.YtkogoflcacameaaDoor
namespace Go.Proofs.YtkogoflcacameaaDoor
set_option maxRecDepth 100000
open Go.RowKit
attribute [local go_sem ↓] Go.wp_at_zero Go.wp_at_succ
abbrev ptQ (x : P2) : Array Value := #[.int .i64 x.1, .int .i64 x.2]
theorem Cells8.pick {u u' : World} {b r : Nat} {cs : Array Value} {t : TypeId} (h : Cells8 u b cs t) (hg : u.grownBy u' (some r)) (hne : b ≠ r) : Cells8 u' b cs t :=
  (hg.block b h.lt (fun e => by injection e with e; exact hne e)).trans h
/-- What lies behind the draws: the reader, the four results' boxes, the four points' boxes. -/
structure Q4 (w u : World) (r M : Nat) (va vb vc vd : Nat) (a b c d : P2) : Prop where
  bel : Below w.heap.size w u
  n0 : Cells8 u w.heap.size (ptQ (0, 0)) 89
  n1 : Cells8 u (w.heap.size + 1) (ptQ (0, 0)) 89
  n2 : Cells8 u (w.heap.size + 1 + 1) (ptQ (0, 0)) 89
  n3 : Cells8 u (w.heap.size + 1 + 1 + 1) (ptQ (0, 0)) 89
  a : Cells8 u va (ptQ a) 89
  b : Cells8 u vb (ptQ b) 89
  c : Cells8 u vc (ptQ c) 89
  d : Cells8 u vd (ptQ d) 89
  o : w.heap.size + 1 + 1 + 1 + 1 < va ∧ va < vb ∧ vb < vc ∧ vc < vd
theorem Q4.put {w u : World} {r M va vb vc vd : Nat} {a b c d : P2} (h : Q4 w u r M va vb vc vd a b c d) (x : P2) : Q4 w ((u.setCell ⟨vc, 0, none⟩ (.int .i64 x.1)).setCell ⟨vc, 1, none⟩ (.int .i64 x.2)) r M va vb vc vd a b x d := by
  obtain ⟨o1, o2, o3, o4⟩ := h.o
  have f : ∀ {k : Nat} {cs : Array Value} {t : TypeId}, Cells8 u k cs t → k ≠ vc → Cells8 ((u.setCell ⟨vc, 0, none⟩ (.int .i64 x.1)).setCell ⟨vc, 1, none⟩ (.int .i64 x.2)) k cs t := fun hk hn => (hk.other hn _).other hn _
  exact ⟨below_set h.bel (by omega) _ _, f h.n0 (by omega), f h.n1 (by omega), f h.n2 (by omega), f h.n3 (by omega), f h.a (by omega), f h.b (by omega), (h.c.set 0 _).set 1 _, f h.d (by omega), h.o⟩
theorem Q4.putD {w u : World} {r M va vb vc vd : Nat} {a b c d : P2} (h : Q4 w u r M va vb vc vd a b c d) (x : P2) : Q4 w ((u.setCell ⟨vd, 0, none⟩ (.int .i64 x.1)).setCell ⟨vd, 1, none⟩ (.int .i64 x.2)) r M va vb vc vd a b c x := by
  obtain ⟨o1, o2, o3, o4⟩ := h.o
  have f : ∀ {k : Nat} {cs : Array Value} {t : TypeId}, Cells8 u k cs t → k ≠ vd → Cells8 ((u.setCell ⟨vd, 0, none⟩ (.int .i64 x.1)).setCell ⟨vd, 1, none⟩ (.int .i64 x.2)) k cs t := fun hk hn => (hk.other hn _).other hn _
  exact ⟨below_set h.bel (by omega) _ _, f h.n0 (by omega), f h.n1 (by omega), f h.n2 (by omega), f h.n3 (by omega), f h.a (by omega), f h.b (by omega), f h.c (by omega), (h.d.set 0 _).set 1 _, h.o⟩
theorem Q4.next {w u u' : World} {r M va vb vc vd : Nat} {a b c d : P2} (h : Q4 w u r M va vb vc vd a b c d) (hb : Below u.heap.size u u') : Q4 w u' r M va vb vc vd a b c d :=
  ⟨below_call h.bel hb, h.n0.next hb, h.n1.next hb, h.n2.next hb, h.n3.next hb, h.a.next hb, h.b.next hb, h.c.next hb, h.d.next hb, h.o⟩
theorem Cells8.pc {u : World} {k : Nat} {x : P2} {t : TypeId} (h : Cells8 u k (ptQ x) t) : u.cell? ⟨k, 0, none⟩ = some (.int .i64 x.1) ∧ u.cell? ⟨k, 1, none⟩ = some (.int .i64 x.2) := ⟨h.cell rfl, h.cell rfl⟩
theorem Cells8.pf {u : World} {k : Nat} {x : P2} {t : TypeId} (h : Cells8 u k (ptQ x) t) : u.frozen? ⟨k, 0, none⟩ = false ∧ u.frozen? ⟨k, 1, none⟩ = false := ⟨h.frozen, h.frozen⟩
/-- What the draw says. -/
def GotQ4 (w : World) (e : Ending) (w' : World) : Prop := ∃ a b c d : P2, (small a.1 ∧ small a.2 ∧ small b.1 ∧ small b.2) ∧ e = .returned (.tuple #[pt a.1 a.2, pt b.1 b.2, pt c.1 c.2, pt d.1 d.2]) ∧ Below w.heap.size w w'
end Go.Proofs.YtkogoflcacameaaDoor
namespace Go.Proofs.YtkogoflcacameaaDoor
set_option maxRecDepth 100000
open Go.RowKit
attribute [local go_sem ↓] Go.wp_at_zero Go.wp_at_succ
theorem OwnPt.pick8 {u u' : World} {B r : Nat} {v : Value} {ps : List P2} (h : OwnPt u B v ps) (hg : u.grownBy u' (some r)) (hr : r < B) : OwnPt u' B v ps :=
  World.ownsRow.kept h hg (.inr (fun e => by have := (World.ownsRow.lt h r e).1; omega))
/-- While a point near a polygon is drawn: the reader, the result's box, the point's box. -/
structure Cl8 (w0 : World) (B M r vp : Nat) (p : P2) (u : World) : Prop where
  rd : Rd B M u r
  gr : w0.grownBy u (some r)
  n0 : Cells8 u w0.heap.size (ptQ (0, 0)) 89
  p : Cells8 u vp (ptQ p) 89
  o : w0.heap.size < vp
section
variable {w0 u u' : World} {B M M' r vp : Nat} {p : P2}
theorem Cl8.pick (h : Cl8 w0 B M r vp p u) (hr : Rd B M' u' r) (hg : u.grownBy u' (some r)) (hlt : r < w0.heap.size) : Cl8 w0 B M' r vp p u' :=
  ⟨hr, h.gr.trans hg, h.n0.pick hg (by omega), h.p.pick hg (by have := h.o; omega), h.o⟩
theorem Cl8.alloc (h : Cl8 w0 B M r vp p u) (o : Obj) : Cl8 w0 B M r vp p (u.alloc o) := ⟨h.rd.alloc o, only_alloc h.gr o, h.n0.alloc o, h.p.alloc o, h.o⟩
theorem Cl8.mono (h : Cl8 w0 B M r vp p u) (hM : M ≤ M') : Cl8 w0 B M' r vp p u := ⟨h.rd.mono hM, h.gr, h.n0, h.p, h.o⟩
theorem Cl8.drew (h : Cl8 w0 B M r vp p u) : Cl8 w0 B M r vp p u.drew :=
  ⟨h.rd.drew, h.gr.trans (by have hb := below_drew u; exact ⟨hb.os, hb.tape, hb.output, hb.size, fun k hk _ => hb.block k hk⟩), h.n0.next (below_drew u), h.p.next (below_drew u), h.o⟩
theorem Cl8.put (h : Cl8 w0 B M r vp p u) (hlt : r < w0.heap.size) (hB : B ≤ w0.heap.size) (q : P2) : Cl8 w0 B M r vp q ((u.setCell ⟨vp, 0, none⟩ (.int .i64 q.1)).setCell ⟨vp, 1, none⟩ (.int .i64 q.2)) := by
  have o := h.o
  exact ⟨(h.rd.set (by omega) (by omega) _).set (by omega) (by omega) _, only_set (only_set h.gr (by omega) _) (by omega) _, (h.n0.other (by omega) _).other (by omega) _, (h.p.set 0 _).set 1 _, o⟩
theorem Cl8.fin (h : Cl8 w0 B M r vp p u) (hlt : r < w0.heap.size) (hB : B ≤ w0.heap.size) (hM : M ≤ M') (a b : Value) :
    Rd B M' ((u.setCell ⟨w0.heap.size, 0, none⟩ a).setCell ⟨w0.heap.size, 1, none⟩ b) r ∧ w0.grownBy ((u.setCell ⟨w0.heap.size, 0, none⟩ a).setCell ⟨w0.heap.size, 1, none⟩ b) (some r) :=
  ⟨((h.rd.set (by omega) hB _).set (by omega) hB _).mono hM, only_set (only_set h.gr (Nat.le_refl _) _) (Nat.le_refl _) _⟩
end
/-- What the draw says. -/
def DrawnW (B M r : Nat) (w : World) (e : Ending) (w' : World) : Prop :=
  ∃ q : P2, (-30000 ≤ q.1 ∧ q.1 ≤ 30000 ∧ -30000 ≤ q.2 ∧ q.2 ≤ 30000) ∧ e = .returned (pt q.1 q.2) ∧ Rd B M w' r ∧ w.grownBy w' (some r)
/-- The point near a polygon, before it is handed back. -/
def Got8 (w0 : World) (B M r vp : Nat) (u : World) : Prop := ∃ q : P2, (-30000 ≤ q.1 ∧ q.1 ≤ 30000 ∧ -30000 ≤ q.2 ∧ q.2 ≤ 30000) ∧ Cl8 w0 B M r vp q u
theorem Got8.any {w0 : World} {B M r vp : Nat} {u : World} (h : Got8 w0 B M r vp u) : ∃ q : P2, (-30000 ≤ q.1 ∧ q.1 ≤ 30000 ∧ -30000 ≤ q.2 ∧ q.2 ≤ 30000) ∧ Cl8 w0 B M r vp q u := h
/-- .. with the two corners' boxes. -/
structure Cl2 (w0 : World) (B M r vp : Nat) (p : P2) (va vb : Nat) (a b : P2) (u : World) : Prop where
  c : Cl8 w0 B M r vp p u
  a : Cells8 u va (ptQ a) 89
  b : Cells8 u vb (ptQ b) 89
  o : vp < va ∧ va < vb
section
variable {w0 u u' : World} {B M M' r vp va vb : Nat} {p a b : P2}
theorem Cl2.k (h : Cl2 w0 B M r vp p va vb a b u) : u.cell? ⟨va, 0, none⟩ = some (.int .i64 a.1) ∧ u.cell? ⟨va, 1, none⟩ = some (.int .i64 a.2) ∧ u.cell? ⟨vb, 0, none⟩ = some (.int .i64 b.1) ∧ u.cell? ⟨vb, 1, none⟩ = some (.int .i64 b.2) :=
  ⟨h.a.pc.1, h.a.pc.2, h.b.pc.1, h.b.pc.2⟩
theorem Cl2.pick (h : Cl2 w0 B M r vp p va vb a b u) (hr : Rd B M' u' r) (hg : u.grownBy u' (some r)) (hlt : r < w0.heap.size) : Cl2 w0 B M' r vp p va vb a b u' :=
  ⟨h.c.pick hr hg hlt, h.a.pick hg (by have := h.c.o; have := h.o; omega), h.b.pick hg (by have := h.c.o; have := h.o; omega), h.o⟩
theorem Cl2.drew (h : Cl2 w0 B M r vp p va vb a b u) : Cl2 w0 B M r vp p va vb a b u.drew := ⟨h.c.drew, h.a.next (below_drew u), h.b.next (below_drew u), h.o⟩
theorem Cl2.put (h : Cl2 w0 B M r vp p va vb a b u) (hlt : r < w0.heap.size) (hB : B ≤ w0.heap.size) (q : P2) : Cl2 w0 B M r vp q va vb a b ((u.setCell ⟨vp, 0, none⟩ (.int .i64 q.1)).setCell ⟨vp, 1, none⟩ (.int .i64 q.2)) := by
  have o := h.o
  exact ⟨h.c.put hlt hB q, (h.a.other (by omega) _).other (by omega) _, (h.b.other (by omega) _).other (by omega) _, o⟩
end
theorem Cl2.pick5 {w0 u : World} {B M r vp va vb : Nat} {p a b : P2} (h : Cl2 w0 B M r vp p va vb a b u) (hM : M ≤ 1000000) (hlt : r < w0.heap.size) :
    Calls Tryd.prog 25 #[.pointer (some ⟨r, 0, none⟩), .int .i64 5] u fun e u' => ∃ x : Int, 0 ≤ x ∧ x < 5 ∧ e = .returned (.int .i64 x) ∧ Cl2 w0 B (M + 1) r vp p va vb a b u' :=
  (Go.Proofs.YtkogoflcacameaaDoor.pick B M r 5 u h.c.rd hM).mono fun _ _ ⟨x, p0, p1, he, hr, hg, _⟩ => ⟨x, p0, p1 (by omega), he, h.pick hr hg hlt⟩
theorem flo2_bd {n : Int} (h1 : -40000 ≤ n) (h2 : n ≤ 40000) : -20000 ≤ flo n 2 ∧ flo n 2 ≤ 20000 := by unfold flo; omega
end Go.Proofs.YtkogoflcacameaaDoor
