/- The document's HullOf. -/
import Derived.Test.YtcifokihellcdaaDoorBx8
namespace Go.Proofs.YtcifokihellcdaaDoor
set_option maxRecDepth 100000
open Go.RowKit
attribute [local go_sem ↓] Go.wp_at_zero Go.wp_at_succ
theorem eqT8 {a b : P2} (h : a = b) (u : World) : (if a.1 = b.1 then if a.2 = b.2 then Result.ok (Next.value (Value.bool true)) u else Result.ok (Next.value (Value.bool false)) u else Result.ok (Next.value (Value.bool false)) u) = Result.ok (Next.value (Value.bool true)) u := by
  rw [if_pos (by rw [h]), if_pos (by rw [h])]
theorem eqF8 {a b : P2} (h : a ≠ b) (u : World) : (if a.1 = b.1 then if a.2 = b.2 then Result.ok (Next.value (Value.bool true)) u else Result.ok (Next.value (Value.bool false)) u else Result.ok (Next.value (Value.bool false)) u) = Result.ok (Next.value (Value.bool false)) u := by
  by_cases h1 : a.1 = b.1
  · rw [if_pos h1, if_neg (fun h2 => h (Prod.ext h1 h2))]
  · rw [if_neg h1]
theorem squareC (a b : P2) (w : World) (ha : okQ a) (hb : okQ b) : Calls Tryd.prog 89 #[pt a.1 a.2, pt b.1 b.2] w fun e w' => e = .returned (.int .i64 (sq2 a b)) ∧ Below w.heap.size w w' := by
  have := l2Square a.1 a.2 b.1 b.2 w ha hb
  rw [sqV_in' ⟨ha, hb⟩] at this
  exact this
set_option maxHeartbeats 8000000 in
theorem specHullOf (a : Option Addr) (len cap : Nat) (ps : List P2) (w : World) (hp : PL w a len ps) (hl : len ≤ 9223372036854775807) :
    Calls Tryd.prog 77 #[.slice a len cap] w (RowP (hulV ps) w) := by
  obtain ⟨i0, hi0, hz0, hz1, hz2⟩ := info_parts infoPt6
  have HLE := Lib.hid hp.1
  have R0 := Lib.hid (Ro.empty (Below.refl w.heap.size w) 34 rfl)
  by_cases h16 : len ≤ 16
  · by_cases h0 : len = 0
    · subst h0
      have HV := Lib.hid (show ([] : List P2) = hulV ps by have := HLE.out; rw [List.eq_nil_of_length_eq_zero this.symm, hulV_nil])
      clear hp
      go_enter Tryd.func77, Tryd.ntmps77
      go_wp2
      go_ret
      rw [← HV.out]; exact R0.out.row
    · have HP := Lib.hid hp
      obtain ⟨b, o, rfl, ltb, hcb⟩ := (hp.next R0.out.bel).somes (by omega)
      obtain ⟨d0, d1⟩ := hcb 0 (by omega)
      simp only [Nat.zero_mul, Nat.add_zero] at d0 d1
      have g1 : ¬ (len : Int) > 16 := by omega
      have g2 : ((len : Int) == 0) = false := by simpa using h0
      have g3 : (0 : Int) < (len : Int) := by omega
      have n1 : 0 < len := by omega
      clear hp
      go_enter Tryd.func77, Tryd.ntmps77
      go_wp2
      have HB2 := Lib.hid (show Ro w ((w.alloc (.cells #[] 34)).alloc (.cells (ptC (cor ps 0)) 34)) (.slice (some ⟨w.heap.size, 0, none⟩) 0 0) [] from R0.out.next (below_box _ _))
      have HA2 := Lib.hid (show Bx w ((w.alloc (.cells #[] 34)).alloc (.cells (ptC (cor ps 0)) 34)) (.slice (some ⟨w.heap.size, 0, none⟩) 0 0) (w.heap.size + 1) (cor ps 0) from by
        have := Bx.new R0.out (cor ps 0); rw [World.size_alloc] at this; exact this)
      have HL0 := Lib.hid (show Lst8 ps 0 (cor ps 0) from ⟨cor_mem (by rw [← HLE.out]; exact n1), fun i hi => by omega⟩)
      clear d0 d1 hcb ltb g2 g3 R0
      go_loopw [5] (fun i wr => ∃ (j : Nat) (c : P2), j ≤ len ∧ i = .int .i64 (j : Int) ∧ Hid (Lst8 ps j c) ∧ Hid (Ro w wr (.slice (some ⟨w.heap.size, 0, none⟩) 0 0) []) ∧ Hid (Bx w wr (.slice (some ⟨w.heap.size, 0, none⟩) 0 0) (w.heap.size + 1) c)) (fun i _ => len - (intOf i).toNat)
      case atStart => exact ⟨0, cor ps 0, Nat.zero_le _, rfl, HL0, HB2, HA2⟩
      case round =>
        obtain ⟨j, x, hj, rfl, HL, HR, HA⟩ := hrel
        clear HB2 HA2 HL0
        by_cases hlt : j < len
        · obtain ⟨_, _, e, ltb, hc⟩ := (HP.out.next HR.out.bel).somes (by omega)
          simp only [Option.some.injEq, Addr.mk.injEq, and_true] at e
          obtain ⟨rfl, rfl⟩ := e
          obtain ⟨d0, d1⟩ := hc j hlt
          have j1 : (0 : Int) ≤ (j : Int) := by omega
          have j2 : (j : Int) < (len : Int) := by omega
          have HSP := Lib.hid (fun u => specPointValidC (cor ps j) u)
          by_cases hv : okQ (cor ps j)
          · have HLS := Lib.hid (HL.out.step (by rw [← HLE.out]; exact hlt) hv)
            have hv' : decide (okQ (cor ps j)) = true := decide_eq_true hv
            clear hc hv
            generalize cor ps j = c at *
            go_wp2_with fail
            refine (HSP.out _).mono ?_
            rintro e w1 ⟨rfl, B1⟩
            rw [hv']
            have HR1 := Lib.hid (HR.out.next B1)
            have HA1 := Lib.hid (HA.out.next B1)
            have hb1 : b < w1.heap.size := Nat.lt_of_lt_of_le ltb B1.size
            have e0 : w1.cell? ⟨b, o + j * 2, none⟩ = some (.int .i64 c.1) := (B1.cell (p := ⟨b, o + j * 2, none⟩) ltb).trans d0
            have e1 : w1.cell? ⟨b, o + j * 2 + 1, none⟩ = some (.int .i64 c.2) := (B1.cell (p := ⟨b, o + j * 2 + 1, none⟩) ltb).trans d1
            have u1 := keptCell hb1 e0
            have u2 := keptCell hb1 e1
            obtain ⟨u3, u4⟩ := HA1.out.at.kepts
            clear d0 d1 B1 HR HA
            by_cases hq1 : c.1 < x.1
            · have b1 : decide (c.1 < x.1) = true := decide_eq_true hq1
              rw [if_pos (.inl hq1)] at HLS
              clear hq1
              go_wp2_with fail
              refine wp_region_kept (by kernel_rfl) (by kernel_rfl) ?_
              repeat (go_big_quiet_step (fail))
              refine wpQuiet_nil ?_
              rintro w5 ⟨⟨_, K5⟩, rfl⟩
              have HR5 := Lib.hid (HR1.out.next K5)
              have HA5 := Lib.hid (HA1.out.next K5)
              have f0 := (u1 ⟨w5, K5⟩)
              have f1 := (u2 ⟨w5, K5⟩)
              simp only at f0 f1
              obtain ⟨z0, z1⟩ := HA5.out.fr
              obtain ⟨_, m0, m1⟩ := HA5.out.at
              have HR6 := Lib.hid (HR5.out.put HA5.out (.int .i64 c.1) (.int .i64 c.2))
              have HA6 := Lib.hid (HA5.out.put c)
              clear u1 u2 u3 u4 HR1 HA1 K5 HR5 HA5
              go_wp2
              go_roundw
              case rel => exact ⟨j + 1, c, by omega, by congr 1, HLS, HR6, HA6⟩
              case measure => simp [intOf]; omega
            · have b1 : decide (c.1 < x.1) = false := decide_eq_false hq1
              by_cases hq2 : c.1 = x.1
              · have b2 : (c.1 == x.1) = true := by simpa using hq2
                by_cases hq3 : c.2 < x.2
                · have b3 : decide (c.2 < x.2) = true := decide_eq_true hq3
                  rw [if_pos (.inr ⟨hq2, hq3⟩)] at HLS
                  clear hq1 hq2 hq3
                  go_wp2_with fail
                  refine wp_region_kept (by kernel_rfl) (by kernel_rfl) ?_
                  repeat (go_big_quiet_step (fail))
                  refine wpQuiet_nil ?_
                  rintro w5 ⟨⟨_, K5⟩, rfl⟩
                  have HR5 := Lib.hid (HR1.out.next K5)
                  have HA5 := Lib.hid (HA1.out.next K5)
                  have f0 := (u1 ⟨w5, K5⟩)
                  have f1 := (u2 ⟨w5, K5⟩)
                  simp only at f0 f1
                  obtain ⟨z0, z1⟩ := HA5.out.fr
                  obtain ⟨_, m0, m1⟩ := HA5.out.at
                  have HR6 := Lib.hid (HR5.out.put HA5.out (.int .i64 c.1) (.int .i64 c.2))
                  have HA6 := Lib.hid (HA5.out.put c)
                  clear u1 u2 u3 u4 HR1 HA1 K5 HR5 HA5
                  go_wp2
                  go_roundw
                  case rel => exact ⟨j + 1, c, by omega, by congr 1, HLS, HR6, HA6⟩
                  case measure => simp [intOf]; omega
                · have b3 : decide (c.2 < x.2) = false := decide_eq_false hq3
                  rw [if_neg (by omega)] at HLS
                  clear hq1 hq2 hq3
                  go_wp2_with fail
                  refine wp_region_kept (by kernel_rfl) (by kernel_rfl) ?_
                  repeat (go_big_quiet_step (fail))
                  refine wpQuiet_nil ?_
                  rintro w5 ⟨⟨_, K5⟩, rfl⟩
                  have HR5 := Lib.hid (HR1.out.next K5)
                  have HA5 := Lib.hid (HA1.out.next K5)
                  clear u1 u2 u3 u4 HR1 HA1 K5
                  go_wp2
                  go_roundw
                  case rel => exact ⟨j + 1, x, by omega, by congr 1, HLS, HR5, HA5⟩
                  case measure => simp [intOf]; omega
              · have b2 : (c.1 == x.1) = false := by simpa using hq2
                rw [if_neg (by omega)] at HLS
                clear hq1 hq2
                go_wp2_with fail
                refine wp_region_kept (by kernel_rfl) (by kernel_rfl) ?_
                repeat (go_big_quiet_step (fail))
                refine wpQuiet_nil ?_
                rintro w5 ⟨⟨_, K5⟩, rfl⟩
                have HR5 := Lib.hid (HR1.out.next K5)
                have HA5 := Lib.hid (HA1.out.next K5)
                clear u1 u2 u3 u4 HR1 HA1 K5
                go_wp2
                go_roundw
                case rel => exact ⟨j + 1, x, by omega, by congr 1, HLS, HR5, HA5⟩
                case measure => simp [intOf]; omega
          · have HNV := Lib.hid (show ([] : List P2) = hulV ps from (hulV_out fun k => hv (k.2.cor (by rw [← HLE.out]; exact hlt))).symm)
            have hv' : decide (okQ (cor ps j)) = false := decide_eq_false hv
            clear hc hv
            generalize cor ps j = c at *
            go_wp2_with fail
            refine (HSP.out _).mono ?_
            rintro e w1 ⟨rfl, B1⟩
            rw [hv']
            have HF := Lib.hid (Ro.empty (below_call HR.out.bel B1) 34 rfl)
            clear d0 d1 B1 HR HA
            go_wp2
            go_ret
            rw [← HNV.out]; exact HF.out.row
        · have hjl : j = len := by omega
          subst j
          replace HL := Lib.hid (show Lst8 ps ps.length x by rw [← HLE.out]; exact HL.out)
          have HK := Lib.hid HL.out.ok
          have HC0 := Lib.hid (show Chain8 ps ([] ++ [x]) ∧ cor ([] ++ [x]) 0 = x from ⟨HL.out.chain, rfl⟩)
          have HLEAST := Lib.hid HL.out.le
          obtain ⟨_, m0, m1⟩ := HA.out.at
          have HBF := Lib.hid (Bx.new HR.out x)
          have HRF := Lib.hid (HR.out.next (below_box wr (.cells (ptC x) 34)))
          have HAF := Lib.hid (HA.out.next (below_box wr (.cells (ptC x) 34)))
          have HNE := Lib.hid (show w.heap.size + 1 ≠ wr.heap.size from by have := HA.out.c.lt; omega)
          clear HL HR HA
          go_wp2
          clear m0 m1
          generalize wr.alloc (.cells #[.int .i64 x.1, .int .i64 x.2] 34) = w2 at *
          generalize wr.heap.size = bF at *
          generalize w.heap.size + 1 = bA at *
          generalize x = f at *
          go_loopw [3] (fun v wr => ∃ (H : List P2) (a : P2), Hid (Chain8 ps (H ++ [a]) ∧ cor (H ++ [a]) 0 = f) ∧ Hid (Ro w wr v H) ∧ Hid (Bx w wr v bA a) ∧ Hid (Bx w wr v bF f)) (fun v _ => 17 - slLen v)
          case atStart => exact ⟨[], f, HC0, HRF, HAF, HBF⟩
          case round =>
            obtain ⟨H, x, HC, HR, HA, HF⟩ := hrel
            obtain ⟨va, vn, vc, rfl, hvn⟩ := HR.out.sl
            have hsh : vn + 1 ≤ 16 := by have := walk_short HC.out.1; have := HLE.out; omega
            have HVN := Lib.hid hvn
            clear HC0 HRF HAF HBF hvn
            obtain ⟨_, m0, m1⟩ := HA.out.at
            have HRa := Lib.hid (HR.out.next (below_box wr (.cells (ptC x) 34)))
            have HAa := Lib.hid (HA.out.next (below_box wr (.cells (ptC x) 34)))
            have HFa := Lib.hid (HF.out.next (below_box wr (.cells (ptC x) 34)))
            have HNn := Lib.hid (two_new6 wr (.int .i64 x.1) (.int .i64 x.2) 34)
            have HPV := Lib.hid (pvals_snoc6 H x)
            have HWW := Lib.hid (show w.heap.size ≤ (wr.alloc (.cells (ptC x) 34)).heap.size from HRa.out.bel.size)
            have HON := Lib.hid (show (wr.alloc (.cells (ptC x) 34)).ownsRow w.heap.size 34 2 (.slice va vn vc) vn (pvals H) by
              have o := HRa.out.own; unfold OwnPt at o; rw [← HVN.out] at o; exact o)
            clear HR HA HF
            go_upto_region 14 with (at_builtin; refine wpList_append_lies _ rfl (.tmp 69) (.tmp 71) 35 rfl w.heap.size 34 i0 (pt 0 0) 2 16 Tryd.underlying35 hi0 hz0 hz1 hz2 rfl (by decide) _ vn (pvals H) rfl HON.out ⟨wr.heap.size, 0, none⟩ 1 1 [.int .i64 x.1, .int .i64 x.2] rfl rfl HNn.out (by intro u hu; simp at hu; rcases hu with rfl | rfl <;> rfl) (by omega) (by unfold maxLen; omega) (by omega) HWW.out _ rfl ?_; intro g7 cap7 w7 own7 grow7 at7 ltg7; have HA7 := Lib.hid (And.intro own7 (And.intro grow7 at7)); clear own7 grow7 at7 ltg7)
            have HR7 := Lib.hid (show Ro w w7 (.slice (some ⟨g7, 0, none⟩) (vn + 1) cap7) (H ++ [x]) from HRa.out.app HA7.out.2.1 (by
              have o := HA7.out.1
              rw [← HPV.out] at o
              unfold OwnPt
              rw [List.length_append, ← HVN.out]
              exact o))
            have HA8 := Lib.hid (HAa.out.app (n := vn + 1) (cap := cap7) HA7.out.2.1 HA7.out.2.2)
            have HF8 := Lib.hid (HFa.out.app (n := vn + 1) (cap := cap7) HA7.out.2.1 HA7.out.2.2)
            clear HA7 HRa HAa HFa HNn HPV HWW HON m0 m1
            obtain ⟨_, m0, m1⟩ := HA8.out.at
            have HX7 := Lib.hid (Bx.new HR7.out x)
            have HNE2 := Lib.hid (show bA ≠ w7.heap.size from Nat.ne_of_lt HA8.out.c.lt)
            have HNE3 := Lib.hid (show bF ≠ w7.heap.size from Nat.ne_of_lt HF8.out.c.lt)
            have HR8 := Lib.hid (HR7.out.next (below_box w7 (.cells (ptC x) 34)))
            replace HA8 := Lib.hid (HA8.out.next (below_box w7 (.cells (ptC x) 34)))
            replace HF8 := Lib.hid (HF8.out.next (below_box w7 (.cells (ptC x) 34)))
            have HEX := Lib.hid (show Ext ps x from HC.out.1.extA.2)
            have HMX := Lib.hid (show x ∈ ps from HC.out.1.extA.1)
            have HN0 := Lib.hid (NxTo.start ps x)
            clear HR7
            go_upto_region 16 with fail
            clear m0 m1
            generalize w7.alloc (.cells #[.int .i64 x.1, .int .i64 x.2] 34) = w8 at *
            generalize w7.heap.size = bN at *
            obtain ⟨V, hV⟩ : ∃ V, Value.slice (some ⟨g7, 0, none⟩) (vn + 1) cap7 = V := ⟨_, rfl⟩
            rw [hV] at HR8 HA8 HF8 HX7
            replace hV := Lib.hid hV
            go_loopw [8] (fun i wr => ∃ (k : Nat) (q : P2), k ≤ len ∧ i = .int .i64 (k : Int) ∧ Hid (NxTo ps x k q) ∧ Hid (Ro w wr V (H ++ [x])) ∧ Hid (Bx w wr V bA x) ∧ Hid (Bx w wr V bF f) ∧ Hid (Bx w wr V bN q)) (fun i _ => len - (intOf i).toNat)
            case atStart => exact ⟨0, x, Nat.zero_le _, rfl, HN0, HR8, HA8, HF8, HX7⟩
            case round =>
              obtain ⟨k, q, hk, rfl, HN, HRk, HAk, HFk, HXk⟩ := hrel
              clear HN0 HR8 HA8 HF8 HX7
              by_cases hlt : k < len
              · obtain ⟨_, _, e, ltb, hc⟩ := (HP.out.next HRk.out.bel).somes (by omega)
                simp only [Option.some.injEq, Addr.mk.injEq, and_true] at e
                obtain ⟨rfl, rfl⟩ := e
                have u1 := keptCell (b := b) (o := o + k * 2) ltb (hc k hlt).1
                have u2 := keptCell (b := b) (o := o + k * 2 + 1) ltb (hc k hlt).2
                obtain ⟨u3, u4⟩ := HAk.out.at.kepts
                obtain ⟨u5, u6⟩ := HXk.out.at.kepts
                have j1 : (0 : Int) ≤ (k : Int) := by omega
                have j2 : (k : Int) < (len : Int) := by omega
                have HKL := Lib.hid (show k < ps.length by rw [← HLE.out]; exact hlt)
                have HSM := Lib.hid (fun e => HN.out.same (j := k) e)
                have HKP := Lib.hid (fun e => HN.out.keep (j := k) e)
                have HTK := Lib.hid (fun hne e => HN.out.take (j := k) HEX.out HKL.out hne e)
                have HQ1 := Lib.hid (show okQ x from HK.out x HMX.out)
                have HQ2 := Lib.hid (show okQ q from HK.out q (HN.out.mem HMX.out))
                have HQ3 := Lib.hid (show okQ (cor ps k) from HK.out.cor HKL.out)
                clear hc
                generalize cor ps k = c at *
                by_cases hcx : c = x
                · have hb := eqT8 hcx
                  have HN9 := Lib.hid (show NxTo ps x (k + 1) q from HSM.out hcx)
                  clear hcx
                  go_upto_region 18 with fail
                  refine wp_region_kept (by kernel_rfl) (by kernel_rfl) ?_
                  repeat (go_big_quiet_step (fail))
                  refine wpQuiet_nil ?_
                  rintro w5 ⟨⟨_, K5⟩, rfl⟩
                  have HRl := Lib.hid (HRk.out.next K5)
                  have HAl := Lib.hid (HAk.out.next K5)
                  have HFl := Lib.hid (HFk.out.next K5)
                  have HXl := Lib.hid (HXk.out.next K5)
                  clear u1 u2 u3 u4 u5 u6 K5 HRk HAk HFk HXk
                  go_wp2
                  go_roundw
                  case rel => exact ⟨k + 1, q, by omega, by congr 1, HN9, HRl, HAl, HFl, HXl⟩
                  case measure => simp [intOf]; omega
                · have hb := eqF8 hcx
                  replace HTK := Lib.hid (HTK.out hcx)
                  clear hcx HSM
                  go_upto_region 18 with fail
                  refine wp_region_kept (by kernel_rfl) (by kernel_rfl) ?_
                  repeat (go_big_quiet_step (fail))
                  refine wpQuiet_nil ?_
                  rintro w5 ⟨⟨_, K5⟩, rfl⟩
                  replace u1 := keptCell (Nat.lt_of_lt_of_le ltb K5.size) (u1 ⟨w5, K5⟩)
                  replace u2 := keptCell (Nat.lt_of_lt_of_le ltb K5.size) (u2 ⟨w5, K5⟩)
                  replace ltb := Nat.lt_of_lt_of_le ltb K5.size
                  have HRm := Lib.hid (HRk.out.next K5)
                  have HAm := Lib.hid (HAk.out.next K5)
                  have HFm := Lib.hid (HFk.out.next K5)
                  have HXm := Lib.hid (HXk.out.next K5)
                  clear u3 u4 u5 u6
                  obtain ⟨u3, u4⟩ := HAm.out.at.kepts
                  obtain ⟨u5, u6⟩ := HXm.out.at.kepts
                  clear K5 HRk HAk HFk HXk
                  have HCR := Lib.hid (fun (n : Kept w5) => keptCall (crossC x q c n.u HQ1.out HQ2.out HQ3.out))
                  go_upto_region 19 with fail
                  refine wp_region_ktail 7 (by kernel_rfl) (by kernel_rfl) ?_
                  simp only [List.take_succ_cons, List.take_zero, List.drop_succ_cons, List.drop_zero]
                  repeat (go_big_quiet_step ((go_at_call 70; with_reducible exact HCR.out _)))
                  refine wpQuiet_nil ?_
                  rintro w4 ⟨⟨_, K4⟩, rfl⟩
                  replace u1 := keptCell (Nat.lt_of_lt_of_le ltb K4.size) (u1 ⟨w4, K4⟩)
                  replace u2 := keptCell (Nat.lt_of_lt_of_le ltb K4.size) (u2 ⟨w4, K4⟩)
                  replace ltb := Nat.lt_of_lt_of_le ltb K4.size
                  have HRl := Lib.hid (HRm.out.next K4)
                  have HAl := Lib.hid (HAm.out.next K4)
                  have HFl := Lib.hid (HFm.out.next K4)
                  have HXl := Lib.hid (HXm.out.next K4)
                  clear u3 u4 u5 u6
                  obtain ⟨u3, u4⟩ := HAl.out.at.kepts
                  obtain ⟨u5, u6⟩ := HXl.out.at.kepts
                  clear K4 HRm HAm HFm HXm
                  clear HCR hb
                  have HS1 := Lib.hid (fun (n : Kept w4) => keptCall (squareC x c n.u HQ1.out HQ3.out))
                  have HS2 := Lib.hid (fun (n : Kept w4) => keptCall (squareC x q n.u HQ1.out HQ2.out))
                  obtain ⟨d, hd⟩ : ∃ d, cr x q c = d := ⟨_, rfl⟩
                  rw [hd]
                  have HD := Lib.hid hd
                  clear hd
                  by_cases hqx : q = x
                  · have hb := eqT8 hqx
                    have HQX := Lib.hid hqx
                    clear hqx
                    go_wp2_with fail
                    refine wp_region_kept (by kernel_rfl) (by kernel_rfl) ?_
                    repeat (go_big_quiet_step ((go_at_call 89; (first | with_reducible exact HS1.out _ | with_reducible exact HS2.out _))))
                    refine wpQuiet_nil ?_
                    rintro w6 ⟨⟨_, K6⟩, rfl⟩
                    have HR9 := Lib.hid (HRl.out.next K6)
                    have HA9 := Lib.hid (HAl.out.next K6)
                    have HF9 := Lib.hid (HFl.out.next K6)
                    have HX9 := Lib.hid (HXl.out.next K6)
                    have HN9 := Lib.hid (show NxTo ps x (k + 1) c from HTK.out (.inl HQX.out))
                    have f0 := (u1 ⟨w6, K6⟩)
                    have f1 := (u2 ⟨w6, K6⟩)
                    simp only at f0 f1
                    obtain ⟨z0, z1⟩ := HX9.out.fr
                    obtain ⟨_, m0, m1⟩ := HX9.out.at
                    replace HR9 := Lib.hid (HR9.out.put HX9.out (.int .i64 c.1) (.int .i64 c.2))
                    replace HA9 := Lib.hid (HA9.out.far HNE2.out (.int .i64 c.1) (.int .i64 c.2))
                    replace HF9 := Lib.hid (HF9.out.far HNE3.out (.int .i64 c.1) (.int .i64 c.2))
                    replace HX9 := Lib.hid (HX9.out.put c)
                    clear u1 u2 u3 u4 u5 u6 K6 HRl HAl HFl HXl HS1 HS2
                    go_wp2
                    go_roundw
                    case rel => exact ⟨k + 1, c, by omega, by congr 1, HN9, HR9, HA9, HF9, HX9⟩
                    case measure => simp [intOf]; omega
                  · have hb := eqF8 hqx
                    have HQX := Lib.hid hqx
                    clear hqx
                    rcases Int.lt_trichotomy d 0 with hd | hd | hd
                    · have HDD := Lib.hid hd
                      have b1 : decide (d < 0) = true := decide_eq_true hd
                      clear hd
                      go_wp2_with fail
                      refine wp_region_kept (by kernel_rfl) (by kernel_rfl) ?_
                      repeat (go_big_quiet_step ((go_at_call 89; (first | with_reducible exact HS1.out _ | with_reducible exact HS2.out _))))
                      refine wpQuiet_nil ?_
                      rintro w6 ⟨⟨_, K6⟩, rfl⟩
                      have HR9 := Lib.hid (HRl.out.next K6)
                      have HA9 := Lib.hid (HAl.out.next K6)
                      have HF9 := Lib.hid (HFl.out.next K6)
                      have HX9 := Lib.hid (HXl.out.next K6)
                      have HN9 := Lib.hid (show NxTo ps x (k + 1) c from HTK.out (.inr (.inl (by rw [HD.out]; exact HDD.out))))
                      have f0 := (u1 ⟨w6, K6⟩)
                      have f1 := (u2 ⟨w6, K6⟩)
                      simp only at f0 f1
                      obtain ⟨z0, z1⟩ := HX9.out.fr
                      obtain ⟨_, m0, m1⟩ := HX9.out.at
                      replace HR9 := Lib.hid (HR9.out.put HX9.out (.int .i64 c.1) (.int .i64 c.2))
                      replace HA9 := Lib.hid (HA9.out.far HNE2.out (.int .i64 c.1) (.int .i64 c.2))
                      replace HF9 := Lib.hid (HF9.out.far HNE3.out (.int .i64 c.1) (.int .i64 c.2))
                      replace HX9 := Lib.hid (HX9.out.put c)
                      clear u1 u2 u3 u4 u5 u6 K6 HRl HAl HFl HXl HS1 HS2
                      go_wp2
                      go_roundw
                      case rel => exact ⟨k + 1, c, by omega, by congr 1, HN9, HR9, HA9, HF9, HX9⟩
                      case measure => simp [intOf]; omega
                    · subst hd
                      by_cases hs : sq2 x q < sq2 x c
                      · have HSS := Lib.hid hs
                        have b2 : decide (sq2 x c > sq2 x q) = true := decide_eq_true hs
                        clear hs
                        go_wp2_with fail
                        refine wp_region_kept (by kernel_rfl) (by kernel_rfl) ?_
                        repeat (go_big_quiet_step ((go_at_call 89; (first | with_reducible exact HS1.out _ | with_reducible exact HS2.out _))))
                        refine wpQuiet_nil ?_
                        rintro w6 ⟨⟨_, K6⟩, rfl⟩
                        have HR9 := Lib.hid (HRl.out.next K6)
                        have HA9 := Lib.hid (HAl.out.next K6)
                        have HF9 := Lib.hid (HFl.out.next K6)
                        have HX9 := Lib.hid (HXl.out.next K6)
                        have HN9 := Lib.hid (show NxTo ps x (k + 1) c from HTK.out (.inr (.inr ⟨HD.out, HSS.out⟩)))
                        have f0 := (u1 ⟨w6, K6⟩)
                        have f1 := (u2 ⟨w6, K6⟩)
                        simp only at f0 f1
                        obtain ⟨z0, z1⟩ := HX9.out.fr
                        obtain ⟨_, m0, m1⟩ := HX9.out.at
                        replace HR9 := Lib.hid (HR9.out.put HX9.out (.int .i64 c.1) (.int .i64 c.2))
                        replace HA9 := Lib.hid (HA9.out.far HNE2.out (.int .i64 c.1) (.int .i64 c.2))
                        replace HF9 := Lib.hid (HF9.out.far HNE3.out (.int .i64 c.1) (.int .i64 c.2))
                        replace HX9 := Lib.hid (HX9.out.put c)
                        clear u1 u2 u3 u4 u5 u6 K6 HRl HAl HFl HXl HS1 HS2
                        go_wp2
                        go_roundw
                        case rel => exact ⟨k + 1, c, by omega, by congr 1, HN9, HR9, HA9, HF9, HX9⟩
                        case measure => simp [intOf]; omega
                      · have HSS := Lib.hid hs
                        have b2 : decide (sq2 x c > sq2 x q) = false := decide_eq_false hs
                        clear hs
                        go_wp2_with fail
                        refine wp_region_kept (by kernel_rfl) (by kernel_rfl) ?_
                        repeat (go_big_quiet_step ((go_at_call 89; (first | with_reducible exact HS1.out _ | with_reducible exact HS2.out _))))
                        refine wpQuiet_nil ?_
                        rintro w6 ⟨⟨_, K6⟩, rfl⟩
                        have HR9 := Lib.hid (HRl.out.next K6)
                        have HA9 := Lib.hid (HAl.out.next K6)
                        have HF9 := Lib.hid (HFl.out.next K6)
                        have HX9 := Lib.hid (HXl.out.next K6)
                        have HN9 := Lib.hid (show NxTo ps x (k + 1) q from HKP.out (by unfold takes; rw [HD.out]; have h1 := HQX.out; have h2 := HSS.out; rintro (k | k | k); exact h1 k; omega; have := k.2; omega))
                        clear u1 u2 u3 u4 u5 u6 K6 HRl HAl HFl HXl HS1 HS2
                        go_wp2
                        go_roundw
                        case rel => exact ⟨k + 1, q, by omega, by congr 1, HN9, HR9, HA9, HF9, HX9⟩
                        case measure => simp [intOf]; omega
                    · have HDD := Lib.hid hd
                      have b1 : decide (d < 0) = false := decide_eq_false (by omega)
                      have b2 : (d == 0) = false := by simp; omega
                      clear hd
                      go_wp2_with fail
                      refine wp_region_kept (by kernel_rfl) (by kernel_rfl) ?_
                      repeat (go_big_quiet_step ((go_at_call 89; (first | with_reducible exact HS1.out _ | with_reducible exact HS2.out _))))
                      refine wpQuiet_nil ?_
                      rintro w6 ⟨⟨_, K6⟩, rfl⟩
                      have HR9 := Lib.hid (HRl.out.next K6)
                      have HA9 := Lib.hid (HAl.out.next K6)
                      have HF9 := Lib.hid (HFl.out.next K6)
                      have HX9 := Lib.hid (HXl.out.next K6)
                      have HN9 := Lib.hid (show NxTo ps x (k + 1) q from HKP.out (by unfold takes; rw [HD.out]; have h1 := HQX.out; have h2 := HDD.out; rintro (k | k | k); exact h1 k; omega; omega))
                      clear u1 u2 u3 u4 u5 u6 K6 HRl HAl HFl HXl HS1 HS2
                      go_wp2
                      go_roundw
                      case rel => exact ⟨k + 1, q, by omega, by congr 1, HN9, HR9, HA9, HF9, HX9⟩
                      case measure => simp [intOf]; omega
              · have hkl : k = len := by omega
                subst k
                replace HN := Lib.hid (show NxTo ps x ps.length q by rw [← HLE.out]; exact HN.out)
                obtain ⟨_, m0, m1⟩ := HXk.out.at
                obtain ⟨_, m2, m3⟩ := HFk.out.at
                obtain ⟨_, m4, m5⟩ := HAk.out.at
                have g2 : ¬ ((vn : Int) + 1 > 16) := by omega
                by_cases hqf : q = f
                · have hb := eqT8 hqf
                  have HQE := Lib.hid (show q = cor (H ++ [x]) 0 ∨ q = x by rw [HC.out.2]; exact .inl hqf)
                  clear hqf
                  have HWE := Lib.hid (hulV_eq (by rw [← HLE.out]; exact h16) HK.out (walk_end HC.out.1 HN.out (by rw [HC.out.2]; exact HLEAST.out) HQE.out))
                  by_cases h3 : vn + 1 < 3
                  · have g3 : ((vn : Int) + 1 < 3) := by omega
                    have HV := Lib.hid (show ([] : List P2) = hulV ps by rw [← HWE.out, if_pos (by rw [← HVN.out]; exact h3)])
                    have HZ := Lib.hid (Ro.empty HRk.out.bel 34 rfl)
                    clear h3
                    go_wp2
                    go_ret
                    rw [← HV.out]; exact HZ.out.row
                  · have g3 : ¬ ((vn : Int) + 1 < 3) := by omega
                    have HV := Lib.hid (show H ++ [x] = hulV ps by rw [← HWE.out, if_neg (by rw [← HVN.out]; exact h3)])
                    have HZ := Lib.hid (show RowP (hulV ps) w (.returned (.slice (some ⟨g7, 0, none⟩) (vn + 1) cap7)) wr by rw [← HV.out]; have r := HRk.out; rw [← hV.out] at r; exact r.row)
                    clear h3
                    go_wp2
                    go_ret
                    exact HZ.out
                · have hb := eqF8 hqf
                  by_cases hqx : q = x
                  · have hb2 := eqT8 hqx
                    have HQE := Lib.hid (show q = cor (H ++ [x]) 0 ∨ q = x from .inr hqx)
                    clear hqf hqx
                    have HWE := Lib.hid (hulV_eq (by rw [← HLE.out]; exact h16) HK.out (walk_end HC.out.1 HN.out (by rw [HC.out.2]; exact HLEAST.out) HQE.out))
                    by_cases h3 : vn + 1 < 3
                    · have g3 : ((vn : Int) + 1 < 3) := by omega
                      have HV := Lib.hid (show ([] : List P2) = hulV ps by rw [← HWE.out, if_pos (by rw [← HVN.out]; exact h3)])
                      have HZ := Lib.hid (Ro.empty HRk.out.bel 34 rfl)
                      clear h3
                      go_wp2
                      go_ret
                      rw [← HV.out]; exact HZ.out.row
                    · have g3 : ¬ ((vn : Int) + 1 < 3) := by omega
                      have HV := Lib.hid (show H ++ [x] = hulV ps by rw [← HWE.out, if_neg (by rw [← HVN.out]; exact h3)])
                      have HZ := Lib.hid (show RowP (hulV ps) w (.returned (.slice (some ⟨g7, 0, none⟩) (vn + 1) cap7)) wr by rw [← HV.out]; have r := HRk.out; rw [← hV.out] at r; exact r.row)
                      clear h3
                      go_wp2
                      go_ret
                      exact HZ.out
                  · have hb2 := eqF8 hqx
                    have HNX := Lib.hid (show Nxt ps x q by rcases HN.out.done with ⟨e, _⟩ | e; exact absurd e hqx; exact e)
                    have HC2 := Lib.hid (show Chain8 ps ((H ++ [x]) ++ [q]) ∧ cor ((H ++ [x]) ++ [q]) 0 = f from ⟨HC.out.1.go HNX.out (by rw [HC.out.2]; exact hqf), by rw [cor_left (by simp)]; exact HC.out.2⟩)
                    obtain ⟨z0, z1⟩ := HAk.out.fr
                    have HR9 := Lib.hid (HRk.out.put HAk.out (.int .i64 q.1) (.int .i64 q.2))
                    have HF9 := Lib.hid (HFk.out.far HNE.out.symm (.int .i64 q.1) (.int .i64 q.2))
                    have HA9 := Lib.hid (HAk.out.put q)
                    rw [← hV.out] at HR9 HF9 HA9
                    clear hqf hqx HRk HFk HAk HXk
                    go_wp2
                    go_roundw
                    case rel => exact ⟨H ++ [x], q, HC2, HR9, HA9, HF9⟩
                    case measure => simp [slLen]; omega
  · have HV := Lib.hid (show ([] : List P2) = hulV ps from (hulV_out fun k => h16 (by rw [HLE.out]; exact k.1)).symm)
    have g1 : (len : Int) > 16 := by omega
    clear hp h16
    go_enter Tryd.func77, Tryd.ntmps77
    go_wp2
    go_ret
    rw [← HV.out]; exact R0.out.row
end Go.Proofs.YtcifokihellcdaaDoor
