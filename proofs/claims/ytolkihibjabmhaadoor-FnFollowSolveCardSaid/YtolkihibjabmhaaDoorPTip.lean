/- The tip of a chain of links, and the points of an arm: the program's. -/
import Derived.Test.YtolkihibjabmhaaDoorPRow3
import Derived.Test.YtolkihibjabmhaaDoorPRow4
namespace Go.Proofs.YtolkihibjabmhaaDoor
set_option maxRecDepth 100000
open Go.RowKit
attribute [local go_sem ↓] Go.wp_at_zero Go.wp_at_succ
theorem grown_set2 (w : World) (b : Nat) (u v : Value) : w.grownBy ((w.setCell ⟨b, 0, none⟩ u).setCell ⟨b, 1, none⟩ v) (some b) :=
  ⟨rfl, rfl, rfl, by simp [World.setCell], fun k _ hk => (Below.heap_setCell _ _ _ k (by rintro rfl; exact hk rfl)).trans (Below.heap_setCell _ _ _ k (by rintro rfl; exact hk rfl))⟩
set_option maxHeartbeats 2000000 in
theorem tipC (b cap b4 o4 jl jc k : Nat) (ls lo hi js : List Int) (w : World) (ht : TabAt w) (hc : ChainAt w b ls.length ls lo hi) (hl : ∀ i, i < ls.length → 1 ≤ ls.getD i 0 ∧ ls.getD i 0 ≤ 500) (hn : ls.length ≤ 4) (hk : k ≤ ls.length)
    (hd : ∀ i : Nat, i ≤ k → -(180 * (i : Int)) ≤ sumN js i ∧ sumN js i ≤ 180 * (i : Int)) (hj : k ≤ jl) (lt4 : b4 < w.heap.size) (c4 : ∀ i, i < k → w.cell? ⟨b4, o4 + i, none⟩ = some (.int .i64 (js.getD i 0))) :
    Calls Tryd.prog 67 #[.slice (some ⟨b, 0, none⟩) k cap, .slice (some ⟨b4, o4, none⟩) jl jc] w fun e w' => e = .returned (pt (ptX ls js k) (ptY ls js k)) ∧ Below w.heap.size w w' := by
  have HJ := Lib.hid hd
  have HPB := Lib.hid (fun i hi => pt_bd ls js hl i hi)
  have HVB := Lib.hid hl
  have HC4 := Lib.hid c4
  have HC := Lib.hid hc
  have HT := Lib.hid ht
  have R0 := Lib.hid ((OwnP.box w 0 0 35).next (below_box _ (.cells #[.int .i64 0, .int .i64 0] 35)))
  have R1 := OwnP.box (w.alloc (.cells #[.int .i64 0, .int .i64 0] 35)) 0 0 35
  rw [show (w.alloc (.cells #[.int .i64 0, .int .i64 0] 35)).heap.size = w.heap.size + 1 by simp] at R1
  have HR1 := Lib.hid R1
  have HB0 := Lib.hid (below_box2 w (.cells #[.int .i64 0, .int .i64 0] 35) (.cells #[.int .i64 0, .int .i64 0] 35))
  have H1 := Lib.hid (show w.heap.size ≤ w.heap.size + 1 by omega)
  clear hd hl c4 hc ht R1
  generalize hnn : ls.length = n at *
  have HN := Lib.hid hnn
  clear hnn
  go_enter Tryd.func67, Tryd.ntmps67
  go_wp2
  go_loopw [6, 12] (fun d i wr => ∃ m : Nat, m ≤ k ∧ d = .int .i64 (sumN js m) ∧ i = .int .i64 (m : Int) ∧ Hid (OwnP wr (w.heap.size + 1) (ptX ls js m) (ptY ls js m)) ∧ Hid (OwnP wr w.heap.size 0 0) ∧ Hid (Below w.heap.size w wr)) (fun _ i _ => k - (intOf i).toNat)
  case atStart =>
    exact ⟨0, Nat.zero_le _, rfl, rfl, Lib.hid HR1.out, Lib.hid R0.out, Lib.hid HB0.out⟩
  case round =>
    obtain ⟨m, hm, rfl, rfl, HO, HR, HW⟩ := hrel
    clear HB0
    by_cases hlt : m < k
    · obtain ⟨d1, d2, d3⟩ := (HC.out.next HW.out).c m (by omega)
      have d4 : wr.cell? ⟨b4, o4 + m, none⟩ = _ := (HW.out.cell (p := ⟨b4, o4 + m, none⟩) lt4).trans (HC4.out m hlt)
      obtain ⟨l1, l2⟩ := HVB.out m (by omega)
      obtain ⟨s1, s2⟩ := HJ.out m hm
      obtain ⟨s3, s4⟩ := HJ.out (m + 1) (by omega)
      obtain ⟨q1, q2, q3, q4⟩ := HPB.out m (by omega)
      have E1 : sumN js (m + 1) = sumN js m + js.getD m 0 := rfl
      have E2 : ptX ls js (m + 1) = ptX ls js m + rotX (ls.getD m 0) 0 (sumN js (m + 1)) := rfl
      have E3 : ptY ls js (m + 1) = ptY ls js m + rotY (ls.getD m 0) 0 (sumN js (m + 1)) := rfl
      obtain ⟨⟨v1, v2⟩, ⟨v3, v4⟩⟩ := vec_bd (sumN js (m + 1)) l1 l2
      rw [E1] at E2 E3 v1 v2 v3 v4 s3 s4
      have HE1 := Lib.hid E1
      have HE2 := Lib.hid E2
      have HE3 := Lib.hid E3
      clear E1 E2 E3
      generalize sumN js m = sk at *
      generalize js.getD m 0 = jk at *
      generalize ls.getD m 0 = l at *
      generalize lo.getD m 0 = o at *
      generalize hi.getD m 0 = h at *
      generalize ptX ls js m = px at *
      generalize ptY ls js m = py at *
      have Bb := below_box wr (.cells #[.int .i64 l, .int .i64 o, .int .i64 h] 82)
      have HX := Lib.hid (below_call HW.out Bb)
      have HOb := Lib.hid (HO.out.next Bb)
      have HRb := Lib.hid (HR.out.next Bb)
      obtain ⟨x0, x1, x2, x3, _, _, _⟩ := AtA.box wr (.int .i64 l) (.int .i64 o) (.int .i64 h) 82
      have HTb := Lib.hid (HT.out.below HX.out HT.out.lt)
      have d4b : (wr.alloc (.cells #[.int .i64 l, .int .i64 o, .int .i64 h] 82)).cell? ⟨b4, o4 + m, none⟩ = _ := (Bb.cell (p := ⟨b4, o4 + m, none⟩) (Nat.lt_of_lt_of_le lt4 HW.out.size)).trans d4
      have j1 : (0 : Int) ≤ (m : Int) := by omega
      have j2 : (m : Int) < (k : Int) := by omega
      have j3 : (m : Int) < (jl : Int) := by omega
      clear Bb
      go_wp2
      clear d1 d2 d3 d4 d4b
      generalize wr.alloc (.cells #[.int .i64 l, .int .i64 o, .int .i64 h] 82) = wb at *
      have gg : Below wb.heap.size wb wb := Below.refl _ _
      obtain ⟨⟨y0, y1, y2⟩, _, _⟩ := id HOb.out
      go_region_with (first
        | (go_at_call 91
           (with_reducible refine (vectorR l o h (sk + jk) wb _ (by repeat (first | (with_reducible assumption) | (with_reducible apply Below.drew))) HTb.out (by omega) (by omega)).mono ?_)
           rintro e w2 ⟨rfl, K2⟩
           have t1 := (K2.cell (p := ⟨w.heap.size + 1, 0, none⟩) y0).trans y1
           have t2 := (K2.cell (p := ⟨w.heap.size + 1, 1, none⟩) y0).trans y2)
        | (go_at_call 90
           (with_reducible refine (plusR px py (rotX l 0 (sk + jk)) (rotY l 0 (sk + jk)) wb _ (by repeat (first | (with_reducible assumption) | (with_reducible apply Below.drew))) (by omega) (by omega) (by omega) (by omega) (by omega) (by omega) (by omega) (by omega)).mono ?_)
           rintro e w3 ⟨rfl, K3⟩
           obtain ⟨⟨r0, r1, r2⟩, r3, r4⟩ := HOb.out.next K3)
        | fail)
      all_goals
        have HK := Lib.hid K3
        clear K2 K3 r0 r1 r2 r3 r4 t1 t2 y0 y1 y2 x0 x1 x2 x3
        go_wp2
        go_roundw
        case rel => exact ⟨m + 1, by omega, by rw [HE1.out], by congr 1, Lib.hid (by rw [HE2.out, HE3.out]; exact (HOb.out.next HK.out).puts _ _), Lib.hid ((HRb.out.next HK.out).row (row := some (w.heap.size + 1)) (grown_set2 _ _ _ _) (by simp)), Lib.hid (below_set (below_call HX.out HK.out) H1.out _ _)⟩
        case measure => simp [intOf]; omega
    · obtain rfl : m = k := by omega
      obtain ⟨⟨_, y1, y2⟩, _, _⟩ := id HO.out
      obtain ⟨⟨_, z1, z2⟩, z3, z4⟩ := id HR.out
      go_wp2
      exact bodyPost_ret (v := pt (ptX ls js m) (ptY ls js m)) (by simp [results, Tryd.results67, go_sem, z1, z2]) rfl ⟨rfl, below_set HW.out (Nat.le_refl _) _ _⟩
theorem made_pts0 (f : Nat → Int) (n : Nat) : (madeCells (pt 0 0).cells (n * 2)).toList = cpart f (fun _ => 0) (n * 2) (0 * 2) := by
  rw [made_pts (fun _ => 0) n rfl rfl]
  exact cpart_congr _ _ _ _ _ _ _ fun i _ => by simp
set_option maxHeartbeats 2000000 in
theorem pointsC (b cap : Nat) (j : Sl) (ls lo hi js : List Int) (w : World) (ht : TabAt w) (hc : ChainAt w b ls.length ls lo hi) (hok : okJoints ls lo hi js) (hj : IntsAt w j.a j.len js) (hcap : ls.length ≤ cap) :
    Calls Tryd.prog 58 #[.slice (some ⟨b, 0, none⟩) ls.length cap, .slice j.a j.len j.cap] w fun e w' => ∃ v, e = .returned v ∧ OwnPt w' w.heap.size v (ptsL ls js) ∧ Below w.heap.size w w' := by
  obtain ⟨i0, hi0, hz0, hz1, hz2⟩ := info_parts infoPoint
  obtain ⟨ja, jl, jc⟩ := j
  simp only at *
  have m4 := hj.1
  have n1 := hok.1.1
  have n2 := hok.1.2.1
  have e4 := hok.2.1
  have HJ := Lib.hid (fun k hk => dir_bd hok k hk)
  have HVB := Lib.hid (len_bd hok.1)
  have HM := Lib.hid (made_pts0 (cz (ptsL ls js)) (ls.length + 1))
  have HZ := Lib.hid (fun k (hk : k ≤ ls.length) => And.intro ((cz0 (ptsL ls js) k).trans (by rw [ptsL_at ls js k hk])) ((cz1 (ptsL ls js) k).trans (by rw [ptsL_at ls js k hk])))
  have HPS := Lib.hid (fun m => cpart_set (cz (ptsL ls js)) (fun _ => 0) ((ls.length + 1) * 2) m)
  have HFIN := Lib.hid (show cpart (cz (ptsL ls js)) (fun _ => 0) ((ls.length + 1) * 2) ((ls.length + 1) * 2) = pvals (ptsL ls js) by have h := pvals_cpart (ptsL ls js) (fun _ => 0); rw [ptsL_len] at h; exact h.symm)
  have HLEN := Lib.hid (ptsL_len ls js)
  obtain ⟨b4, o4, rfl, lt4, c4⟩ := hj.some (by omega)
  have HC4 := Lib.hid c4
  have HC := Lib.hid hc
  have HT := Lib.hid ht
  have HTIP := Lib.hid (fun (k : Nat) (hk : k ≤ ls.length) (u : World) (hu : Below w.heap.size w u) => tipC b cap b4 o4 ls.length jc k ls lo hi js u (HT.out.below hu HT.out.lt) (HC.out.next hu) HVB.out n2 hk (fun i hi => HJ.out i (by omega)) hk (Nat.lt_of_lt_of_le lt4 hu.size) (fun i hi => (hu.cell (p := ⟨b4, o4 + i, none⟩) lt4).trans (HC4.out i (by omega))))
  obtain rfl : jl = ls.length := by omega
  generalize ls.length = n at *
  clear m4 e4 hok hc hj ht c4 HJ HVB HC4 HC HT
  go_enter Tryd.func58, Tryd.ntmps58
  go_wp2_with (first
    | (at_make; refine wpList_make_full _ rfl _ _ 28 rfl w.heap.size 35 i0 (pt 0 0) 2 Tryd.underlying28 hi0 hz0 hz1 .i64 .i64 _ _ (n + 1) rfl rfl (by omega) (by omega) (by rw [hz2]; omega) (by unfold maxLen; omega) (Nat.le_refl _) ?_; intro w1 own1 grow1))
  have own2 : w1.ownsRow w.heap.size 35 2 (.slice (some ⟨w.heap.size, 0, none⟩) (n + 1) (n + 1)) (n + 1) (cpart (cz (ptsL ls js)) (fun _ => 0) ((n + 1) * 2) (0 * 2)) := by rw [← HM.out]; exact own1
  have HG : Below w.heap.size w w1 := (Below.refl _ _).grown grow1 (Nat.le_refl _) (fun k hk => by cases hk)
  clear own1 grow1
  go_loopw [13] (fun i wr => ∃ k : Nat, k ≤ n + 1 ∧ i = .int .i64 (k : Int) ∧ Hid (wr.ownsRow w.heap.size 35 2 (.slice (some ⟨w.heap.size, 0, none⟩) (n + 1) (n + 1)) (n + 1) (cpart (cz (ptsL ls js)) (fun _ => 0) ((n + 1) * 2) (k * 2))) ∧ Hid (Below w.heap.size w wr)) (fun i _ => n + 1 - (intOf i).toNat)
  case atStart => exact ⟨0, Nat.zero_le _, rfl, Lib.hid own2, Lib.hid HG⟩
  case round =>
    obtain ⟨k, hk, rfl, HO, HW⟩ := hrel
    clear own2 HG
    by_cases hlt : k < n + 1
    · have j1 : (0 : Int) ≤ (k : Int) := by omega
      have j2 : (k : Int) < ((n + 1 : Nat) : Int) := by omega
      have j3 : (k : Int) ≤ (cap : Int) := by omega
      have j4 : (k : Int) < (n : Int) + 1 := by omega
      have Z := HZ.out k (by omega)
      go_wp2_with fail
      refine (HTIP.out k (by omega) _ HW.out).mono ?_
      rintro e w2 ⟨rfl, K2⟩
      have HO2 := Lib.hid (World.ownsRow.kept (row := none) HO.out ⟨K2.os, K2.tape, K2.output, K2.size, fun k hk _ => K2.block k hk⟩ (.inr (by simp [Value.ownBlock])))
      have r1 := HO2.out.cellAt (k * 2) (by omega)
      rw [cpart_at _ _ _ _ _ (by omega)] at r1
      have r2 := HO2.out.frozenAt (k * 2)
      have r3 := HO2.out.cellAt (k * 2 + 1) (by omega)
      rw [cpart_at _ _ _ _ _ (by omega)] at r3
      have r4 := HO2.out.frozenAt (k * 2 + 1)
      have s5 := HO2.out.stored (k * 2) (.int .i64 (cz (ptsL ls js) (k * 2)))
      have s6 := s5.1.stored (k * 2 + 1) (.int .i64 (cz (ptsL ls js) (k * 2 + 1)))
      have HS := Lib.hid (And.intro s6.1 (s5.2.trans s6.2))
      rw [HPS.out, HPS.out, Z.1, Z.2] at HS
      have HW2 := Lib.hid (below_call HW.out K2)
      clear s5 s6 K2 Z
      go_wp2
      go_roundw
      case rel => exact ⟨k + 1, by omega, by congr 1, Lib.hid (by rw [show (k + 1) * 2 = k * 2 + 1 + 1 by omega]; exact HS.out.1), Lib.hid (HW2.out.grown HS.out.2 HW2.out.size (fun q hq => by injection hq with hq; omega))⟩
      case measure => simp [intOf]; omega
    · obtain rfl : k = n + 1 := by omega
      go_wp2
      go_ret
      refine ⟨_, rfl, ?_, HW.out⟩
      unfold OwnPt
      rw [← HFIN.out, HLEN.out]
      exact HO.out
end Go.Proofs.YtolkihibjabmhaaDoor
