/- The program's links: what making them does. -/
import Derived.Test.YtolkihibjabmhaaDoorChain
import Derived.Outline
namespace Go.Proofs.YtolkihibjabmhaaDoor
set_option maxRecDepth 100000
open Go.RowKit
attribute [local go_sem ↓] Go.wp_at_zero Go.wp_at_succ
set_option maxHeartbeats 1000000 in
theorem chainOfLoop (x y z : Sl) (n : Nat) (ls lo hi : List Int) (w : World) (hx : IntsAt w x.a x.len ls) (hy : IntsAt w y.a y.len lo) (hz : IntsAt w z.a z.len hi) (n1 : 1 ≤ n) (n2 : n ≤ 4) (m1 : x.len = n) (m2 : y.len = n) (m3 : z.len = n) :
    Calls Tryd.prog 56 #[av x y z] w (Chained ls lo hi w) := by
  obtain ⟨i0, hi0, hz0, hz1, hz2⟩ := info_parts infoLink
  obtain ⟨xa, xl, xc⟩ := x
  obtain ⟨ya, yl, yc⟩ := y
  obtain ⟨za, zl, zc⟩ := z
  simp only at *
  obtain rfl : n = xl := m1.symm
  obtain rfl : n = yl := m2.symm
  obtain rfl : n = zl := m3.symm
  clear m1 m2 m3
  have HL1 := Lib.hid hx.1
  have HL2 := Lib.hid hy.1
  have HL3 := Lib.hid hz.1
  obtain ⟨b1, o1, rfl, lt1, c1⟩ := hx.some n1
  obtain ⟨b2, o2, rfl, lt2, c2⟩ := hy.some n1
  obtain ⟨b3, o3, rfl, lt3, c3⟩ := hz.some n1
  have C1 := Lib.hid c1
  have C2 := Lib.hid c2
  have C3 := Lib.hid c3
  have HB := Lib.hid (below_box w (.cells #[.slice (some ⟨b1, o1, none⟩) n xc, .slice (some ⟨b2, o2, none⟩) n yc, .slice (some ⟨b3, o3, none⟩) n zc] 25))
  have P := AtA.box w (.slice (some ⟨b1, o1, none⟩) n xc) (.slice (some ⟨b2, o2, none⟩) n yc) (.slice (some ⟨b3, o3, none⟩) n zc) 25
  have HM := Lib.hid (lpart_made ls lo hi n)
  have e1 : ((n : Int) != (n : Int)) = false := by simp
  clear hx hy hz c1 c2 c3
  go_enter Tryd.func56, Tryd.ntmps56
  go_wp2_with (first
    | (at_make; refine wpList_make_full _ rfl _ _ 72 rfl (w.heap.size + 1) 82 i0 (lk 0 0 0) 3 Tryd.underlying72 hi0 hz0 hz1 .i64 .i64 _ _ n rfl rfl rfl rfl (by rw [hz2]; omega) (by unfold maxLen; omega) (by simp) ?_; intro w1 own1 grow1))
  have own2 : w1.ownsRow (w.heap.size + 1) 82 3 (.slice (some ⟨w.heap.size + 1, 0, none⟩) n n) n (lpart ls lo hi n 0) := by rw [← HM.out]; simpa using own1
  have HG : Below w.heap.size w w1 := HB.out.grown grow1 HB.out.size (fun k hk => by cases hk)
  have P1 := P.kept grow1 (by simp)
  clear own1 grow1 HM P HB
  go_loopw [33] (fun i wr => ∃ k : Nat, k ≤ n ∧ i = .int .i64 (k : Int) ∧ Hid (∀ j, j < k → okLink (ls.getD j 0) (lo.getD j 0) (hi.getD j 0)) ∧ Hid (wr.ownsRow (w.heap.size + 1) 82 3 (.slice (some ⟨w.heap.size + 1, 0, none⟩) n n) n (lpart ls lo hi n k)) ∧ Hid (Below w.heap.size w wr) ∧ Hid (AtA wr w.heap.size (.slice (some ⟨b1, o1, none⟩) n xc) (.slice (some ⟨b2, o2, none⟩) n yc) (.slice (some ⟨b3, o3, none⟩) n zc))) (fun i _ => n - (intOf i).toNat)
  case atStart => exact ⟨0, Nat.zero_le _, rfl, Lib.hid (fun j hj => absurd hj (by omega)), Lib.hid own2, Lib.hid HG, Lib.hid P1⟩
  case round =>
    obtain ⟨k, hk, rfl, HJ, HO, HW, HP⟩ := hrel
    clear own2 HG P1
    by_cases hlt : k < n
    · obtain ⟨_, d1, d2, d3, _, _, _⟩ := HP.out
      have d4 : wr.cell? ⟨b1, o1 + k, none⟩ = _ := (HW.out.cell (p := ⟨b1, o1 + k, none⟩) lt1).trans (C1.out k hlt)
      have d5 : wr.cell? ⟨b2, o2 + k, none⟩ = _ := (HW.out.cell (p := ⟨b2, o2 + k, none⟩) lt2).trans (C2.out k hlt)
      have d6 : wr.cell? ⟨b3, o3 + k, none⟩ = _ := (HW.out.cell (p := ⟨b3, o3 + k, none⟩) lt3).trans (C3.out k hlt)
      have j1 : (0 : Int) ≤ (k : Int) := by omega
      have j2 : (k : Int) < (n : Int) := by omega
      have HX := Lib.hid (fun (hok : okLink (ls.getD k 0) (lo.getD k 0) (hi.getD k 0)) j (hj : j < k + 1) => show okLink (ls.getD j 0) (lo.getD j 0) (hi.getD j 0) from if hjk : j < k then HJ.out j hjk else by rw [show j = k by omega]; exact hok)
      generalize hl : ls.getD k 0 = l at *
      generalize ho : lo.getD k 0 = o at *
      generalize hh : hi.getD k 0 = h at *
      replace hl := Lib.hid hl
      replace ho := Lib.hid ho
      replace hh := Lib.hid hh
      have g0 := HO.out.cellAt (k * 3) (by omega)
      have g1 := HO.out.cellAt (k * 3 + 1) (by omega)
      have g2 := HO.out.cellAt (k * 3 + 2) (by omega)
      rw [lpart_at ls lo hi n k _ (by omega)] at g0 g1 g2
      have f0 := HO.out.frozenAt (k * 3)
      have f1 := HO.out.frozenAt (k * 3 + 1)
      have f2 := HO.out.frozenAt (k * 3 + 2)
      have nb : w.heap.size + 1 ≠ w.heap.size := by omega
      have nc : w.heap.size ≤ w.heap.size + 1 := by omega
      have s1 := HO.out.stored (k * 3) (.int .i64 l)
      have s2 := s1.1.stored (k * 3 + 1) (.int .i64 o)
      have s3 := s2.1.stored (k * 3 + 2) (.int .i64 h)
      have HO3 := Lib.hid s3.1.drew
      have HP3 := Lib.hid ((((HP.out.far (o := k * 3) nb (.int .i64 l)).far (o := k * 3 + 1) nb (.int .i64 o)).far (o := k * 3 + 2) nb (.int .i64 h)).next (below_drew' _))
      have HW3 := Lib.hid ((((HW.out.setCell (p := ⟨w.heap.size + 1, k * 3, none⟩) nc (.int .i64 l)).setCell (p := ⟨w.heap.size + 1, k * 3 + 1, none⟩) nc (.int .i64 o)).setCell (p := ⟨w.heap.size + 1, k * 3 + 2, none⟩) nc (.int .i64 h)).drew)
      have E4 := Lib.hid ((C1.out k hlt).trans (by rw [hl.out]))
      have E5 := Lib.hid ((C2.out k hlt).trans (by rw [ho.out]))
      have E6 := Lib.hid ((C3.out k hlt).trans (by rw [hh.out]))
      rw [← hl.out, ← ho.out, ← hh.out, lpart_set, hl.out, ho.out, hh.out] at HO3
      clear s1 s2 s3 HO HP HW
      go_wp2
      go_region_held3 (fun u => u.cell? ⟨w.heap.size, 0, none⟩ = some (.slice (some ⟨b1, o1, none⟩) n xc) ∧ u.cell? ⟨w.heap.size, 1, none⟩ = some (.slice (some ⟨b2, o2, none⟩) n yc) ∧ u.cell? ⟨w.heap.size, 2, none⟩ = some (.slice (some ⟨b3, o3, none⟩) n zc) ∧ u.cell? ⟨b1, o1 + k, none⟩ = some (.int .i64 l) ∧ u.cell? ⟨b2, o2 + k, none⟩ = some (.int .i64 o) ∧ u.cell? ⟨b3, o3 + k, none⟩ = some (.int .i64 h)) (first | exact ⟨d1, d2, d3, d4, d5, d6⟩ | exact ⟨HP3.out.c0, HP3.out.c1, HP3.out.c2, (HW3.out.cell (p := ⟨b1, o1 + k, none⟩) lt1).trans E4.out, (HW3.out.cell (p := ⟨b2, o2 + k, none⟩) lt2).trans E5.out, (HW3.out.cell (p := ⟨b3, o3 + k, none⟩) lt3).trans E6.out⟩) (fail)
      generalize (((wr.setCell ⟨w.heap.size + 1, k * 3, none⟩ (.int .i64 l)).setCell ⟨w.heap.size + 1, k * 3 + 1, none⟩ (.int .i64 o)).setCell ⟨w.heap.size + 1, k * 3 + 2, none⟩ (.int .i64 h)).drew = wu at *
      have v0 := HO3.out.cellAt (k * 3) (by omega)
      have v1 := HO3.out.cellAt (k * 3 + 1) (by omega)
      have v2 := HO3.out.cellAt (k * 3 + 2) (by omega)
      rw [lpart_at ls lo hi n (k + 1) _ (by omega), if_pos (by omega)] at v0 v1 v2
      rw [show k * 3 / 3 = k by omega, show k * 3 % 3 = 0 by omega, show fld ls lo hi k 0 = l from hl.out] at v0
      rw [show (k * 3 + 1) / 3 = k by omega, show (k * 3 + 1) % 3 = 1 by omega, show fld ls lo hi k 1 = o from ho.out] at v1
      rw [show (k * 3 + 2) / 3 = k by omega, show (k * 3 + 2) % 3 = 2 by omega, show fld ls lo hi k 2 = h from hh.out] at v2
      clear g0 g1 g2 f0 f1 f2 d1 d2 d3 d4 d5 d6
      by_cases hok : okLink l o h
      · go_wp2_with fail
        refine (linkValidY l o h _ hok).mono ?_
        rintro e w2 ⟨rfl, B2⟩
        have HO4 := Lib.hid (World.ownsRow.kept (row := none) HO3.out ⟨B2.os, B2.tape, B2.output, B2.size, fun k hk _ => B2.block k hk⟩ (.inr (by simp [Value.ownBlock])))
        have HW4 := Lib.hid (below_call HW3.out B2)
        have HP4 := Lib.hid (HP3.out.next B2)
        clear HO3 HW3 HP3 B2 v0 v1 v2
        go_wp2
        go_roundw
        case rel => exact ⟨k + 1, by omega, by congr 1, Lib.hid (HX.out hok), HO4, HW4, HP4⟩
        case measure => simp [intOf]; omega
      · have HK := Lib.hid hok
        clear hok
        go_wp2_with fail
        refine (linkValidN l o h _ HK.out).mono ?_
        rintro e w2 ⟨rfl, B2⟩
        have HW4 := Lib.hid (below_call HW3.out B2)
        have HN := Lib.hid (show ¬ okArm ls lo hi from fun hA => HK.out (by have := hA.2.2.2.2 k (by rw [← HL1.out]; exact hlt); rw [hl.out, ho.out, hh.out] at this; exact this))
        clear HO3 HW3 HP3 B2 v0 v1 v2
        go_wp2
        go_ret
        exact ⟨HW4.out, .inr ⟨HN.out, rfl⟩⟩
    · obtain rfl : k = n := by omega
      have HE := Lib.hid (show okArm ls lo hi from ⟨by rw [← HL1.out]; exact n1, by rw [← HL1.out]; exact n2, by rw [← HL1.out, ← HL2.out], by rw [← HL1.out, ← HL3.out], fun j hj => HJ.out j (by rw [HL1.out]; exact hj)⟩)
      go_wp2
      go_ret
      refine ⟨HW.out, .inl ⟨HE.out, w.heap.size + 1, ?_, Nat.le_succ _, ?_⟩⟩
      · show Ending.returned (.slice (some ⟨w.heap.size + 1, 0, none⟩) k k) = _
        rw [← HL1.out]
      · rw [← HL1.out]; exact chainAt_of HO.out
theorem chainOf (x y z : Sl) (ls lo hi : List Int) (w : World) (hx : IntsAt w x.a x.len ls) (hy : IntsAt w y.a y.len lo) (hz : IntsAt w z.a z.len hi) (bx : x.len ≤ 9223372036854775807) (b_y : y.len ≤ 9223372036854775807) (bz : z.len ≤ 9223372036854775807) :
    Calls Tryd.prog 56 #[av x y z] w (Chained ls lo hi w) := by
  have m1 := hx.1
  have m2 := hy.1
  have m3 := hz.1
  by_cases n1 : 1 ≤ x.len ∧ x.len ≤ 4
  · by_cases n3 : y.len = x.len
    · by_cases n4 : z.len = x.len
      · exact chainOfLoop x y z x.len ls lo hi w hx hy hz n1.1 n1.2 rfl n3 n4
      · have HN := Lib.hid (show ¬ okArm ls lo hi from fun hA => n4 (by rw [m3, m1]; exact hA.2.2.2.1))
        obtain ⟨xa, xl, xc⟩ := x
        obtain ⟨ya, yl, yc⟩ := y
        obtain ⟨za, zl, zc⟩ := z
        simp only at *
        obtain ⟨n1, n2⟩ := n1
        obtain rfl : xl = yl := n3.symm
        have e1 : ((xl : Int) != (xl : Int)) = false := by simp
        have e2 : ((zl : Int) != (xl : Int)) = true := by simp; omega
        clear m1 m2 m3 hx hy hz n3 n4
        go_enter Tryd.func56, Tryd.ntmps56
        go_wp2
        go_ret
        exact ⟨below_box _ _, .inr ⟨HN.out, rfl⟩⟩
    · have HN := Lib.hid (show ¬ okArm ls lo hi from fun hA => n3 (by rw [m2, m1]; exact hA.2.2.1))
      obtain ⟨xa, xl, xc⟩ := x
      obtain ⟨ya, yl, yc⟩ := y
      obtain ⟨za, zl, zc⟩ := z
      simp only at *
      obtain ⟨n1, n2⟩ := n1
      have e2 : ((yl : Int) != (xl : Int)) = true := by simp; omega
      clear m1 m2 m3 hx hy hz n3
      go_enter Tryd.func56, Tryd.ntmps56
      go_wp2
      go_ret
      exact ⟨below_box _ _, .inr ⟨HN.out, rfl⟩⟩
  · have HN := Lib.hid (show ¬ okArm ls lo hi from fun hA => n1 (by rw [m1]; exact ⟨hA.1, hA.2.1⟩))
    obtain ⟨xa, xl, xc⟩ := x
    obtain ⟨ya, yl, yc⟩ := y
    obtain ⟨za, zl, zc⟩ := z
    simp only at *
    have HH := Lib.hid n1
    clear m1 m2 m3 hx hy hz n1
    by_cases c1 : (xl : Int) < 1
    · clear HH
      go_enter Tryd.func56, Tryd.ntmps56
      go_wp2
      go_ret
      exact ⟨below_box _ _, .inr ⟨HN.out, rfl⟩⟩
    · have c2 : (4 : Int) < (xl : Int) := by have := HH.out; omega
      clear HH
      go_enter Tryd.func56, Tryd.ntmps56
      go_wp2
      go_ret
      exact ⟨below_box _ _, .inr ⟨HN.out, rfl⟩⟩
end Go.Proofs.YtolkihibjabmhaaDoor
