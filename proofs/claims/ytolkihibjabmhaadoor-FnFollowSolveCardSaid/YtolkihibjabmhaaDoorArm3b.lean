/- Valid angles: the contract of the document's JointsValid. -/
import Derived.Test.YtolkihibjabmhaaDoorArm3
namespace Go.Proofs.YtolkihibjabmhaaDoor
set_option maxRecDepth 100000
open Go.RowKit
attribute [local go_sem ↓] Go.wp_at_zero Go.wp_at_succ
/-- Valid angles of an arm. -/
def okJoints (ls lo hi js : List Int) : Prop := okArm ls lo hi ∧ js.length = ls.length ∧ ∀ k, k < js.length → lo.getD k 0 ≤ js.getD k 0 ∧ js.getD k 0 ≤ hi.getD k 0
instance (ls lo hi js : List Int) : Decidable (okJoints ls lo hi js) := by unfold okJoints; infer_instance
set_option maxHeartbeats 1000000 in
theorem specJointsValidY (x y z j : Sl) (ls lo hi js : List Int) (w : World) (hx : IntsAt w x.a x.len ls) (hy : IntsAt w y.a y.len lo) (hz : IntsAt w z.a z.len hi) (hj : IntsAt w j.a j.len js) (hv : okJoints ls lo hi js) :
    Calls Tryd.prog 19 #[av x y z, .slice j.a j.len j.cap] w fun e w' => e = .returned (.bool true) ∧ Below w.heap.size w w' := by
  obtain ⟨xa, xl, xc⟩ := x
  obtain ⟨ya, yl, yc⟩ := y
  obtain ⟨za, zl, zc⟩ := z
  obtain ⟨ja, jl, jc⟩ := j
  simp only at *
  obtain ⟨hok, hl, hk⟩ := hv
  have m4 := hj.1
  have HK := Lib.hid (fun k (h : k < jl) => hk k (by omega))
  obtain ⟨n1, n2, n3, n4, n5⟩ := id hok
  have m1 := hx.1
  have m2 := hy.1
  have m3 := hz.1
  obtain rfl : xl = jl := by omega
  obtain rfl : yl = xl := by omega
  obtain rfl : zl = yl := by omega
  obtain ⟨b1, o1, rfl, lt1, c1⟩ := hx.some (by omega)
  obtain ⟨b2, o2, rfl, lt2, c2⟩ := hy.some (by omega)
  obtain ⟨b3, o3, rfl, lt3, c3⟩ := hz.some (by omega)
  obtain ⟨b4, o4, rfl, lt4, c4⟩ := hj.some (by omega)
  have HB := Lib.hid (below_box w (.cells #[.slice (some ⟨b1, o1, none⟩) zl xc, .slice (some ⟨b2, o2, none⟩) zl yc, .slice (some ⟨b3, o3, none⟩) zl zc] 25))
  have P := AtA.box w (.slice (some ⟨b1, o1, none⟩) zl xc) (.slice (some ⟨b2, o2, none⟩) zl yc) (.slice (some ⟨b3, o3, none⟩) zl zc) 25
  have e1 : ((zl : Int) != (zl : Int)) = false := by simp
  have z4 : zl ≤ 4 := by omega
  clear m1 m2 m3 m4 hl hk n1 n2 n3 n4 n5 c1
  go_enter Tryd.func19, Tryd.ntmps19
  go_wp2_with fail
  refine (specArmValidY ⟨some ⟨b1, o1, none⟩, zl, xc⟩ ⟨some ⟨b2, o2, none⟩, zl, yc⟩ ⟨some ⟨b3, o3, none⟩, zl, zc⟩ ls lo hi _ (hx.next HB.out) (hy.next HB.out) (hz.next HB.out) hok).mono ?_
  rintro e w1 ⟨rfl, B1⟩
  have sz := B1.size
  have sz0 := HB.out.size
  have P1 := P.next B1
  have C1 := Lib.hid (fun i hi => (B1.cell (p := ⟨b4, o4 + i, none⟩) (Nat.lt_of_lt_of_le lt4 sz0)).trans ((HB.out.cell (p := ⟨b4, o4 + i, none⟩) lt4).trans (c4 i hi)))
  have C2 := Lib.hid (fun i hi => (B1.cell (p := ⟨b2, o2 + i, none⟩) (Nat.lt_of_lt_of_le lt2 sz0)).trans ((HB.out.cell (p := ⟨b2, o2 + i, none⟩) lt2).trans (c2 i hi)))
  have C3 := Lib.hid (fun i hi => (B1.cell (p := ⟨b3, o3 + i, none⟩) (Nat.lt_of_lt_of_le lt3 sz0)).trans ((HB.out.cell (p := ⟨b3, o3 + i, none⟩) lt3).trans (c3 i hi)))
  replace HB := Lib.hid (below_call HB.out B1)
  obtain ⟨_, d1, d2, d3, _, _, _⟩ := id P1
  have sz1 : w.heap.size ≤ w1.heap.size := HB.out.size
  clear c2 c3 c4 P B1 hx hy hz hj
  go_wp2
  clear d1 d2 d3
  go_loopw [5] (fun i wr => ∃ k : Nat, k ≤ zl ∧ i = .int .i64 (k : Int) ∧ Hid (Below w1.heap.size w1 wr)) (fun i _ => zl - (intOf i).toNat)
  case atStart => exact ⟨0, Nat.zero_le _, rfl, Lib.hid (Below.refl _ _)⟩
  case round =>
    obtain ⟨k, hk, rfl, HW⟩ := hrel
    by_cases hlt : k < zl
    · have Pk := P1.next HW.out
      obtain ⟨_, d1, d2, d3, _, _, _⟩ := id Pk
      have d4 : wr.cell? ⟨b4, o4 + k, none⟩ = _ := (HW.out.cell (p := ⟨b4, o4 + k, none⟩) (Nat.lt_of_lt_of_le lt4 sz1)).trans (C1.out k hlt)
      have d5 : wr.cell? ⟨b2, o2 + k, none⟩ = _ := (HW.out.cell (p := ⟨b2, o2 + k, none⟩) (Nat.lt_of_lt_of_le lt2 sz1)).trans (C2.out k hlt)
      have d6 : wr.cell? ⟨b3, o3 + k, none⟩ = _ := (HW.out.cell (p := ⟨b3, o3 + k, none⟩) (Nat.lt_of_lt_of_le lt3 sz1)).trans (C3.out k hlt)
      have i0 : (0 : Int) ≤ (k : Int) := by omega
      have i1 : (k : Int) < (zl : Int) := by omega
      have hok := HK.out k hlt
      generalize js.getD k 0 = d at *
      generalize lo.getD k 0 = o at *
      generalize hi.getD k 0 = h at *
      obtain ⟨k1, k2⟩ := hok
      go_wp2
      go_quiet ((go_at_call_of 61 d; exact Calls.quiet_of_same (sameOf (l1In_yes d o h _ (by omega) (by omega)))))
      go_wp2
      go_roundw
      case rel => exact ⟨k + 1, by omega, by congr 1, Lib.hid (below_drewN HW.out _)⟩
      case measure => simp [intOf]; omega
    · obtain rfl : k = zl := by omega
      go_wp2
      go_ret
      exact ⟨rfl, below_call HB.out HW.out⟩
set_option maxHeartbeats 1000000 in
theorem specJointsValidN (x y z j : Sl) (ls lo hi js : List Int) (w : World) (hx : IntsAt w x.a x.len ls) (hy : IntsAt w y.a y.len lo) (hz : IntsAt w z.a z.len hi) (hj : IntsAt w j.a j.len js) (hv : ¬ okJoints ls lo hi js) (bx : x.len ≤ 9223372036854775807) (b_y : y.len ≤ 9223372036854775807) (bz : z.len ≤ 9223372036854775807) (bj : j.len ≤ 9223372036854775807) :
    Calls Tryd.prog 19 #[av x y z, .slice j.a j.len j.cap] w fun e w' => e = .returned (.bool false) ∧ Below w.heap.size w w' := by
  obtain ⟨xa, xl, xc⟩ := x
  obtain ⟨ya, yl, yc⟩ := y
  obtain ⟨za, zl, zc⟩ := z
  obtain ⟨ja, jl, jc⟩ := j
  simp only at *
  have m4 := hj.1
  by_cases hok : okArm ls lo hi
  · by_cases hl : js.length = ls.length
    · have HNo := Lib.hid (fun (h : ∀ k, k < jl → lo.getD k 0 ≤ js.getD k 0 ∧ js.getD k 0 ≤ hi.getD k 0) => hv ⟨hok, hl, fun k hk => h k (by omega)⟩)
      obtain ⟨n1, n2, n3, n4, n5⟩ := id hok
      have m1 := hx.1
      have m2 := hy.1
      have m3 := hz.1
      obtain rfl : xl = jl := by omega
      obtain rfl : yl = xl := by omega
      obtain rfl : zl = yl := by omega
      obtain ⟨b1, o1, rfl, lt1, c1⟩ := hx.some (by omega)
      obtain ⟨b2, o2, rfl, lt2, c2⟩ := hy.some (by omega)
      obtain ⟨b3, o3, rfl, lt3, c3⟩ := hz.some (by omega)
      obtain ⟨b4, o4, rfl, lt4, c4⟩ := hj.some (by omega)
      have HB := Lib.hid (below_box w (.cells #[.slice (some ⟨b1, o1, none⟩) zl xc, .slice (some ⟨b2, o2, none⟩) zl yc, .slice (some ⟨b3, o3, none⟩) zl zc] 25))
      have P := AtA.box w (.slice (some ⟨b1, o1, none⟩) zl xc) (.slice (some ⟨b2, o2, none⟩) zl yc) (.slice (some ⟨b3, o3, none⟩) zl zc) 25
      have e1 : ((zl : Int) != (zl : Int)) = false := by simp
      have z4 : zl ≤ 4 := by omega
      clear m1 m2 m3 m4 hl hv bx b_y bz bj n1 n2 n3 n4 n5 c1
      go_enter Tryd.func19, Tryd.ntmps19
      go_wp2_with fail
      refine (specArmValidY ⟨some ⟨b1, o1, none⟩, zl, xc⟩ ⟨some ⟨b2, o2, none⟩, zl, yc⟩ ⟨some ⟨b3, o3, none⟩, zl, zc⟩ ls lo hi _ (hx.next HB.out) (hy.next HB.out) (hz.next HB.out) hok).mono ?_
      rintro e w1 ⟨rfl, B1⟩
      have sz := B1.size
      have sz0 := HB.out.size
      have P1 := P.next B1
      have C1 := Lib.hid (fun i hi => (B1.cell (p := ⟨b4, o4 + i, none⟩) (Nat.lt_of_lt_of_le lt4 sz0)).trans ((HB.out.cell (p := ⟨b4, o4 + i, none⟩) lt4).trans (c4 i hi)))
      have C2 := Lib.hid (fun i hi => (B1.cell (p := ⟨b2, o2 + i, none⟩) (Nat.lt_of_lt_of_le lt2 sz0)).trans ((HB.out.cell (p := ⟨b2, o2 + i, none⟩) lt2).trans (c2 i hi)))
      have C3 := Lib.hid (fun i hi => (B1.cell (p := ⟨b3, o3 + i, none⟩) (Nat.lt_of_lt_of_le lt3 sz0)).trans ((HB.out.cell (p := ⟨b3, o3 + i, none⟩) lt3).trans (c3 i hi)))
      replace HB := Lib.hid (below_call HB.out B1)
      obtain ⟨_, d1, d2, d3, _, _, _⟩ := id P1
      have sz1 : w.heap.size ≤ w1.heap.size := HB.out.size
      clear c2 c3 c4 P B1 hx hy hz hj
      go_wp2
      clear d1 d2 d3
      go_loopw [5] (fun i wr => ∃ k : Nat, k ≤ zl ∧ i = .int .i64 (k : Int) ∧ Hid (∀ j, j < k → lo.getD j 0 ≤ js.getD j 0 ∧ js.getD j 0 ≤ hi.getD j 0) ∧ Hid (Below w1.heap.size w1 wr)) (fun i _ => zl - (intOf i).toNat)
      case atStart => exact ⟨0, Nat.zero_le _, rfl, Lib.hid (fun j hj => absurd hj (by omega)), Lib.hid (Below.refl _ _)⟩
      case round =>
        obtain ⟨k, hk, rfl, HJ, HW⟩ := hrel
        by_cases hlt : k < zl
        · have Pk := P1.next HW.out
          obtain ⟨_, d1, d2, d3, _, _, _⟩ := id Pk
          have d4 : wr.cell? ⟨b4, o4 + k, none⟩ = _ := (HW.out.cell (p := ⟨b4, o4 + k, none⟩) (Nat.lt_of_lt_of_le lt4 sz1)).trans (C1.out k hlt)
          have d5 : wr.cell? ⟨b2, o2 + k, none⟩ = _ := (HW.out.cell (p := ⟨b2, o2 + k, none⟩) (Nat.lt_of_lt_of_le lt2 sz1)).trans (C2.out k hlt)
          have d6 : wr.cell? ⟨b3, o3 + k, none⟩ = _ := (HW.out.cell (p := ⟨b3, o3 + k, none⟩) (Nat.lt_of_lt_of_le lt3 sz1)).trans (C3.out k hlt)
          have i0 : (0 : Int) ≤ (k : Int) := by omega
          have i1 : (k : Int) < (zl : Int) := by omega
          have HX := Lib.hid (fun (hok : lo.getD k 0 ≤ js.getD k 0 ∧ js.getD k 0 ≤ hi.getD k 0) j (hj : j < k + 1) => show lo.getD j 0 ≤ js.getD j 0 ∧ js.getD j 0 ≤ hi.getD j 0 from if hjk : j < k then HJ.out j hjk else by rw [show j = k by omega]; exact hok)
          generalize js.getD k 0 = d at *
          generalize lo.getD k 0 = o at *
          generalize hi.getD k 0 = h at *
          by_cases hh : o ≤ d ∧ d ≤ h
          · obtain ⟨k1, k2⟩ := hh
            go_wp2
            go_quiet ((go_at_call_of 61 d; exact Calls.quiet_of_same (sameOf (l1In_yes d o h _ (by omega) (by omega)))))
            go_wp2
            go_roundw
            case rel => exact ⟨k + 1, by omega, by congr 1, Lib.hid (HX.out ⟨k1, k2⟩), Lib.hid (below_drewN HW.out _)⟩
            case measure => simp [intOf]; omega
          · have HH := Lib.hid hh
            clear hh
            go_wp2
            go_quiet ((go_at_call_of 61 d; exact Calls.quiet_of_same (sameOf (l1In_no d o h _ (by have := HH.out; omega)))))
            go_wp2
            go_ret
            exact ⟨rfl, below_drewN (below_call HB.out HW.out) _⟩
        · obtain rfl : k = zl := by omega
          exact (HNo.out HJ.out).elim
    · have m1 := hx.1
      have m2 := hy.1
      have m3 := hz.1
      have e1 : ((jl : Int) != (xl : Int)) = true := by simp; omega
      clear hl hv m1 m2 m3 m4 hj
      have HB := Lib.hid (below_box w (.cells #[.slice xa xl xc, .slice ya yl yc, .slice za zl zc] 25))
      have P := AtA.box w (.slice xa xl xc) (.slice ya yl yc) (.slice za zl zc) 25
      go_enter Tryd.func19, Tryd.ntmps19
      go_wp2_with fail
      refine (specArmValidY ⟨xa, xl, xc⟩ ⟨ya, yl, yc⟩ ⟨za, zl, zc⟩ ls lo hi _ (hx.next HB.out) (hy.next HB.out) (hz.next HB.out) hok).mono ?_
      rintro e w1 ⟨rfl, B1⟩
      obtain ⟨_, d1, d2, d3, _, _, _⟩ := P.next B1
      have HB1 := Lib.hid (below_call HB.out B1)
      clear P B1 hx hy hz
      go_wp2
      go_ret
      exact ⟨rfl, HB1.out⟩
  · have HB := Lib.hid (below_box w (.cells #[.slice xa xl xc, .slice ya yl yc, .slice za zl zc] 25))
    clear hv m4 hj
    go_enter Tryd.func19, Tryd.ntmps19
    go_wp2_with fail
    refine (specArmValidN ⟨xa, xl, xc⟩ ⟨ya, yl, yc⟩ ⟨za, zl, zc⟩ ls lo hi _ (hx.next HB.out) (hy.next HB.out) (hz.next HB.out) hok bx b_y bz).mono ?_
    rintro e w1 ⟨rfl, B1⟩
    have HB1 := Lib.hid (below_call HB.out B1)
    clear B1 hx hy hz
    go_wp2
    go_ret
    exact ⟨rfl, HB1.out⟩
end Go.Proofs.YtolkihibjabmhaaDoor
