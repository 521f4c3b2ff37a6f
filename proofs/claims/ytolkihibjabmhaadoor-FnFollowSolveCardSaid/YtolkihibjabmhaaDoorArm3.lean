/- Arms of the document: what is valid, and the contracts of the document's functions over arms. -/
import Derived.Test.YtolkihibjabmhaaDoorArmH
import Derived.Deep.QuietTactic
import Derived.BigQuiet
namespace Go.Proofs.YtolkihibjabmhaaDoor
set_option maxRecDepth 100000
open Go.RowKit
attribute [local go_sem ↓] Go.wp_at_zero Go.wp_at_succ

theorem sameOf {P : Program} {f : FuncId} {args : Array Value} {w : World} {v : Value} (h : Calls P f args w fun e w' => e = .returned v ∧ w = w') : Calls P f args w fun e w' => e = .returned v ∧ w' = w :=
  h.mono fun _ _ ⟨he, hw⟩ => ⟨he, hw.symm⟩
theorem below_drewN {B : Nat} {a w : World} (h : Below B a w) (n : Nat) : Below B a (w.drewN n) := ⟨h.os, h.tape, h.output, h.size, h.block⟩
/-- Link k has a valid length and a valid range. -/
def okLink (l o h : Int) : Prop := 1 ≤ l ∧ l ≤ 500 ∧ -180 ≤ o ∧ o ≤ 180 ∧ o ≤ h ∧ h ≤ 180
instance (l o h : Int) : Decidable (okLink l o h) := by unfold okLink; infer_instance
/-- A valid arm. -/
def okArm (ls lo hi : List Int) : Prop := 1 ≤ ls.length ∧ ls.length ≤ 4 ∧ lo.length = ls.length ∧ hi.length = ls.length ∧ ∀ k, k < ls.length → okLink (ls.getD k 0) (lo.getD k 0) (hi.getD k 0)
instance (ls lo hi : List Int) : Decidable (okArm ls lo hi) := by unfold okArm; infer_instance
theorem IntsAt.some {w : World} {a : Option Addr} {len : Nat} {zs : List Int} (h : IntsAt w a len zs) (hl : 1 ≤ len) : ∃ b off, a = Option.some ⟨b, off, none⟩ ∧ b < w.heap.size ∧ ∀ i, i < len → w.cell? ⟨b, off + i, none⟩ = Option.some (.int .i64 (zs.getD i 0)) := by
  rcases h.2 with h2 | ⟨b, off, h3, h4, h5⟩
  · have := h.1; rw [h2] at this; simp at this; omega
  · exact ⟨b, off, h3, h4, fun i hi => h5 i (by rw [← h.1]; exact hi)⟩
set_option maxHeartbeats 1000000 in
theorem specArmValidY (x y z : Sl) (ls lo hi : List Int) (w : World) (hx : IntsAt w x.a x.len ls) (hy : IntsAt w y.a y.len lo) (hz : IntsAt w z.a z.len hi) (hok : okArm ls lo hi) :
    Calls Tryd.prog 60 #[av x y z] w fun e w' => e = .returned (.bool true) ∧ Below w.heap.size w w' := by
  obtain ⟨xa, xl, xc⟩ := x
  obtain ⟨ya, yl, yc⟩ := y
  obtain ⟨za, zl, zc⟩ := z
  simp only at *
  obtain ⟨n1, n2, n3, n4, n5⟩ := hok
  have m1 := hx.1
  have m2 := hy.1
  have m3 := hz.1
  rw [n3] at m2
  rw [n4] at m3
  rw [← m1] at m2 m3 n1 n2
  have HK := Lib.hid (fun k (h : k < xl) => n5 k (by rw [← m1]; exact h))
  clear m1 n3 n4 n5
  replace m2 := m2.symm
  replace m3 := m3.symm
  subst m2
  subst m3
  obtain ⟨b1, o1, rfl, lt1, c1⟩ := hx.some (by omega)
  obtain ⟨b2, o2, rfl, lt2, c2⟩ := hy.some (by omega)
  obtain ⟨b3, o3, rfl, lt3, c3⟩ := hz.some (by omega)
  have HB := Lib.hid (below_box w (.cells #[.slice (some ⟨b1, o1, none⟩) xl xc, .slice (some ⟨b2, o2, none⟩) xl yc, .slice (some ⟨b3, o3, none⟩) xl zc] 25))
  have P := AtA.box w (.slice (some ⟨b1, o1, none⟩) xl xc) (.slice (some ⟨b2, o2, none⟩) xl yc) (.slice (some ⟨b3, o3, none⟩) xl zc) 25
  have C1 := Lib.hid (fun i hi => (HB.out.cell (p := ⟨b1, o1 + i, none⟩) lt1).trans (c1 i hi))
  have C2 := Lib.hid (fun i hi => (HB.out.cell (p := ⟨b2, o2 + i, none⟩) lt2).trans (c2 i hi))
  have C3 := Lib.hid (fun i hi => (HB.out.cell (p := ⟨b3, o3 + i, none⟩) lt3).trans (c3 i hi))
  have sz := HB.out.size
  have e1 : ((xl : Int) != (xl : Int)) = false := by simp
  clear hx hy hz c1 c2 c3
  go_enter Tryd.func60, Tryd.ntmps60
  go_wp2_with fail
  refine (l1In_yes xl 1 4 _ (by omega) (by omega)).mono ?_
  rintro e w' ⟨rfl, rfl⟩
  go_wp2
  generalize w.alloc (.cells #[.slice (some ⟨b1, o1, none⟩) xl xc, .slice (some ⟨b2, o2, none⟩) xl yc, .slice (some ⟨b3, o3, none⟩) xl zc] 25) = w0 at *
  go_loopw [4] (fun i wr => ∃ k : Nat, k ≤ xl ∧ i = .int .i64 (k : Int) ∧ Hid (Below w0.heap.size w0 wr)) (fun i _ => xl - (intOf i).toNat)
  case atStart => exact ⟨0, Nat.zero_le _, rfl, Lib.hid (Below.refl _ _)⟩
  case round =>
    obtain ⟨k, hk, rfl, HW⟩ := hrel
    by_cases hlt : k < xl
    · have Pk := P.next HW.out
      obtain ⟨_, d1, d2, d3, _, _, _⟩ := id Pk
      have d4 : wr.cell? ⟨b1, o1 + k, none⟩ = _ := (HW.out.cell (p := ⟨b1, o1 + k, none⟩) (Nat.lt_of_lt_of_le lt1 sz)).trans (C1.out k hlt)
      have d5 : wr.cell? ⟨b2, o2 + k, none⟩ = _ := (HW.out.cell (p := ⟨b2, o2 + k, none⟩) (Nat.lt_of_lt_of_le lt2 sz)).trans (C2.out k (by omega))
      have d6 : wr.cell? ⟨b3, o3 + k, none⟩ = _ := (HW.out.cell (p := ⟨b3, o3 + k, none⟩) (Nat.lt_of_lt_of_le lt3 sz)).trans (C3.out k (by omega))
      have i0 : (0 : Int) ≤ (k : Int) := by omega
      have i1 : (k : Int) < (xl : Int) := by omega
      have hok := HK.out k hlt
      generalize ls.getD k 0 = l at *
      generalize lo.getD k 0 = o at *
      generalize hi.getD k 0 = h at *
      obtain ⟨k1, k2, k3, k4, k5, k6⟩ := hok
      go_wp2
      go_quiet (first | (go_at_call_of 61 (Value.int IntKind.i64 500); exact Calls.quiet_of_same (sameOf (l1In_yes l 1 500 _ (by omega) (by omega)))) | (go_at_call_of 61 h; exact Calls.quiet_of_same (sameOf (l1In_yes h o 180 _ (by omega) (by omega)))) | (go_at_call_of 61 o; exact Calls.quiet_of_same (sameOf (l1In_yes o (-180) 180 _ (by omega) (by omega)))))
      go_wp2
      go_roundw
      case rel => exact ⟨k + 1, by omega, by congr 1, Lib.hid (below_drewN HW.out _)⟩
      case measure => simp [intOf]; omega
    · obtain rfl : k = xl := by omega
      go_wp2
      go_ret
      exact ⟨rfl, below_call HB.out HW.out⟩
set_option maxHeartbeats 1000000 in
theorem specArmValidN (x y z : Sl) (ls lo hi : List Int) (w : World) (hx : IntsAt w x.a x.len ls) (hy : IntsAt w y.a y.len lo) (hz : IntsAt w z.a z.len hi) (hok : ¬ okArm ls lo hi) (bx : x.len ≤ 9223372036854775807) (b_y : y.len ≤ 9223372036854775807) (bz : z.len ≤ 9223372036854775807) :
    Calls Tryd.prog 60 #[av x y z] w fun e w' => e = .returned (.bool false) ∧ Below w.heap.size w w' := by
  obtain ⟨xa, xl, xc⟩ := x
  obtain ⟨ya, yl, yc⟩ := y
  obtain ⟨za, zl, zc⟩ := z
  simp only at *
  have m1 := hx.1
  have m2 := hy.1
  have m3 := hz.1
  by_cases n1 : 1 ≤ xl ∧ xl ≤ 4
  · obtain ⟨n1, n2⟩ := n1
    by_cases n3 : yl = xl
    · by_cases n4 : zl = xl
      · have HNo := Lib.hid (fun (hj : ∀ j, j < xl → okLink (ls.getD j 0) (lo.getD j 0) (hi.getD j 0)) => hok ⟨by omega, by omega, by omega, by omega, fun k hk => hj k (by omega)⟩)
        clear hok m1 m2 m3
        replace n3 := n3.symm
        replace n4 := n4.symm
        subst n3
        subst n4
        obtain ⟨b1, o1, rfl, lt1, c1⟩ := hx.some (by omega)
        obtain ⟨b2, o2, rfl, lt2, c2⟩ := hy.some (by omega)
        obtain ⟨b3, o3, rfl, lt3, c3⟩ := hz.some (by omega)
        have HB := Lib.hid (below_box w (.cells #[.slice (some ⟨b1, o1, none⟩) xl xc, .slice (some ⟨b2, o2, none⟩) xl yc, .slice (some ⟨b3, o3, none⟩) xl zc] 25))
        have P := AtA.box w (.slice (some ⟨b1, o1, none⟩) xl xc) (.slice (some ⟨b2, o2, none⟩) xl yc) (.slice (some ⟨b3, o3, none⟩) xl zc) 25
        have C1 := Lib.hid (fun i hi => (HB.out.cell (p := ⟨b1, o1 + i, none⟩) lt1).trans (c1 i hi))
        have C2 := Lib.hid (fun i hi => (HB.out.cell (p := ⟨b2, o2 + i, none⟩) lt2).trans (c2 i hi))
        have C3 := Lib.hid (fun i hi => (HB.out.cell (p := ⟨b3, o3 + i, none⟩) lt3).trans (c3 i hi))
        have sz := HB.out.size
        have e1 : ((xl : Int) != (xl : Int)) = false := by simp
        clear hx hy hz c1 c2 c3
        go_enter Tryd.func60, Tryd.ntmps60
        go_wp2_with fail
        refine (l1In_yes xl 1 4 _ (by omega) (by omega)).mono ?_
        rintro e w' ⟨rfl, rfl⟩
        go_wp2
        generalize w.alloc (.cells #[.slice (some ⟨b1, o1, none⟩) xl xc, .slice (some ⟨b2, o2, none⟩) xl yc, .slice (some ⟨b3, o3, none⟩) xl zc] 25) = w0 at *
        go_loopw [4] (fun i wr => ∃ k : Nat, k ≤ xl ∧ i = .int .i64 (k : Int) ∧ Hid (∀ j, j < k → okLink (ls.getD j 0) (lo.getD j 0) (hi.getD j 0)) ∧ Hid (Below w0.heap.size w0 wr)) (fun i _ => xl - (intOf i).toNat)
        case atStart => exact ⟨0, Nat.zero_le _, rfl, Lib.hid (fun j hj => absurd hj (by omega)), Lib.hid (Below.refl _ _)⟩
        case round =>
          obtain ⟨k, hk, rfl, HJ, HW⟩ := hrel
          by_cases hlt : k < xl
          · have Pk := P.next HW.out
            obtain ⟨_, d1, d2, d3, _, _, _⟩ := id Pk
            have d4 : wr.cell? ⟨b1, o1 + k, none⟩ = _ := (HW.out.cell (p := ⟨b1, o1 + k, none⟩) (Nat.lt_of_lt_of_le lt1 sz)).trans (C1.out k hlt)
            have d5 : wr.cell? ⟨b2, o2 + k, none⟩ = _ := (HW.out.cell (p := ⟨b2, o2 + k, none⟩) (Nat.lt_of_lt_of_le lt2 sz)).trans (C2.out k (by omega))
            have d6 : wr.cell? ⟨b3, o3 + k, none⟩ = _ := (HW.out.cell (p := ⟨b3, o3 + k, none⟩) (Nat.lt_of_lt_of_le lt3 sz)).trans (C3.out k (by omega))
            have i0 : (0 : Int) ≤ (k : Int) := by omega
            have i1 : (k : Int) < (xl : Int) := by omega
            have HX := Lib.hid (fun (hok : okLink (ls.getD k 0) (lo.getD k 0) (hi.getD k 0)) j (hj : j < k + 1) => show okLink (ls.getD j 0) (lo.getD j 0) (hi.getD j 0) from if hjk : j < k then HJ.out j hjk else by rw [show j = k by omega]; exact hok)
            generalize ls.getD k 0 = l at *
            generalize lo.getD k 0 = o at *
            generalize hi.getD k 0 = h at *
            by_cases hl : 1 ≤ l ∧ l ≤ 500
            · obtain ⟨k1, k2⟩ := hl
              by_cases ho : -180 ≤ o ∧ o ≤ 180
              · obtain ⟨k3, k4⟩ := ho
                by_cases hh : o ≤ h ∧ h ≤ 180
                · obtain ⟨k5, k6⟩ := hh
                  go_wp2
                  go_quiet (first | (go_at_call_of 61 (Value.int IntKind.i64 500); exact Calls.quiet_of_same (sameOf (l1In_yes l 1 500 _ (by omega) (by omega)))) | (go_at_call_of 61 h; exact Calls.quiet_of_same (sameOf (l1In_yes h o 180 _ (by omega) (by omega)))) | (go_at_call_of 61 o; exact Calls.quiet_of_same (sameOf (l1In_yes o (-180) 180 _ (by omega) (by omega)))))
                  go_wp2
                  go_roundw
                  case rel => exact ⟨k + 1, by omega, by congr 1, Lib.hid (HX.out ⟨k1, k2, k3, k4, k5, k6⟩), Lib.hid (below_drewN HW.out _)⟩
                  case measure => simp [intOf]; omega
                · have HH := Lib.hid hh
                  clear hh
                  go_wp2
                  go_quiet (first | (go_at_call_of 61 (Value.int IntKind.i64 500); exact Calls.quiet_of_same (sameOf (l1In_yes l 1 500 _ (by omega) (by omega)))) | (go_at_call_of 61 h; exact Calls.quiet_of_same (sameOf (l1In_no h o 180 _ (by have := HH.out; omega)))) | (go_at_call_of 61 o; exact Calls.quiet_of_same (sameOf (l1In_yes o (-180) 180 _ (by omega) (by omega)))))
                  go_wp2
                  go_ret
                  exact ⟨rfl, below_drewN (below_call HB.out HW.out) _⟩
              · have HH := Lib.hid ho
                clear ho
                go_wp2
                go_quiet (first | (go_at_call_of 61 (Value.int IntKind.i64 500); exact Calls.quiet_of_same (sameOf (l1In_yes l 1 500 _ (by omega) (by omega)))) | (go_at_call_of 61 o; exact Calls.quiet_of_same (sameOf (l1In_no o (-180) 180 _ (by have := HH.out; omega)))))
                go_wp2
                go_ret
                exact ⟨rfl, below_drewN (below_call HB.out HW.out) _⟩
            · have HH := Lib.hid hl
              clear hl
              go_wp2
              go_quiet (first | (go_at_call_of 61 (Value.int IntKind.i64 500); exact Calls.quiet_of_same (sameOf (l1In_no l 1 500 _ (by have := HH.out; omega)))))
              go_wp2
              go_ret
              exact ⟨rfl, below_drewN (below_call HB.out HW.out) _⟩
          · obtain rfl : k = xl := by omega
            exact (HNo.out HJ.out).elim
      · have e1 : ((yl : Int) != (xl : Int)) = false := by simp; omega
        have e2 : ((zl : Int) != (xl : Int)) = true := by simp; omega
        clear hok m1 m2 m3 hx hy hz
        go_enter Tryd.func60, Tryd.ntmps60
        go_wp2_with fail
        refine (l1In_yes xl 1 4 _ (by omega) (by omega)).mono ?_
        rintro e w' ⟨rfl, rfl⟩
        go_wp2
        go_ret
        exact ⟨rfl, below_box _ _⟩
    · have e1 : ((yl : Int) != (xl : Int)) = true := by simp; omega
      clear hok m1 m2 m3 hx hy hz
      go_enter Tryd.func60, Tryd.ntmps60
      go_wp2_with fail
      refine (l1In_yes xl 1 4 _ (by omega) (by omega)).mono ?_
      rintro e w' ⟨rfl, rfl⟩
      go_wp2
      go_ret
      exact ⟨rfl, below_box _ _⟩
  · clear hok m1 m2 m3 hx hy hz
    have HH := Lib.hid n1
    clear n1
    go_enter Tryd.func60, Tryd.ntmps60
    go_wp2_with fail
    refine (l1In_no xl 1 4 _ (by have := HH.out; omega)).mono ?_
    rintro e w' ⟨rfl, rfl⟩
    go_wp2
    go_ret
    exact ⟨rfl, below_box _ _⟩
end Go.Proofs.YtolkihibjabmhaaDoor
