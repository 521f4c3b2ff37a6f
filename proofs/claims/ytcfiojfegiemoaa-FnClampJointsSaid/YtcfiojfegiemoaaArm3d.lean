/- The reach: the contract of the document's ReachOf. -/
import Derived.Test.YtcfiojfegiemoaaArm3
import Derived.Test.YtcfiojfegiemoaaNumA
namespace Go.Proofs.Ytcfiojfegiemoaa
open Go.RowKit
attribute [local go_sem ↓] Go.wp_at_zero Go.wp_at_succ

theorem ret_2 {a b c d : Int} (h1 : a = c) (h2 : b = d) : Ending.returned (.tuple #[.int .i64 a, .int .i64 b]) = .returned (.tuple #[.int .i64 c, .int .i64 d]) := by rw [h1, h2]
theorem specReachOfN (x y z : Sl) (ls lo hi : List Int) (w : World) (hx : IntsAt w x.a x.len ls) (hy : IntsAt w y.a y.len lo) (hz : IntsAt w z.a z.len hi) (hok : ¬ okArm ls lo hi) (bx : x.len ≤ 9223372036854775807) (b_y : y.len ≤ 9223372036854775807) (bz : z.len ≤ 9223372036854775807) :
    Calls Try.prog 20 #[av x y z] w fun e w' => e = .returned (.tuple #[.int .i64 0, .int .i64 0]) ∧ Below w.heap.size w w' := by
  obtain ⟨xa, xl, xc⟩ := x
  obtain ⟨ya, yl, yc⟩ := y
  obtain ⟨za, zl, zc⟩ := z
  simp only at *
  have HB := Lib.hid (below_box w (.cells #[.slice xa xl xc, .slice ya yl yc, .slice za zl zc] 25))
  go_enter Try.func20, Try.ntmps20
  go_wp2_with fail
  refine (specArmValidN ⟨xa, xl, xc⟩ ⟨ya, yl, yc⟩ ⟨za, zl, zc⟩ ls lo hi _ (hx.next HB.out) (hy.next HB.out) (hz.next HB.out) hok bx b_y bz).mono ?_
  rintro e w1 ⟨rfl, B1⟩
  have HB1 := Lib.hid (below_call HB.out B1)
  clear B1 hx hy hz
  go_wp2
  go_ret2
  exact ⟨rfl, HB1.out⟩
set_option maxHeartbeats 1000000 in
theorem specReachOfY (x y z : Sl) (ls lo hi : List Int) (w : World) (hx : IntsAt w x.a x.len ls) (hy : IntsAt w y.a y.len lo) (hz : IntsAt w z.a z.len hi) (hok : okArm ls lo hi) :
    Calls Try.prog 20 #[av x y z] w fun e w' => e = .returned (.tuple #[.int .i64 (farV ls), .int .i64 (nearV ls)]) ∧ Below w.heap.size w w' := by
  obtain ⟨xa, xl, xc⟩ := x
  obtain ⟨ya, yl, yc⟩ := y
  obtain ⟨za, zl, zc⟩ := z
  simp only at *
  obtain ⟨n1, n2, n3, n4, n5⟩ := id hok
  have m1 := hx.1
  have z4 : xl ≤ 4 := by omega
  have HS := Lib.hid (fun k (h : k ≤ xl) => sumN_bd ls (fun i hi => ⟨(n5 i hi).1, (n5 i hi).2.1⟩) k (by omega))
  have HL := Lib.hid (fun k (h : k < xl) => And.intro (n5 k (by omega)).1 (n5 k (by omega)).2.1)
  have HF := Lib.hid (show farV ls = sumN ls xl by rw [m1]; rfl)
  have HG := Lib.hid (show nearV ls = max 0 (2 * mostN ls xl - sumN ls xl) by rw [m1]; rfl)
  obtain ⟨b1, o1, rfl, lt1, c1⟩ := hx.some (by omega)
  have HB := Lib.hid (below_box w (.cells #[.slice (some ⟨b1, o1, none⟩) xl xc, .slice ya yl yc, .slice za zl zc] 25))
  have P := AtA.box w (.slice (some ⟨b1, o1, none⟩) xl xc) (.slice ya yl yc) (.slice za zl zc) 25
  clear m1 n1 n2 n3 n4 n5
  go_enter Try.func20, Try.ntmps20
  go_wp2_with fail
  refine (specArmValidY ⟨some ⟨b1, o1, none⟩, xl, xc⟩ ⟨ya, yl, yc⟩ ⟨za, zl, zc⟩ ls lo hi _ (hx.next HB.out) (hy.next HB.out) (hz.next HB.out) hok).mono ?_
  rintro e w1 ⟨rfl, B1⟩
  have P1 := P.next B1
  have HB1 := Lib.hid (below_call HB.out B1)
  obtain ⟨_, d1, d2, d3, _, _, _⟩ := id P1
  have C1 := Lib.hid (fun i hi => (HB1.out.cell (p := ⟨b1, o1 + i, none⟩) lt1).trans (c1 i hi))
  clear c1 P B1 hx hy hz HB
  go_wp2
  go_loop [4, 5, 6] (fun s m i => ∃ k : Nat, k ≤ xl ∧ s = .int .i64 (sumN ls k) ∧ m = .int .i64 (mostN ls k) ∧ i = .int .i64 (k : Int)) (fun _ _ i => xl - (intOf i).toNat)
  case atStart => exact ⟨0, Nat.zero_le _, rfl, rfl, rfl⟩
  case round =>
    obtain ⟨k, hk, rfl, rfl, rfl⟩ := hrel
    obtain ⟨q1, q2, q3, q4⟩ := HS.out k hk
    by_cases hlt : k < xl
    · have d4 := C1.out k hlt
      obtain ⟨q5, q6⟩ := HL.out k hlt
      have HE1 := Lib.hid (show sumN ls (k + 1) = sumN ls k + ls.getD k 0 from rfl)
      have HE2 := Lib.hid (show mostN ls (k + 1) = max (mostN ls k) (ls.getD k 0) from rfl)
      generalize ls.getD k 0 = l at *
      generalize sumN ls k = s at *
      generalize mostN ls k = m at *
      go_wp2
      all_goals
        go_round
        case rel => exact ⟨k + 1, by omega, by rw [HE1.out], by rw [HE2.out]; congr 1; omega, by congr 1⟩
        case measure => simp [intOf]; omega
    · obtain rfl : k = xl := by omega
      generalize sumN ls k = s at *
      generalize mostN ls k = m at *
      go_wp2
      all_goals
        go_ret2
        exact ⟨ret_2 HF.out.symm (by rw [HG.out]; omega), HB1.out⟩
end Go.Proofs.Ytcfiojfegiemoaa
