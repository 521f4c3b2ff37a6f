/- The program's ReachOf and ClampJoints: their contracts. -/
import Derived.Test.YtolkihibjabmhaaDoorChain3
namespace Go.Proofs.YtolkihibjabmhaaDoor
set_option maxRecDepth 100000
open Go.RowKit
attribute [local go_sem ↓] Go.wp_at_zero Go.wp_at_succ
/-- What ReachOf returns. -/
def reachV (ls lo hi : List Int) : Value := if okArm ls lo hi then .tuple #[.int .i64 (farV ls), .int .i64 (nearV ls)] else .tuple #[.int .i64 0, .int .i64 0]
theorem reachV_in {ls lo hi : List Int} (h : okArm ls lo hi) : reachV ls lo hi = .tuple #[.int .i64 (farV ls), .int .i64 (nearV ls)] := by unfold reachV; rw [if_pos h]
theorem reachV_out {ls lo hi : List Int} (h : ¬ okArm ls lo hi) : reachV ls lo hi = .tuple #[.int .i64 0, .int .i64 0] := by unfold reachV; rw [if_neg h]
set_option maxHeartbeats 1000000 in
theorem implReachOf (x y z : Sl) (ls lo hi : List Int) (w : World) (hx : IntsAt w x.a x.len ls) (hy : IntsAt w y.a y.len lo) (hz : IntsAt w z.a z.len hi) (bx : x.len ≤ 9223372036854775807) (b_y : y.len ≤ 9223372036854775807) (bz : z.len ≤ 9223372036854775807) :
    Calls Tryd.prog 35 #[av x y z] w fun e w' => e = .returned (reachV ls lo hi) ∧ Below w.heap.size w w' := by
  have HB := Lib.hid (below_box w (.cells #[.slice x.a x.len x.cap, .slice y.a y.len y.cap, .slice z.a z.len z.cap] 25))
  go_enter Tryd.func35, Tryd.ntmps35
  go_wp2_with fail
  refine (chainOf x y z ls lo hi _ (hx.next HB.out) (hy.next HB.out) (hz.next HB.out) bx b_y bz).mono ?_
  rintro e w1 ⟨B1, ⟨hok, b, rfl, _, hc⟩ | ⟨hok, rfl⟩⟩
  · have HB1 := Lib.hid (below_call HB.out B1)
    obtain ⟨n1, n2, n3, n4, n5⟩ := id hok
    have HS := Lib.hid (fun k (h : k ≤ ls.length) => sumN_bd ls (fun i hi => ⟨(n5 i hi).1, (n5 i hi).2.1⟩) k h)
    have HL := Lib.hid (fun k (h : k < ls.length) => And.intro (n5 k h).1 (n5 k h).2.1)
    have HE := Lib.hid (reachV_in hok)
    have HF := Lib.hid (show farV ls = sumN ls ls.length from rfl)
    have HG := Lib.hid (show nearV ls = max 0 (2 * mostN ls ls.length - sumN ls ls.length) from rfl)
    have HC := Lib.hid hc
    generalize ls.length = n at *
    clear B1 hx hy hz hok n3 n4 n5 hc HB
    go_wp2
    go_loopw [4, 5, 12] (fun s m i wr => ∃ k : Nat, k ≤ n ∧ s = .int .i64 (sumN ls k) ∧ m = .int .i64 (mostN ls k) ∧ i = .int .i64 (k : Int) ∧ Hid (Below w1.heap.size w1 wr)) (fun _ _ i _ => n - (intOf i).toNat)
    case atStart => exact ⟨0, Nat.zero_le _, rfl, rfl, rfl, Lib.hid (Below.refl _ _)⟩
    case round =>
      obtain ⟨k, hk, rfl, rfl, rfl, HW⟩ := hrel
      obtain ⟨q1, q2, q3, q4⟩ := HS.out k hk
      by_cases hlt : k < n
      · obtain ⟨d1, d2, d3⟩ := (HC.out.next HW.out).c k hlt
        obtain ⟨q5, q6⟩ := HL.out k hlt
        have HE1 := Lib.hid (show sumN ls (k + 1) = sumN ls k + ls.getD k 0 from rfl)
        have HE2 := Lib.hid (show mostN ls (k + 1) = max (mostN ls k) (ls.getD k 0) from rfl)
        generalize ls.getD k 0 = l at *
        generalize lo.getD k 0 = o at *
        generalize hi.getD k 0 = h at *
        generalize sumN ls k = s at *
        generalize mostN ls k = m at *
        have HX := Lib.hid (below_call HW.out (below_box wr (.cells #[.int .i64 l, .int .i64 o, .int .i64 h] 82)))
        go_wp2
        all_goals
          go_roundw
          case rel => exact ⟨k + 1, by omega, by rw [HE1.out], by rw [HE2.out]; congr 1; omega, by congr 1, HX⟩
          case measure => simp [intOf]; omega
      · obtain rfl : k = n := by omega
        have HW1 := Lib.hid (below_call HB1.out HW.out)
        generalize sumN ls k = s at *
        generalize mostN ls k = m at *
        go_wp2
        all_goals
          go_ret2
          refine ⟨?_, HW1.out⟩
          rw [HE.out]
          exact ret_2 HF.out.symm (by rw [HG.out]; omega)
  · have HE := Lib.hid (reachV_out hok)
    have HB1 := Lib.hid (below_call HB.out B1)
    clear B1 hx hy hz hok
    go_wp2
    go_loop [4, 5, 12] (fun s m i => s = .int .i64 0 ∧ m = .int .i64 0 ∧ i = .int .i64 0) (fun _ _ _ => 0)
    case atStart => exact ⟨rfl, rfl, rfl⟩
    case round =>
      obtain ⟨rfl, rfl, rfl⟩ := hrel
      go_wp2
      go_ret2
      refine ⟨?_, HB1.out⟩
      rw [HE.out]
      rfl
def reachF (ls lo hi : List Int) : Int := if okArm ls lo hi then farV ls else 0
def reachN (ls lo hi : List Int) : Int := if okArm ls lo hi then nearV ls else 0
theorem reachV_eq (ls lo hi : List Int) : reachV ls lo hi = .tuple #[.int .i64 (reachF ls lo hi), .int .i64 (reachN ls lo hi)] := by
  unfold reachV reachF reachN
  split <;> rfl
theorem implReachOf' (x y z : Sl) (ls lo hi : List Int) (w : World) (hx : IntsAt w x.a x.len ls) (hy : IntsAt w y.a y.len lo) (hz : IntsAt w z.a z.len hi) (bx : x.len ≤ 9223372036854775807) (b_y : y.len ≤ 9223372036854775807) (bz : z.len ≤ 9223372036854775807) :
    Calls Tryd.prog 35 #[av x y z] w fun e w' => e = .returned (.tuple #[.int .i64 (reachF ls lo hi), .int .i64 (reachN ls lo hi)]) ∧ Below w.heap.size w w' := by
  rw [← reachV_eq]; exact implReachOf x y z ls lo hi w hx hy hz bx b_y bz
theorem specJointsValid (x y z j : Sl) (ls lo hi js : List Int) (w : World) (hx : IntsAt w x.a x.len ls) (hy : IntsAt w y.a y.len lo) (hz : IntsAt w z.a z.len hi) (hj : IntsAt w j.a j.len js) (bx : x.len ≤ 9223372036854775807) (b_y : y.len ≤ 9223372036854775807) (bz : z.len ≤ 9223372036854775807) (bj : j.len ≤ 9223372036854775807) :
    Calls Tryd.prog 19 #[av x y z, .slice j.a j.len j.cap] w fun e w' => e = .returned (.bool (decide (okJoints ls lo hi js))) ∧ Below w.heap.size w w' := by
  by_cases h : okJoints ls lo hi js
  · rw [decide_eq_true h]; exact specJointsValidY x y z j ls lo hi js w hx hy hz hj h
  · rw [decide_eq_false h]; exact specJointsValidN x y z j ls lo hi js w hx hy hz hj h bx b_y bz bj
/-- The clamped angles of an arm: none where they can't be. -/
def clampV (ls lo hi js : List Int) : List Int := if okArm ls lo hi ∧ js.length = ls.length then clampL lo hi js else []
theorem clampV_in {ls lo hi js : List Int} (h : okArm ls lo hi ∧ js.length = ls.length) : clampV ls lo hi js = clampL lo hi js := by unfold clampV; rw [if_pos h]
theorem clampV_out {ls lo hi js : List Int} (h : ¬ (okArm ls lo hi ∧ js.length = ls.length)) : clampV ls lo hi js = [] := by unfold clampV; rw [if_neg h]
/-- What clamping says: a row of the call's own. -/
def Clamped (ls lo hi js : List Int) (w : World) (e : Ending) (w' : World) : Prop :=
  ∃ s : Sl, e = .returned (.slice s.a s.len s.cap) ∧ OwnI w' w.heap.size (.slice s.a s.len s.cap) (clampV ls lo hi js) ∧ s.len = (clampV ls lo hi js).length ∧ Below w.heap.size w w'
theorem OwnI.sl {w : World} {B : Nat} {v : Value} {zs : List Int} (h : OwnI w B v zs) : ∃ s : Sl, v = .slice s.a s.len s.cap ∧ s.len = zs.length := by
  rcases h.2 with ⟨hv, hn⟩ | ⟨g, c, cur, hv, _⟩
  · exact ⟨⟨none, 0, 0⟩, hv, hn.symm⟩
  · exact ⟨⟨some ⟨g, 0, none⟩, zs.length, c⟩, hv, rfl⟩
end Go.Proofs.YtolkihibjabmhaaDoor
