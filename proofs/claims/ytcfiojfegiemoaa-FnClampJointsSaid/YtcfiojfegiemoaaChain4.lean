/- The program's ReachOf and ClampJoints: their contracts. -/
import Derived.Test.YtcfiojfegiemoaaChain3
namespace Go.Proofs.Ytcfiojfegiemoaa
open Go.RowKit
attribute [local go_sem ↓] Go.wp_at_zero Go.wp_at_succ
/-- What ReachOf returns. -/
def reachV (ls lo hi : List Int) : Value := if okArm ls lo hi then .tuple #[.int .i64 (farV ls), .int .i64 (nearV ls)] else .tuple #[.int .i64 0, .int .i64 0]
theorem reachV_in {ls lo hi : List Int} (h : okArm ls lo hi) : reachV ls lo hi = .tuple #[.int .i64 (farV ls), .int .i64 (nearV ls)] := by unfold reachV; rw [if_pos h]
theorem reachV_out {ls lo hi : List Int} (h : ¬ okArm ls lo hi) : reachV ls lo hi = .tuple #[.int .i64 0, .int .i64 0] := by unfold reachV; rw [if_neg h]
set_option maxHeartbeats 1000000 in
theorem implReachOf (x y z : Sl) (ls lo hi : List Int) (w : World) (hx : IntsAt w x.a x.len ls) (hy : IntsAt w y.a y.len lo) (hz : IntsAt w z.a z.len hi) (bx : x.len ≤ 9223372036854775807) (b_y : y.len ≤ 9223372036854775807) (bz : z.len ≤ 9223372036854775807) :
    Calls Try.prog 19 #[av x y z] w fun e w' => e = .returned (reachV ls lo hi) ∧ Below w.heap.size w w' := by
  have HB := Lib.hid (below_box w (.cells #[.slice x.a x.len x.cap, .slice y.a y.len y.cap, .slice z.a z.len z.cap] 25))
  go_enter Try.func19, Try.ntmps19
  go_wp2_with fail
  refine (chainOf x y z ls lo hi _ (hx.next HB.out) (hy.next HB.out) (hz.next HB.out) bx b_y bz).mono ?_
  rintro e w1 ⟨B1, ⟨hok, b, rfl, _, hc⟩ | ⟨hok, rfl⟩⟩
  · have HB1 := Lib.hid (below_call HB.out B1)
    obtain ⟨n1, n2, n3, n4, n5⟩ := id hok
    have HS := Lib.hid (fun k (h : k ≤ ls.length) => sumN_bd ls (fun i hi => ⟨(n5 i hi).1, (n5 i hi).2.1⟩) k h)
    have HL := Lib.hid (fun k (h : k < ls.length) => And.intro (n5 k h).1 (n5 k h).2.1)
    have HE := Lib.hid (reachV_in hok)
    have HF := Lib.hid (show farV ls = sumN ls ls.length from rfl)
    have HG := Lib.hid (show nearV ls = max 0 (2 * mostN ls ls.length - sumN ls ls.length) from rfl)
    have HC := Lib.hid hc
    generalize ls.length = n at *
    clear B1 hx hy hz hok n3 n4 n5 hc HB
    go_wp2
    go_loopw [4, 5, 12] (fun s m i wr => ∃ k : Nat, k ≤ n ∧ s = .int .i64 (sumN ls k) ∧ m = .int .i64 (mostN ls k) ∧ i = .int .i64 (k : Int) ∧ Hid (Below w1.heap.size w1 wr)) (fun _ _ i _ => n - (intOf i).toNat)
    case atStart => exact ⟨0, Nat.zero_le _, rfl, rfl, rfl, Lib.hid (Below.refl _ _)⟩
    case round =>
      obtain ⟨k, hk, rfl, rfl, rfl, HW⟩ := hrel
      obtain ⟨q1, q2, q3, q4⟩ := HS.out k hk
      by_cases hlt : k < n
      · obtain ⟨d1, d2, d3⟩ := (HC.out.next HW.out).c k hlt
        obtain ⟨q5, q6⟩ := HL.out k hlt
        have HE1 := Lib.hid (show sumN ls (k + 1) = sumN ls k + ls.getD k 0 from rfl)
        have HE2 := Lib.hid (show mostN ls (k + 1) = max (mostN ls k) (ls.getD k 0) from rfl)
        generalize ls.getD k 0 = l at *
        generalize lo.getD k 0 = o at *
        generalize hi.getD k 0 = h at *
        generalize sumN ls k = s at *
        generalize mostN ls k = m at *
        have HX := Lib.hid (below_call HW.out (below_box wr (.cells #[.int .i64 l, .int .i64 o, .int .i64 h] 57)))
        go_wp2
        all_goals
          go_roundw
          case rel => exact ⟨k + 1, by omega, by rw [HE1.out], by rw [HE2.out]; congr 1; omega, by congr 1, HX⟩
          case measure => simp [intOf]; omega
      · obtain rfl : k = n := by omega
        have HW1 := Lib.hid (below_call HB1.out HW.out)
        generalize sumN ls k = s at *
        generalize mostN ls k = m at *
        go_wp2
        all_goals
          go_ret2
          refine ⟨?_, HW1.out⟩
          rw [HE.out]
          exact ret_2 HF.out.symm (by rw [HG.out]; omega)
  · have HE := Lib.hid (reachV_out hok)
    have HB1 := Lib.hid (below_call HB.out B1)
    clear B1 hx hy hz hok
    go_wp2
    go_loop [4, 5, 12] (fun s m i => s = .int .i64 0 ∧ m = .int .i64 0 ∧ i = .int .i64 0) (fun _ _ _ => 0)
    case atStart => exact ⟨rfl, rfl, rfl⟩
    case round =>
      obtain ⟨rfl, rfl, rfl⟩ := hrel
      go_wp2
      go_ret2
      refine ⟨?_, HB1.out⟩
      rw [HE.out]
      rfl
theorem specReachOf (x y z : Sl) (ls lo hi : List Int) (w : World) (hx : IntsAt w x.a x.len ls) (hy : IntsAt w y.a y.len lo) (hz : IntsAt w z.a z.len hi) (bx : x.len ≤ 9223372036854775807) (b_y : y.len ≤ 9223372036854775807) (bz : z.len ≤ 9223372036854775807) :
    Calls Try.prog 20 #[av x y z] w fun e w' => e = .returned (reachV ls lo hi) ∧ Below w.heap.size w w' := by
  by_cases h : okArm ls lo hi
  · rw [reachV_in h]; exact specReachOfY x y z ls lo hi w hx hy hz h
  · rw [reachV_out h]; exact specReachOfN x y z ls lo hi w hx hy hz h bx b_y bz
def reachF (ls lo hi : List Int) : Int := if okArm ls lo hi then farV ls else 0
def reachN (ls lo hi : List Int) : Int := if okArm ls lo hi then nearV ls else 0
theorem reachV_eq (ls lo hi : List Int) : reachV ls lo hi = .tuple #[.int .i64 (reachF ls lo hi), .int .i64 (reachN ls lo hi)] := by
  unfold reachV reachF reachN
  split <;> rfl
theorem implReachOf' (x y z : Sl) (ls lo hi : List Int) (w : World) (hx : IntsAt w x.a x.len ls) (hy : IntsAt w y.a y.len lo) (hz : IntsAt w z.a z.len hi) (bx : x.len ≤ 9223372036854775807) (b_y : y.len ≤ 9223372036854775807) (bz : z.len ≤ 9223372036854775807) :
    Calls Try.prog 19 #[av x y z] w fun e w' => e = .returned (.tuple #[.int .i64 (reachF ls lo hi), .int .i64 (reachN ls lo hi)]) ∧ Below w.heap.size w w' := by
  rw [← reachV_eq]; exact implReachOf x y z ls lo hi w hx hy hz bx b_y bz
theorem specReachOf' (x y z : Sl) (ls lo hi : List Int) (w : World) (hx : IntsAt w x.a x.len ls) (hy : IntsAt w y.a y.len lo) (hz : IntsAt w z.a z.len hi) (bx : x.len ≤ 9223372036854775807) (b_y : y.len ≤ 9223372036854775807) (bz : z.len ≤ 9223372036854775807) :
    Calls Try.prog 20 #[av x y z] w fun e w' => e = .returned (.tuple #[.int .i64 (reachF ls lo hi), .int .i64 (reachN ls lo hi)]) ∧ Below w.heap.size w w' := by
  rw [← reachV_eq]; exact specReachOf x y z ls lo hi w hx hy hz bx b_y bz
theorem specJointsValid (x y z j : Sl) (ls lo hi js : List Int) (w : World) (hx : IntsAt w x.a x.len ls) (hy : IntsAt w y.a y.len lo) (hz : IntsAt w z.a z.len hi) (hj : IntsAt w j.a j.len js) (bx : x.len ≤ 9223372036854775807) (b_y : y.len ≤ 9223372036854775807) (bz : z.len ≤ 9223372036854775807) (bj : j.len ≤ 9223372036854775807) :
    Calls Try.prog 17 #[av x y z, .slice j.a j.len j.cap] w fun e w' => e = .returned (.bool (decide (okJoints ls lo hi js))) ∧ Below w.heap.size w w' := by
  by_cases h : okJoints ls lo hi js
  · rw [decide_eq_true h]; exact specJointsValidY x y z j ls lo hi js w hx hy hz hj h
  · rw [decide_eq_false h]; exact specJointsValidN x y z j ls lo hi js w hx hy hz hj h bx b_y bz bj
/-- The clamped angles of an arm: none where they can't be. -/
def clampV (ls lo hi js : List Int) : List Int := if okArm ls lo hi ∧ js.length = ls.length then clampL lo hi js else []
theorem clampV_in {ls lo hi js : List Int} (h : okArm ls lo hi ∧ js.length = ls.length) : clampV ls lo hi js = clampL lo hi js := by unfold clampV; rw [if_pos h]
theorem clampV_out {ls lo hi js : List Int} (h : ¬ (okArm ls lo hi ∧ js.length = ls.length)) : clampV ls lo hi js = [] := by unfold clampV; rw [if_neg h]
theorem nearestR (l o h d : Int) (w0 w : World) (hw : Below w0.heap.size w0 w) :
    Calls Try.prog 43 #[lk l o h, .int .i64 d] w fun e w' => e = .returned (.int .i64 (clip d o h)) ∧ Below w0.heap.size w0 w' :=
  (nearest l o h d w).mono fun _ _ ⟨he, hb⟩ => ⟨he, below_call hw hb⟩
theorem keepS {w u : World} {b c o g i : Nat} {x y z d v : Value} (h : Below w.heap.size w u) (n1 : g ≠ b) (n2 : g ≠ c) (hb : b < w.heap.size) (hc : c < w.heap.size) (h0 : w.cell? ⟨b, 0, none⟩ = some x) (h1 : w.cell? ⟨b, 1, none⟩ = some y) (h2 : w.cell? ⟨b, 2, none⟩ = some z) (h3 : w.cell? ⟨c, o, none⟩ = some d) :
    (u.setCell ⟨g, i, none⟩ v).cell? ⟨b, 0, none⟩ = some x ∧ (u.setCell ⟨g, i, none⟩ v).cell? ⟨b, 1, none⟩ = some y ∧ (u.setCell ⟨g, i, none⟩ v).cell? ⟨b, 2, none⟩ = some z ∧ (u.setCell ⟨g, i, none⟩ v).cell? ⟨c, o, none⟩ = some d := by
  have k := keepL h hb hc h0 h1 h2 h3
  exact ⟨(World.cell?_setCell_far _ _ _ _ n1).trans k.1, (World.cell?_setCell_far _ _ _ _ n1).trans k.2.1, (World.cell?_setCell_far _ _ _ _ n1).trans k.2.2.1, (World.cell?_setCell_far _ _ _ _ n2).trans k.2.2.2⟩
set_option maxHeartbeats 1000000 in
theorem implClampJointsY (x y z j : Sl) (ls lo hi js : List Int) (w : World) (hx : IntsAt w x.a x.len ls) (hy : IntsAt w y.a y.len lo) (hz : IntsAt w z.a z.len hi) (hj : IntsAt w j.a j.len js) (hv : okArm ls lo hi ∧ js.length = ls.length) (bx : x.len ≤ 9223372036854775807) (b_y : y.len ≤ 9223372036854775807) (bz : z.len ≤ 9223372036854775807) :
    Calls Try.prog 23 #[av x y z, .slice j.a j.len j.cap] w fun e w' => ∃ v, e = .returned v ∧ OwnI w' w.heap.size v (clampL lo hi js) ∧ Below w.heap.size w w' := by
  obtain ⟨i0, hi0, hz0, hz1, hz2⟩ := info_parts infoInt
  obtain ⟨xa, xl, xc⟩ := x
  obtain ⟨ya, yl, yc⟩ := y
  obtain ⟨za, zl, zc⟩ := z
  obtain ⟨ja, jl, jc⟩ := j
  simp only at *
  have m4 := hj.1
  have HN := Lib.hid (show jl = ls.length by rw [m4]; exact hv.2)
  have HB := Lib.hid (below_box w (.cells #[.slice xa xl xc, .slice ya yl yc, .slice za zl zc] 25))
  go_enter Try.func23, Try.ntmps23
  go_wp2_with fail
  refine (chainOf ⟨xa, xl, xc⟩ ⟨ya, yl, yc⟩ ⟨za, zl, zc⟩ ls lo hi _ (hx.next HB.out) (hy.next HB.out) (hz.next HB.out) bx b_y bz).mono ?_
  rintro e w1 ⟨B1, ⟨hok, b, rfl, _, hc⟩ | ⟨hok, rfl⟩⟩
  · have HB1 := Lib.hid (below_call HB.out B1)
    have n1 := hok.1
    have n2 := hok.2.1
    have HC := Lib.hid hc
    have HCL := Lib.hid (fun k (h : k < jl) => clampL_at lo hi js k (by omega))
    have HCN := Lib.hid (show (clampL lo hi js).length = jl by rw [clampL_len]; omega)
    obtain ⟨b4, o4, rfl, lt4, c4⟩ := hj.some (by have := HN.out; omega)
    have HC4 := Lib.hid c4
    rw [← HN.out] at n1 n2 HC
    rw [← HN.out]
    have HM := Lib.hid (made_zero jl fun i => (clampL lo hi js).getD i 0)
    have HF := Lib.hid (part_all (fun i => (clampL lo hi js).getD i 0) (List.replicate jl 0) (clampL lo hi js) (by simp [HCN.out]) (fun _ _ => rfl))
    have HP := Lib.hid (fun j => part_set (fun i => (clampL lo hi js).getD i 0) (List.replicate jl 0) j)
    clear B1 hx hy hz hok hc HB hj hv m4 c4
    go_wp2_with fail
    refine (matchesY _ _ jl _ _ _ n1).mono ?_
    rintro e w' ⟨rfl, rfl⟩
    go_wp2_with (first
      | (at_make; refine wpList_make_full _ rfl _ _ 23 rfl w1.heap.size 3 i0 (.int .i64 0) 1 Try.underlying23 hi0 hz0 hz1 .i64 .i64 _ _ jl rfl rfl rfl rfl (by rw [hz2]; omega) (by unfold maxLen; omega) (Nat.le_refl _) ?_; intro w2 own2 grow2))
    have own3 : w2.ownsRow w1.heap.size 3 1 (.slice (some ⟨w1.heap.size, 0, none⟩) jl jl) jl (part (fun i => (clampL lo hi js).getD i 0) (List.replicate jl 0) 0) := by rw [← HM.out]; exact own2
    have HG : Below w1.heap.size w1 w2 := (Below.refl _ _).grown grow2 (Nat.le_refl _) (fun k hk => by cases hk)
    clear own2 grow2
    go_loopw [20] (fun i wr => ∃ k : Nat, k ≤ jl ∧ i = .int .i64 (k : Int) ∧ Hid (wr.ownsRow w1.heap.size 3 1 (.slice (some ⟨w1.heap.size, 0, none⟩) jl jl) jl (part (fun i => (clampL lo hi js).getD i 0) (List.replicate jl 0) k)) ∧ Hid (Below w1.heap.size w1 wr)) (fun i _ => jl - (intOf i).toNat)
    case atStart => exact ⟨0, Nat.zero_le _, rfl, Lib.hid own3, Lib.hid HG⟩
    case round =>
      obtain ⟨k, hk, rfl, HO, HW⟩ := hrel
      clear own3 HG
      by_cases hlt : k < jl
      · obtain ⟨d1, d2, d3⟩ := (HC.out.next HW.out).c k hlt
        have d4 : wr.cell? ⟨b4, o4 + k, none⟩ = _ := ((below_call HB1.out HW.out).cell (p := ⟨b4, o4 + k, none⟩) lt4).trans (HC4.out k hlt)
        have hcl := HCL.out k hlt
        generalize ls.getD k 0 = l at *
        generalize lo.getD k 0 = o at *
        generalize hi.getD k 0 = h at *
        generalize js.getD k 0 = d at *
        have HX := Lib.hid (below_call HW.out (below_box wr (.cells #[.int .i64 l, .int .i64 o, .int .i64 h] 57)))
        have HOb := Lib.hid (HO.out.alloc (.cells #[.int .i64 l, .int .i64 o, .int .i64 h] 57))
        obtain ⟨x0, x1, x2, x3, _, _, _⟩ := AtA.box wr (.int .i64 l) (.int .i64 o) (.int .i64 h) 57
        have lt5 : b4 < wr.heap.size := Nat.lt_of_lt_of_le lt4 (below_call HB1.out HW.out).size
        have d5 : (wr.alloc (.cells #[.int .i64 l, .int .i64 o, .int .i64 h] 57)).cell? ⟨b4, o4 + k, none⟩ = _ := ((below_box wr _).cell (p := ⟨b4, o4 + k, none⟩) lt5).trans d4
        have lt6 : b4 < (wr.alloc (.cells #[.int .i64 l, .int .i64 o, .int .i64 h] 57)).heap.size := Nat.lt_of_lt_of_le lt4 (below_call HB1.out HX.out).size
        have j1 : (0 : Int) ≤ (k : Int) := by omega
        have j2 : (k : Int) < (jl : Int) := by omega
        have ne1 : w1.heap.size ≠ wr.heap.size := by have : w1.heap.size < wr.heap.size := (World.ownsRow.lt HO.out _ rfl).2; omega
        have ne2 : w1.heap.size ≠ b4 := by have := HB1.out.size; omega
        have HKN := Lib.hid (show (clampL lo hi js).getD k 0 = clip d o h by rw [List.getD_eq_getElem?_getD, hcl]; rfl)
        clear hcl HO HW
        go_wp2
        clear d1 d2 d3 d4
        generalize wr.alloc (.cells #[.int .i64 l, .int .i64 o, .int .i64 h] 57) = wb at *
        have g0 : Below wb.heap.size wb wb := Below.refl _ _
        go_region_held3 (fun u => u.cell? ⟨wr.heap.size, 0, none⟩ = some (.int .i64 l) ∧ u.cell? ⟨wr.heap.size, 1, none⟩ = some (.int .i64 o) ∧ u.cell? ⟨wr.heap.size, 2, none⟩ = some (.int .i64 h) ∧ u.cell? ⟨b4, o4 + k, none⟩ = some (.int .i64 d)) (first
          | exact keepS K2 ne1 ne2 x0 lt6 x1 x2 x3 d5
          | exact keepL (by repeat (first | (with_reducible assumption) | (with_reducible apply Below.drew))) x0 lt6 x1 x2 x3 d5) (first
          | (go_at_call 43
             refine (nearestR l o h d wb _ (by repeat (first | (with_reducible assumption) | (with_reducible apply Below.drew)))).mono ?_
             rintro e w2 ⟨rfl, K2⟩
             have HO2 := Lib.hid (World.ownsRow.kept (row := none) HOb.out ⟨K2.os, K2.tape, K2.output, K2.size, fun k hk _ => K2.block k hk⟩ (.inr (by simp [Value.ownBlock])))
             have r1 := HO2.out.cellAt k (by omega)
             rw [List.getElem?_eq_getElem (by rw [part_len]; simpa using hlt)] at r1
             have r2 := HO2.out.frozenAt k))
        have HS := Lib.hid (HO2.out.stored k (.int .i64 (clip d o h)))
        have HW2 := Lib.hid (below_call HX.out K2)
        go_wp2
        go_roundw
        case rel => exact ⟨k + 1, by omega, by congr 1, Lib.hid (by rw [← HP.out k, HKN.out]; exact HS.out.1), Lib.hid (HW2.out.grown HS.out.2 HW2.out.size (fun q hq => by injection hq with hq; omega))⟩
        case measure => simp [intOf]; omega
      · obtain rfl : k = jl := by omega
        go_wp2
        go_ret
        refine ⟨_, rfl, ?_, below_call HB1.out HW.out⟩
        unfold OwnI
        rw [← HF.out, List.length_replicate, HCN.out]
        exact World.ownsRow_down HO.out HB1.out.size
  · exact absurd hv.1 hok
theorem implClampJointsN (x y z j : Sl) (ls lo hi js : List Int) (w : World) (hx : IntsAt w x.a x.len ls) (hy : IntsAt w y.a y.len lo) (hz : IntsAt w z.a z.len hi) (hj : IntsAt w j.a j.len js) (hv : ¬ (okArm ls lo hi ∧ js.length = ls.length)) (bx : x.len ≤ 9223372036854775807) (b_y : y.len ≤ 9223372036854775807) (bz : z.len ≤ 9223372036854775807) :
    Calls Try.prog 23 #[av x y z, .slice j.a j.len j.cap] w fun e w' => ∃ v, e = .returned v ∧ OwnI w' w.heap.size v [] ∧ Below w.heap.size w w' := by
  have m4 := hj.1
  have HB := Lib.hid (below_box w (.cells #[.slice x.a x.len x.cap, .slice y.a y.len y.cap, .slice z.a z.len z.cap] 25))
  go_enter Try.func23, Try.ntmps23
  go_wp2_with fail
  refine (chainOf x y z ls lo hi _ (hx.next HB.out) (hy.next HB.out) (hz.next HB.out) bx b_y bz).mono ?_
  rintro e w1 ⟨B1, ⟨hok, b, rfl, _, hc⟩ | ⟨hok, rfl⟩⟩
  · have HB1 := Lib.hid (below_call HB.out B1)
    have HH := Lib.hid (show ¬ (1 ≤ ls.length ∧ j.len = ls.length) from fun h => hv ⟨hok, by rw [← m4]; exact h.2⟩)
    clear B1 hx hy hz hj hok hc hv m4
    go_wp2_with fail
    refine (matchesN _ _ _ _ _ _ _ HH.out).mono ?_
    rintro e w' ⟨rfl, rfl⟩
    go_wp2
    go_ret
    exact ⟨_, rfl, World.ownsRow_nil _ _ _ _, HB1.out⟩
  · have HB1 := Lib.hid (below_call HB.out B1)
    clear B1 hx hy hz hj hok hv m4
    go_wp2_with fail
    refine (matchesN _ _ _ _ _ _ _ (by omega)).mono ?_
    rintro e w' ⟨rfl, rfl⟩
    go_wp2
    go_ret
    exact ⟨_, rfl, World.ownsRow_nil _ _ _ _, HB1.out⟩
/-- What clamping says: a row of the call's own. -/
def Clamped (ls lo hi js : List Int) (w : World) (e : Ending) (w' : World) : Prop :=
  ∃ s : Sl, e = .returned (.slice s.a s.len s.cap) ∧ OwnI w' w.heap.size (.slice s.a s.len s.cap) (clampV ls lo hi js) ∧ s.len = (clampV ls lo hi js).length ∧ Below w.heap.size w w'
theorem OwnI.sl {w : World} {B : Nat} {v : Value} {zs : List Int} (h : OwnI w B v zs) : ∃ s : Sl, v = .slice s.a s.len s.cap ∧ s.len = zs.length := by
  rcases h.2 with ⟨hv, hn⟩ | ⟨g, c, cur, hv, _⟩
  · exact ⟨⟨none, 0, 0⟩, hv, hn.symm⟩
  · exact ⟨⟨some ⟨g, 0, none⟩, zs.length, c⟩, hv, rfl⟩
theorem implClampJoints (x y z j : Sl) (ls lo hi js : List Int) (w : World) (hx : IntsAt w x.a x.len ls) (hy : IntsAt w y.a y.len lo) (hz : IntsAt w z.a z.len hi) (hj : IntsAt w j.a j.len js) (bx : x.len ≤ 9223372036854775807) (b_y : y.len ≤ 9223372036854775807) (bz : z.len ≤ 9223372036854775807) (_bj : j.len ≤ 9223372036854775807) :
    Calls Try.prog 23 #[av x y z, .slice j.a j.len j.cap] w (Clamped ls lo hi js w) := by
  by_cases hv : okArm ls lo hi ∧ js.length = ls.length
  · refine (implClampJointsY x y z j ls lo hi js w hx hy hz hj hv bx b_y bz).mono ?_
    rintro e w' ⟨v, rfl, ho, hb⟩
    obtain ⟨s, rfl, hs⟩ := ho.sl
    exact ⟨s, rfl, by rw [clampV_in hv]; exact ho, by rw [clampV_in hv]; exact hs, hb⟩
  · refine (implClampJointsN x y z j ls lo hi js w hx hy hz hj hv bx b_y bz).mono ?_
    rintro e w' ⟨v, rfl, ho, hb⟩
    obtain ⟨s, rfl, hs⟩ := ho.sl
    exact ⟨s, rfl, by rw [clampV_out hv]; exact ho, by rw [clampV_out hv]; exact hs, hb⟩
theorem specClampJoints (x y z j : Sl) (ls lo hi js : List Int) (w : World) (hx : IntsAt w x.a x.len ls) (hy : IntsAt w y.a y.len lo) (hz : IntsAt w z.a z.len hi) (hj : IntsAt w j.a j.len js) (bx : x.len ≤ 9223372036854775807) (b_y : y.len ≤ 9223372036854775807) (bz : z.len ≤ 9223372036854775807) (bj : j.len ≤ 9223372036854775807) :
    Calls Try.prog 25 #[av x y z, .slice j.a j.len j.cap] w (Clamped ls lo hi js w) := by
  by_cases hv : okArm ls lo hi ∧ js.length = ls.length
  · refine (specClampJointsY x y z j ls lo hi js w hx hy hz hj hv.1 hv.2).mono ?_
    rintro e w' ⟨v, rfl, ho, hb⟩
    obtain ⟨s, rfl, hs⟩ := ho.sl
    exact ⟨s, rfl, by rw [clampV_in hv]; exact ho, by rw [clampV_in hv]; exact hs, hb⟩
  · refine (specClampJointsN x y z j ls lo hi js w hx hy hz hj hv bx b_y bz bj).mono ?_
    rintro e w' ⟨v, rfl, ho, hb⟩
    obtain ⟨s, rfl, hs⟩ := ho.sl
    exact ⟨s, rfl, by rw [clampV_out hv]; exact ho, by rw [clampV_out hv]; exact hs, hb⟩
end Go.Proofs.Ytcfiojfegiemoaa
