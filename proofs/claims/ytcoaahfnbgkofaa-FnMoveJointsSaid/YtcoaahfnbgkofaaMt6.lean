/- The greatest turn of two rows of angles, and the time of a motion: the program's and the document's. -/
import Derived.Test.YtcoaahfnbgkofaaNum6m
import Derived.Test.YtcoaahfnbgkofaaChain4
import Derived.Test.YtcoaahfnbgkofaaPt5
import Derived.Test.YtcoaahfnbgkofaaKApp
import Derived.Test.YtcoaahfnbgkofaaPts3
import Derived.Outline
import Derived.Deep.DeepCutAuto
namespace Go.Proofs.Ytcoaahfnbgkofaa
set_option maxRecDepth 100000
open Go.RowKit
attribute [local go_sem ↓] Go.wp_at_zero Go.wp_at_succ
set_option maxHeartbeats 2000000 in
theorem greatestTurn (a b : Sl) (fs ts : List Int) (w : World) (ha : IntsAt w a.a a.len fs) (hb : IntsAt w b.a b.len ts) (hl : fs.length = ts.length) (hn : 1 ≤ fs.length) (hn4 : fs.length ≤ 4) (hf : half fs) (ht : half ts) :
    Calls Try.prog 48 #[.slice a.a a.len a.cap, .slice b.a b.len b.cap] w fun e w' => e = .returned (.int .i64 (mostV fs ts)) ∧ Below w.heap.size w w' := by
  obtain ⟨aa, al, ac⟩ := a
  obtain ⟨ba, bl, bc⟩ := b
  simp only at *
  have m1 := ha.1
  have m2 := hb.1
  obtain rfl : bl = al := by omega
  obtain ⟨b1, o1, rfl, lt1, c1⟩ := ha.some (by omega)
  obtain ⟨b2, o2, rfl, lt2, c2⟩ := hb.some (by omega)
  have HC1 := Lib.hid c1
  have HC2 := Lib.hid c2
  have HF := Lib.hid (fun i (hi : i < bl) => hf i (by omega))
  have HT := Lib.hid (fun i (hi : i < bl) => ht i (by omega))
  have HBD := Lib.hid (fun k (hk : k ≤ bl) => mostD_bd hf ht k (by omega) (by omega))
  have HE := Lib.hid (show mostV fs ts = mostD fs ts bl by unfold mostV; rw [m1])
  have hb4 : bl ≤ 4 := by omega
  clear ha hb hl hn hn4 hf ht c1 c2 m1 m2
  go_enter Try.func48, Try.ntmps48
  go_wp2
  go_loopw [5, 9] (fun g i wr => ∃ k : Nat, k ≤ bl ∧ g = .int .i64 (mostD fs ts k) ∧ i = .int .i64 (k : Int) ∧ Hid (Below w.heap.size w wr)) (fun _ i _ => bl - (intOf i).toNat)
  case atStart => exact ⟨0, Nat.zero_le _, rfl, rfl, Lib.hid (Below.refl _ _)⟩
  case round =>
    obtain ⟨k, hk, rfl, rfl, HW⟩ := hrel
    by_cases hlt : k < bl
    · have d1 := keptCell (Nat.lt_of_lt_of_le lt1 HW.out.size) ((HW.out.cell (p := ⟨b1, o1 + k, none⟩) lt1).trans (HC1.out k hlt))
      have d2 := keptCell (Nat.lt_of_lt_of_le lt2 HW.out.size) ((HW.out.cell (p := ⟨b2, o2 + k, none⟩) lt2).trans (HC2.out k hlt))
      obtain ⟨f1, f2⟩ := HF.out k hlt
      obtain ⟨t1, t2⟩ := HT.out k hlt
      obtain ⟨g1, g2⟩ := HBD.out k hk
      have HS : Hid (mostD fs ts (k + 1) = max (mostD fs ts k) (max (ts.getD k 0 - fs.getD k 0) (fs.getD k 0 - ts.getD k 0))) := Lib.hid rfl
      generalize hmk : mostD fs ts k = g at *
      generalize hnk : mostD fs ts (k + 1) = gn at *
      replace hnk := Lib.hid hnk
      generalize fs.getD k 0 = x at *
      generalize ts.getD k 0 = y at *
      clear hmk
      have j1 : (0 : Int) ≤ (k : Int) := by omega
      have j2 : (k : Int) < (bl : Int) := by omega
      have o3 : IntKind.i64.wrap (y - x) = y - x := wrap_in (by omega) (by omega)
      have o4 : IntKind.i64.wrap (x - y) = x - y := wrap_in (by omega) (by omega)
      obtain ⟨p, e1⟩ : ∃ p, (if g < y - x then y - x else g) = p := ⟨_, rfl⟩
      have e2 : (if p < x - y then x - y else p) = gn := by rw [← e1, HS.out]; (repeat' split) <;> omega
      clear HS
      go_upto_region 5 with fail
      refine wp_region_ktail 19 (by kernel_rfl) (by kernel_rfl) ?_
      simp only [List.take_succ_cons, List.take_zero, List.drop_succ_cons, List.drop_zero]
      repeat (go_big_quiet_step (fail))
      refine wpQuiet_nil ?_
      rintro w2 ⟨⟨_, B2⟩, rfl⟩
      have HW2 := Lib.hid (below_call HW.out B2)
      clear d1 d2 B2
      have e3 : (if x - y > (if y - x > g then y - x else g) then x - y else if y - x > g then y - x else g) = gn := by simp only [gt_iff_lt]; rw [e1, e2]
      have HM : Sem.run Try.prog (Builtin.max_ #[3, 3, 3] 3 #[.int .i64 g, .int .i64 (y - x), .int .i64 (x - y)]) w2 = .ok (.int .i64 (if x - y > (if y - x > g then y - x else g) then x - y else if y - x > g then y - x else g)) w2 := by rfl
      rw [e3] at HM
      clear e3
      go_wp2
      go_roundw
      case rel => exact ⟨k + 1, by omega, by rw [hnk.out], by congr 1, HW2⟩
      case measure => simp [intOf]; omega
    · obtain rfl : k = bl := by omega
      have j2 : ¬ ((k : Int) < (k : Int)) := by omega
      go_wp2
      go_ret
      exact ⟨by rw [HE.out]; rfl, HW.out⟩
set_option maxHeartbeats 2000000 in
theorem l6Most (a b : Sl) (fs ts : List Int) (w : World) (ha : IntsAt w a.a a.len fs) (hb : IntsAt w b.a b.len ts) (hl : fs.length = ts.length) (hn : 1 ≤ fs.length) (hn4 : fs.length ≤ 4) (hf : half fs) (ht : half ts) :
    Calls Try.prog 50 #[.slice a.a a.len a.cap, .slice b.a b.len b.cap] w fun e w' => e = .returned (.int .i64 (mostV fs ts)) ∧ Below w.heap.size w w' := by
  obtain ⟨aa, al, ac⟩ := a
  obtain ⟨ba, bl, bc⟩ := b
  simp only at *
  have m1 := ha.1
  have m2 := hb.1
  obtain rfl : bl = al := by omega
  obtain ⟨b1, o1, rfl, lt1, c1⟩ := ha.some (by omega)
  obtain ⟨b2, o2, rfl, lt2, c2⟩ := hb.some (by omega)
  have HC1 := Lib.hid c1
  have HC2 := Lib.hid c2
  have HF := Lib.hid (fun i (hi : i < bl) => hf i (by omega))
  have HT := Lib.hid (fun i (hi : i < bl) => ht i (by omega))
  have HBD := Lib.hid (fun k (hk : k ≤ bl) => mostD_bd hf ht k (by omega) (by omega))
  have HE := Lib.hid (show mostV fs ts = mostD fs ts bl by unfold mostV; rw [m1])
  have hb4 : bl ≤ 4 := by omega
  clear ha hb hl hn hn4 hf ht c1 c2 m1 m2
  go_enter Try.func50, Try.ntmps50
  go_wp2
  go_loopw [5, 6] (fun g i wr => ∃ k : Nat, k ≤ bl ∧ g = .int .i64 (mostD fs ts k) ∧ i = .int .i64 (k : Int) ∧ Hid (Below w.heap.size w wr)) (fun _ i _ => bl - (intOf i).toNat)
  case atStart => exact ⟨0, Nat.zero_le _, rfl, rfl, Lib.hid (Below.refl _ _)⟩
  case round =>
    obtain ⟨k, hk, rfl, rfl, HW⟩ := hrel
    by_cases hlt : k < bl
    · have d1 := keptCell (Nat.lt_of_lt_of_le lt1 HW.out.size) ((HW.out.cell (p := ⟨b1, o1 + k, none⟩) lt1).trans (HC1.out k hlt))
      have d2 := keptCell (Nat.lt_of_lt_of_le lt2 HW.out.size) ((HW.out.cell (p := ⟨b2, o2 + k, none⟩) lt2).trans (HC2.out k hlt))
      obtain ⟨f1, f2⟩ := HF.out k hlt
      obtain ⟨t1, t2⟩ := HT.out k hlt
      obtain ⟨g1, g2⟩ := HBD.out k hk
      have HS : Hid (mostD fs ts (k + 1) = max (mostD fs ts k) (max (ts.getD k 0 - fs.getD k 0) (fs.getD k 0 - ts.getD k 0))) := Lib.hid rfl
      generalize hmk : mostD fs ts k = g at *
      generalize hnk : mostD fs ts (k + 1) = gn at *
      replace hnk := Lib.hid hnk
      generalize fs.getD k 0 = x at *
      generalize ts.getD k 0 = y at *
      clear hmk
      have j1 : (0 : Int) ≤ (k : Int) := by omega
      have j2 : (k : Int) < (bl : Int) := by omega
      have o3 : IntKind.i64.wrap (y - x) = y - x := wrap_in (by omega) (by omega)
      have o4 : IntKind.i64.wrap (x - y) = x - y := wrap_in (by omega) (by omega)
      obtain ⟨p, e1⟩ : ∃ p, (if x - y < y - x then y - x else x - y) = p := ⟨_, rfl⟩
      have e2 : (if g < p then p else g) = gn := by rw [← e1, HS.out]; (repeat' split) <;> omega
      clear HS
      go_upto_region 5 with fail
      refine wp_region_app 18 (by kernel_rfl) rfl rfl (by kernel_rfl) ?_
      simp only [List.take_succ_cons, List.take_zero, List.drop_succ_cons, List.drop_zero]
      repeat (go_big_quiet_step (fail))
      refine wpQuiet_nil ?_
      rintro w2 ⟨⟨_, B2⟩, rfl⟩
      have HW2 := Lib.hid (below_call HW.out B2)
      clear d1 d2 B2
      go_wp2
      refine NoPanic.normal ?_
      go_wp2
      go_roundw
      case rel => exact ⟨k + 1, by omega, by rw [hnk.out], by congr 1, HW2⟩
      case measure => simp [intOf]; omega
    · obtain rfl : k = bl := by omega
      have j2 : ¬ ((k : Int) < (k : Int)) := by omega
      go_wp2
      go_ret
      exact ⟨by rw [HE.out]; rfl, HW.out⟩
set_option maxHeartbeats 2000000 in
theorem implMoveTime (x y z a b : Sl) (ls lo hi fs ts : List Int) (t r : Int) (w : World) (hx : IntsAt w x.a x.len ls) (hy : IntsAt w y.a y.len lo) (hz : IntsAt w z.a z.len hi) (ha : IntsAt w a.a a.len fs) (hb : IntsAt w b.a b.len ts) (bx : x.len ≤ 9223372036854775807) (b_y : y.len ≤ 9223372036854775807) (bz : z.len ≤ 9223372036854775807) (ba : a.len ≤ 9223372036854775807) (bb : b.len ≤ 9223372036854775807) :
    Calls Try.prog 17 #[av x y z, .slice a.a a.len a.cap, .slice b.a b.len b.cap, .int .i64 t, .int .i64 r] w fun e w' => e = .returned (.int .i64 (moveT ls lo hi fs ts t r)) ∧ Below w.heap.size w w' := by
  have HB := Lib.hid (below_box w (.cells #[.slice x.a x.len x.cap, .slice y.a y.len y.cap, .slice z.a z.len z.cap] 25))
  go_enter Try.func17, Try.ntmps17
  go_wp2_with fail
  refine (chainOf x y z ls lo hi _ (hx.next HB.out) (hy.next HB.out) (hz.next HB.out) bx b_y bz).mono ?_
  rintro e w1 ⟨B1, ⟨hok, cb, rfl, _, hc⟩ | ⟨hok, rfl⟩⟩
  · have HB1 := Lib.hid (below_call HB.out B1)
    clear B1 hx hy hz
    go_wp2_with fail
    refine (allows cb _ a ls lo hi fs _ hc hok (ha.next HB1.out) ba).mono ?_
    rintro e w2 ⟨rfl, B2⟩
    replace HB1 := Lib.hid (below_call HB1.out B2)
    replace hc := hc.next B2
    clear B2
    by_cases hf : okJoints ls lo hi fs
    · rw [decide_eq_true hf]
      go_wp2_with fail
      refine (allows cb _ b ls lo hi ts _ hc hok (hb.next HB1.out) bb).mono ?_
      rintro e w3 ⟨rfl, B3⟩
      replace HB1 := Lib.hid (below_call HB1.out B3)
      clear B3 hc
      by_cases ht : okJoints ls lo hi ts
      · rw [decide_eq_true ht]
        have HY := Lib.hid (show okBoth ls lo hi fs ts from ⟨hf, ht⟩)
        have HLN := Lib.hid HY.out.len
        go_wp2_with fail
        refine (greatestTurn a b fs ts _ (ha.next HB1.out) (hb.next HB1.out) (by have := HLN.out; omega) (by have := HLN.out; omega) (by have := HLN.out; omega) hf.half ht.half).mono ?_
        rintro e w4 ⟨rfl, B4⟩
        replace HB1 := Lib.hid (below_call HB1.out B4)
        clear B4 hf ht hok
        go_wp2_with fail
        refine (implProfileTime (mostV fs ts) t r _).mono ?_
        rintro e w5 ⟨rfl, B5⟩
        replace HB1 := Lib.hid (below_call HB1.out B5)
        clear B5
        go_wp2
        go_ret
        exact ⟨by rw [moveT_in HY.out]; rfl, HB1.out⟩
      · rw [decide_eq_false ht]
        have HN := Lib.hid (show ¬ okBoth ls lo hi fs ts from fun k => ht k.2)
        clear ht hf hok
        go_wp2
        go_ret
        exact ⟨by rw [moveT_out HN.out]; rfl, HB1.out⟩
    · rw [decide_eq_false hf]
      have HN := Lib.hid (show ¬ okBoth ls lo hi fs ts from fun k => hf k.1)
      clear hf hok hc
      go_wp2
      go_ret
      exact ⟨by rw [moveT_out HN.out]; rfl, HB1.out⟩
  · have HN := Lib.hid (show ¬ okBoth ls lo hi fs ts from fun k => hok k.1.1)
    have HB1 := Lib.hid (below_call HB.out B1)
    clear B1 hx hy hz hok
    go_wp2_with fail
    refine (allowsNil a _).mono ?_
    rintro e w' ⟨rfl, rfl⟩
    go_wp2
    go_ret
    exact ⟨by rw [moveT_out HN.out]; rfl, HB1.out⟩
/-- The arguments of a coordinated motion. -/
def okMv (ls lo hi fs ts : List Int) (t r : Int) : Prop := okBoth ls lo hi fs ts ∧ (1 ≤ t ∧ t ≤ 200) ∧ (1 ≤ r ∧ r ≤ 50)
instance (ls lo hi fs ts : List Int) (t r : Int) : Decidable (okMv ls lo hi fs ts t r) := by unfold okMv; infer_instance
theorem l6Ok (x y z a b : Sl) (ls lo hi fs ts : List Int) (t r : Int) (w : World) (hx : IntsAt w x.a x.len ls) (hy : IntsAt w y.a y.len lo) (hz : IntsAt w z.a z.len hi) (ha : IntsAt w a.a a.len fs) (hb : IntsAt w b.a b.len ts) (bx : x.len ≤ 9223372036854775807) (b_y : y.len ≤ 9223372036854775807) (bz : z.len ≤ 9223372036854775807) (ba : a.len ≤ 9223372036854775807) (bb : b.len ≤ 9223372036854775807) :
    Calls Try.prog 49 #[av x y z, .slice a.a a.len a.cap, .slice b.a b.len b.cap, .int .i64 t, .int .i64 r] w fun e w' => e = .returned (.bool (decide (okMv ls lo hi fs ts t r))) ∧ Below w.heap.size w w' := by
  have HB := Lib.hid (below_box w (.cells #[.slice x.a x.len x.cap, .slice y.a y.len y.cap, .slice z.a z.len z.cap] 25))
  have P := AtA.box w (.slice x.a x.len x.cap) (.slice y.a y.len y.cap) (.slice z.a z.len z.cap) 25
  obtain ⟨_, a0, a1, a2, _, _, _⟩ := id P
  go_enter Try.func49, Try.ntmps49
  go_wp2_with fail
  refine (specJointsValid x y z a ls lo hi fs _ (hx.next HB.out) (hy.next HB.out) (hz.next HB.out) (ha.next HB.out) bx b_y bz ba).mono ?_
  rintro e w1 ⟨rfl, B1⟩
  replace P := P.next B1
  replace HB := Lib.hid (below_call HB.out B1)
  clear B1 a0 a1 a2
  by_cases hf : okJoints ls lo hi fs
  · rw [decide_eq_true hf]
    obtain ⟨_, a0, a1, a2, _, _, _⟩ := id P
    go_wp2_with fail
    refine (specJointsValid x y z b ls lo hi ts _ (hx.next HB.out) (hy.next HB.out) (hz.next HB.out) (hb.next HB.out) bx b_y bz bb).mono ?_
    rintro e w2 ⟨rfl, B2⟩
    replace HB := Lib.hid (below_call HB.out B2)
    clear B2 a0 a1 a2 P hx hy hz ha hb
    by_cases ht : okJoints ls lo hi ts
    · rw [decide_eq_true ht]
      by_cases h1 : 1 ≤ t ∧ t ≤ 200
      · go_wp2_with fail
        refine (l1In_yes t 1 200 _ h1.1 h1.2).mono ?_
        rintro e w' ⟨rfl, rfl⟩
        by_cases h2 : 1 ≤ r ∧ r ≤ 50
        · have HOK := Lib.hid (show okMv ls lo hi fs ts t r from ⟨⟨hf, ht⟩, h1, h2⟩)
          clear hf ht
          go_wp2_with fail
          refine (l1In_yes r 1 50 _ h2.1 h2.2).mono ?_
          rintro e w' ⟨rfl, rfl⟩
          go_wp2
          go_ret
          exact ⟨by rw [decide_eq_true HOK.out]; rfl, HB.out⟩
        · have HOK := Lib.hid (show ¬ okMv ls lo hi fs ts t r from fun k => h2 k.2.2)
          have h3 : r < 1 ∨ 50 < r := by omega
          clear hf ht h2
          go_wp2_with fail
          refine (l1In_no r 1 50 _ h3).mono ?_
          rintro e w' ⟨rfl, rfl⟩
          go_wp2
          go_ret
          exact ⟨by rw [decide_eq_false HOK.out]; rfl, HB.out⟩
      · have HOK := Lib.hid (show ¬ okMv ls lo hi fs ts t r from fun k => h1 k.2.1)
        have h3 : t < 1 ∨ 200 < t := by omega
        clear hf ht h1
        go_wp2_with fail
        refine (l1In_no t 1 200 _ h3).mono ?_
        rintro e w' ⟨rfl, rfl⟩
        go_wp2
        go_ret
        exact ⟨by rw [decide_eq_false HOK.out]; rfl, HB.out⟩
    · rw [decide_eq_false ht]
      have HOK := Lib.hid (show ¬ okMv ls lo hi fs ts t r from fun k => ht k.1.2)
      clear hf ht
      go_wp2
      go_ret
      exact ⟨by rw [decide_eq_false HOK.out]; rfl, HB.out⟩
  · rw [decide_eq_false hf]
    have HOK := Lib.hid (show ¬ okMv ls lo hi fs ts t r from fun k => hf k.1.1)
    clear hf P hx hy hz ha hb
    go_wp2
    go_ret
    exact ⟨by rw [decide_eq_false HOK.out]; rfl, HB.out⟩
theorem moveT_len {ls lo hi fs ts : List Int} {t r : Int} (h : okMv ls lo hi fs ts t r) : moveT ls lo hi fs ts t r = ((profV (mostV fs ts) t r).length : Int) := by
  have hm := h.1.move h.2.1 h.2.2
  rw [moveT_in h.1, timeV_in hm, profV_in hm]
theorem moveT_not {ls lo hi fs ts : List Int} {t r : Int} (h : ¬ okMv ls lo hi fs ts t r) : moveT ls lo hi fs ts t r = -1 := by
  by_cases hb : okBoth ls lo hi fs ts
  · rw [moveT_in hb, timeV_out (fun k => h ⟨hb, k.2⟩)]
  · exact moveT_out hb
set_option maxHeartbeats 2000000 in
theorem specMoveTime (x y z a b : Sl) (ls lo hi fs ts : List Int) (t r : Int) (w : World) (hx : IntsAt w x.a x.len ls) (hy : IntsAt w y.a y.len lo) (hz : IntsAt w z.a z.len hi) (ha : IntsAt w a.a a.len fs) (hb : IntsAt w b.a b.len ts) (bx : x.len ≤ 9223372036854775807) (b_y : y.len ≤ 9223372036854775807) (bz : z.len ≤ 9223372036854775807) (ba : a.len ≤ 9223372036854775807) (bb : b.len ≤ 9223372036854775807) :
    Calls Try.prog 19 #[av x y z, .slice a.a a.len a.cap, .slice b.a b.len b.cap, .int .i64 t, .int .i64 r] w fun e w' => e = .returned (.int .i64 (moveT ls lo hi fs ts t r)) ∧ Below w.heap.size w w' := by
  have HB := Lib.hid (below_box w (.cells #[.slice x.a x.len x.cap, .slice y.a y.len y.cap, .slice z.a z.len z.cap] 25))
  have P := AtA.box w (.slice x.a x.len x.cap) (.slice y.a y.len y.cap) (.slice z.a z.len z.cap) 25
  obtain ⟨_, a0, a1, a2, _, _, _⟩ := id P
  go_enter Try.func19, Try.ntmps19
  go_wp2_with fail
  refine (l6Ok x y z a b ls lo hi fs ts t r _ (hx.next HB.out) (hy.next HB.out) (hz.next HB.out) (ha.next HB.out) (hb.next HB.out) bx b_y bz ba bb).mono ?_
  rintro e w1 ⟨rfl, B1⟩
  replace HB := Lib.hid (below_call HB.out B1)
  clear B1 a0 a1 a2 P hx hy hz
  by_cases h : okMv ls lo hi fs ts t r
  · rw [decide_eq_true h]
    have HM := Lib.hid (moveT_len h)
    have HLN := Lib.hid h.1.len
    have HH := Lib.hid (And.intro h.1.1.half h.1.2.half)
    clear h
    go_wp2_with fail
    refine (l6Most a b fs ts _ (ha.next HB.out) (hb.next HB.out) (by have := HLN.out; omega) (by have := HLN.out; omega) (by have := HLN.out; omega) HH.out.1 HH.out.2).mono ?_
    rintro e w4 ⟨rfl, B4⟩
    replace HB := Lib.hid (below_call HB.out B4)
    clear B4 ha hb
    go_wp2_with fail
    refine (specMotionProfile (mostV fs ts) t r _).mono ?_
    rintro e w5 ⟨⟨pa, pl, pc⟩, rfl, l5, _, B5⟩
    replace HB := Lib.hid (below_call HB.out B5)
    replace l5 := Lib.hid l5
    have HPL := Lib.hid (profV_len (mostV fs ts) t r)
    clear B5
    go_wp2
    go_ret
    exact ⟨by rw [HM.out, ← l5.out]; rfl, HB.out⟩
  · rw [decide_eq_false h]
    have HM := Lib.hid (moveT_not h)
    clear h ha hb
    go_wp2
    go_ret
    exact ⟨by rw [HM.out]; rfl, HB.out⟩
end Go.Proofs.Ytcoaahfnbgkofaa
