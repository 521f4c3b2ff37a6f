/- The program's test of a convex polygon. -/
import Derived.Test.YtcifokihellcdaaDoorEd8
import Derived.Test.YtcifokihellcdaaDoorZbKt
import Derived.Test.YtcifokihellcdaaDoorZbNum
namespace Go.Proofs.YtcifokihellcdaaDoor
set_option maxRecDepth 100000
open Go.RowKit Go.Shelf
attribute [local go_sem] Oper.semAt_some
theorem oriC (a b c : P2) (w : World) : Calls Tryd.prog 100 #[pt a.1 a.2, pt b.1 b.2, pt c.1 c.2] w fun e w' => e = .returned (.int .i64 (ori a b c)) ∧ Below w.heap.size w w' :=
  implOrientation a.1 a.2 b.1 b.2 c.1 c.2 w
set_option maxHeartbeats 1000000 in
theorem cornersLeft (a : Option Addr) (len cap : Nat) (ps : List P2) (p q : P2) (w : World) (hp : PL w a len ps) (hl : len ≤ 1000) :
    Calls Tryd.prog 91 #[.slice a len cap, pt p.1 p.2, pt q.1 q.2] w fun e w' => e = .returned (.int .i64 (leftN ps p q ps.length : Nat)) ∧ Below w.heap.size w w' := by
  have HLE := Lib.hid hp.1
  have HB := Lib.hid (below_box2 w (.cells #[.int .i64 p.1, .int .i64 p.2] 34) (.cells #[.int .i64 q.1, .int .i64 q.2] 34))
  have HP := Lib.hid (hp.next HB.out)
  have HQ := Lib.hid (And.intro ((AtP.box w p.1 p.2 34).next (below_box _ (.cells #[.int .i64 q.1, .int .i64 q.2] 34))) (AtP.box (w.alloc (.cells #[.int .i64 p.1, .int .i64 p.2] 34)) q.1 q.2 34))
  clear hp
  go_enter Tryd.func91, Tryd.ntmps91
  go_wp2
  generalize (w.alloc (.cells #[.int .i64 p.1, .int .i64 p.2] 34)).alloc (.cells #[.int .i64 q.1, .int .i64 q.2] 34) = w0 at *
  go_loopw [7, 12] (fun c i wr => ∃ j : Nat, j ≤ len ∧ i = .int .i64 (j : Int) ∧ c = .int .i64 (leftN ps p q j : Nat) ∧ Hid (Below w0.heap.size w0 wr)) (fun _ i _ => len - (intOf i).toNat)
  case atStart => exact ⟨0, Nat.zero_le _, rfl, rfl, Lib.hid (Below.refl _ _)⟩
  case round =>
    obtain ⟨j, hj, rfl, rfl, HW⟩ := hrel
    by_cases hlt : j < len
    · have HP1 := Lib.hid (HP.out.next HW.out)
      have HQ1 := Lib.hid (And.intro (HQ.out.1.next HW.out) (HQ.out.2.next HW.out))
      obtain ⟨b, o, rfl, lt, hc⟩ := HP1.out.somes (by omega)
      have d1 := (hc j hlt).1
      have d2 := (hc j hlt).2
      have HC := Lib.hid (oriC p q (cor ps j))
      have HST := Lib.hid (show leftN ps p q (j + 1) = leftN ps p q j + if 0 < ori p q (cor ps j) then 1 else 0 from rfl)
      have HBD := Lib.hid (cnt_le (fun i => 0 < ori p q (cor ps i)) j)
      change Hid (leftN ps p q j ≤ j) at HBD
      clear hc
      generalize cor ps j = c at *
      generalize ori p q c = ov at *
      generalize leftN ps p q j = n1 at *
      have b1 : (0 : Int) ≤ (n1 : Int) := by omega
      have b2 : (n1 : Int) ≤ 1000 := by have := HBD.out; omega
      have j1 : (0 : Int) ≤ (j : Int) := by omega
      have j2 : (j : Int) < (len : Int) := by omega
      obtain ⟨_, q1, q2⟩ := HQ1.out.1.next (below_box wr (.cells #[.int .i64 c.1, .int .i64 c.2] 34))
      obtain ⟨_, q3, q4⟩ := HQ1.out.2.next (below_box wr (.cells #[.int .i64 c.1, .int .i64 c.2] 34))
      simp only [World.size_alloc] at q3 q4
      by_cases hk : 0 < ov
      · have hd : decide (ov > 0) = true := decide_eq_true hk
        have HN := Lib.hid (show leftN ps p q (j + 1) = n1 + 1 by rw [HST.out, if_pos hk])
        go_wp2_with fail
        refine (HC.out _).mono ?_
        rintro e w1 ⟨rfl, B1⟩
        have HW2 := Lib.hid (below_call (below_call HW.out (below_box wr (.cells #[.int .i64 c.1, .int .i64 c.2] 34))) B1)
        clear B1 d1 d2 q1 q2 q3 q4
        go_wp2
        go_roundw
        case rel => exact ⟨j + 1, by omega, by congr 1, by rw [HN.out]; rfl, HW2⟩
        case measure => simp [intOf]; omega
      · have hd : decide (ov > 0) = false := decide_eq_false hk
        have HN := Lib.hid (show leftN ps p q (j + 1) = n1 by rw [HST.out, if_neg hk]; rfl)
        go_wp2_with fail
        refine (HC.out _).mono ?_
        rintro e w1 ⟨rfl, B1⟩
        have HW2 := Lib.hid (below_call (below_call HW.out (below_box wr (.cells #[.int .i64 c.1, .int .i64 c.2] 34))) B1)
        clear B1 d1 d2 q1 q2 q3 q4
        go_wp2
        go_roundw
        case rel => exact ⟨j + 1, by omega, by congr 1, by rw [HN.out], HW2⟩
        case measure => simp [intOf]; omega
    · obtain rfl : j = len := by omega
      have HN := Lib.hid HLE.out
      go_wp2
      go_ret
      exact ⟨by rw [HN.out]; rfl, below_call HB.out HW.out⟩
set_option maxHeartbeats 2000000 in
theorem convexIn (a : Option Addr) (len cap : Nat) (ps : List P2) (w : World) (hp : PL w a len ps) (h3 : 3 ≤ len) (h8 : len ≤ 8) :
    Calls Tryd.prog 79 #[.slice a len cap] w fun e w' => e = .returned (.bool (decide (okCvx ps))) ∧ Below w.heap.size w w' := by
  refine (callsIn_wide (n := 9)).1 ?_
  have HLE := Lib.hid hp.1
  have HCV := Lib.hid (cvx_count (ps := ps) (by rw [← hp.1]; exact h3) (by rw [← hp.1]; exact h8))
  have HB := Lib.hid (below_box2 w (.cells #[.slice a len cap] 107) (.cells #[.bool false] 4))
  have HP := Lib.hid (hp.next HB.out)
  have HX := Lib.hid ((Cells8.new w #[.slice a len cap] 107).alloc (.cells #[.bool false] 4))
  have HR := Lib.hid (Cells8.new (w.alloc (.cells #[.slice a len cap] 107)) #[.bool false] 4)
  have j3 : (3 : Int) ≤ (len : Int) := by omega
  have j8 : (len : Int) ≤ 8 := by omega
  have k3 : ¬ (len : Int) < 3 := by omega
  have k8 : ¬ (8 : Int) < (len : Int) := by omega
  clear hp
  refine callsIn_of_wp_marks Tryd.func79 rfl trivial ?_ rfl
  simp only [Tryd.ntmps79, List.size_toArray, List.length_cons, List.length_nil, Nat.reduceAdd, Nat.reduceSub, Array.replicate_succ, Array.replicate_zero, List.push_toArray, List.append_toArray, List.nil_append, List.cons_append]
  gi_wp2
  rw [World.size_alloc] at HR
  generalize (w.alloc (.cells #[.slice a len cap] 107)).alloc (.cells #[.bool false] 4) = w2 at *
  refine ⟨trivial, ?_⟩
  refine (callsIn_wide.2 (edgesC a len cap ps w2 HP.out)).mono ?_
  rintro e w3 ⟨Bp, rfl, S3, B3, k1⟩
  have HS3 := Lib.hid S3
  have HX3 := Lib.hid (HX.out.next B3)
  have HR3 := Lib.hid (HR.out.next B3)
  have HB3 := Lib.hid (below_call HB.out B3)
  have hs2 := HR.out.lt
  have hs3 := B3.size
  clear S3 B3 HX HR HB HP
  gi_wp2
  refine wpIn_rangeFunc_ownH rfl (by omega) (gf := 99) (lb := #[.pointer (some ⟨Bp, 0, none⟩)]) rfl trivial (fun args w => by kernel_rfl)
    (edgesStopsK (Below w3.heap.size) Bp a len cap ps w3 (fun _ _ hk h => HS3.out.keepB h hk) HS3.out (by omega) 8)
    belowK_t (belowK_b (Nat.le_refl _)) (Below.refl _ _) (fun _ => rfl)
    (Seek (fun x => leftN ps x.1 x.2 ps.length ≠ ps.length - 2) w3)
    (Found (fun x => leftN ps x.1 x.2 ps.length ≠ ps.length - 2) w (w.heap.size + 1) (.bool false))
    seek_own (found_own (by omega))
    ⟨fun _ h => (by cases h), Below.refl _ _⟩
    (fun x a' W => ∃ B1 B2, Ends W w3.heap.size x B1 B2 ∧ a' = { tmps := #[.slice a len cap, .pointer (some ⟨w.heap.size, 0, none⟩), .pointer (some ⟨w.heap.size + 1, 0, none⟩), .pointer (some ⟨B1, 0, none⟩), .pointer (some ⟨B2, 0, none⟩), .slice a len cap,
          .int .i64 (len : Nat), .bool false, .bool false, .slice a len cap, .int .i64 (len : Nat), .bool false, .bool false, .slice a len cap,
          .func (.func 99) #[] #[.pointer (some ⟨Bp, 0, none⟩)], pt x.1.1 x.1.2, pt x.2.1 x.2.2, undef, undef, undef, undef, undef, undef, undef, undef], defers := [] })
    (fun x a' _ X Y row hs hg hr => by obtain ⟨B1, B2, h1, h2⟩ := hs; exact ⟨B1, B2, ends_own () X Y row h1 hg hr, h2⟩)
    ?assign ?body ?done ?stop
  case assign =>
    rintro l pre x W K ⟨h1, h3⟩ hK
    have hsz := h3.size
    have HK := Lib.hid (hK _ _ ((keepsBelow8 (below_box2 W (.cells #[.int .i64 x.1.1, .int .i64 x.1.2] 34) (.cells #[.int .i64 x.2.1, .int .i64 x.2.2] 34))).from _) ((below_box2 W _ _).mono hsz) ⟨h1, below_call h3 (below_box2 W _ _)⟩ ⟨W.heap.size, W.heap.size + 1, Ends.new W hsz x, rfl⟩)
    clear hK h1 h3
    gi_wp2
    exact HK.out
  case body =>
    rintro l pre x a' W hl ⟨r', hr⟩ ⟨h1, h3⟩ ⟨B1, B2, E, rfl⟩ hlen
    have HE := Lib.hid E
    have H1 := Lib.hid h1
    have H3 := Lib.hid h3
    have HPW := Lib.hid (HS3.out.pts.next h3)
    have HXW := Lib.hid (HX3.out.next h3)
    have HRW := Lib.hid (HR3.out.next h3)
    clear h1 h3 E hlen hr
    have HCL := Lib.hid (fun (q : Kept W) => keptCall (cornersLeft a len cap ps x.1 x.2 q.u (HPW.out.next q.b) (by omega)))
    have u0 : ∀ q : Kept W, q.u.cell? ⟨w.heap.size, 0, none⟩ = some (.slice a len cap) := keptCell HXW.out.lt (HXW.out.cell (i := 0) rfl)
    obtain ⟨u1, u2⟩ := HE.out.p1.kepts
    obtain ⟨u3, u4⟩ := HE.out.p2.kepts
    refine wpIn_block (wpIn_seq ?_)
    refine wpIn_region_tailR 7 (by kernel_rfl) (by kernel_rfl) (by kernel_rfl) ?_
    simp only [List.take_succ_cons, List.take_zero, List.drop_succ_cons, List.drop_zero]
    repeat (go_big_quiet_step ((go_at_call 91; exact HCL.out _)))
    refine wpQuiet_nil ?_
    rintro w5 ⟨⟨_, K5⟩, rfl⟩
    have HR5 := Lib.hid (HRW.out.next K5)
    have r0 := HR5.out.cell (i := 0) rfl
    have f0 := HR5.out.frozen (i := 0)
    clear u0 u1 u2 u3 u4 HCL
    by_cases hC : leftN ps x.1 x.2 ps.length ≠ ps.length - 2
    · have HCC := Lib.hid hC
      have hd : ((leftN ps x.1 x.2 ps.length : Nat) : Int) ≠ (len : Int) - 2 := by have := HLE.out; omega
      have hd2 : (((leftN ps x.1 x.2 ps.length : Nat) : Int) == (len : Int) - 2) = false := by simpa using hd
      have hd3 : (((leftN ps x.1 x.2 ps.length : Nat) : Int) != (len : Int) - 2) = true := by simpa using hd
      clear hC
      gi_wp2
      exact ⟨((keepsBelow8 K5).trans (KeepsOthers.setCell _ _ _)).from _, rfl, ex_snoc HCC.out, HR5.out.set 0 _, (below_call (below_call HB3.out H3.out) K5).setCell (p := ⟨w.heap.size + 1, 0, none⟩) (by show w.heap.size ≤ w.heap.size + 1; omega) _⟩
    · have HCC := Lib.hid hC
      have hd : ((leftN ps x.1 x.2 ps.length : Nat) : Int) = (len : Int) - 2 := by have := HLE.out; omega
      have hd2 : (((leftN ps x.1 x.2 ps.length : Nat) : Int) != (len : Int) - 2) = false := by simpa using hd
      clear hC hd
      gi_wp2
      exact ⟨(keepsBelow8 K5).from _, K5.mono H3.out.size, all_snoc H1.out HCC.out, below_call H3.out K5⟩
  case done =>
    rintro D ys W hD rfl ⟨h1, h3⟩ hK
    have HV := Lib.hid (show (true : Bool) = decide (okCvx ps) from (decide_eq_true (HCV.out.1 fun k hk => Classical.byContradiction fun q => all_edges h1 k hk q)).symm)
    have HRW := Lib.hid (HR3.out.next h3)
    have HBW := Lib.hid (below_call HB3.out h3)
    have HK := Lib.hid hK
    have HD := Lib.hid hD
    have r0 := HRW.out.cell (i := 0) rfl
    have f0 := HRW.out.frozen (i := 0)
    clear h1 h3 hK hD
    gi_wp2
    have hK6 := (KeepsOthers.setCell W ⟨w.heap.size + 1, 0, none⟩ (.bool true)).same D _ HK.out rfl
    refine ⟨by simp, .inl ⟨_, _, rfl, run_takeDeferred hK6, ?_⟩⟩
    have hne : w.heap.size + 1 ≠ D := by have := HD.out; omega
    have q := (World.putObj_heap_other (w := W.setCell ⟨w.heap.size + 1, 0, none⟩ (.bool true)) (o := .deferred none) hne).trans (HRW.out.set 0 (.bool true))
    have q0 := Cells8.cell (i := 0) q rfl
    refine ⟨.bool true, by simp [results, Tryd.results79, go_sem, q0], ?_, (HBW.out.setCell (p := ⟨w.heap.size + 1, 0, none⟩) (by show w.heap.size ≤ w.heap.size + 1; omega) _).trans (belowK_b (w := w) (Nat.le_refl _) _ D _ _ (by have := HD.out; omega) hK6 rfl rfl)⟩
    rw [HV.out]
  case stop =>
    rintro D c pre W hD ⟨k, hk, rfl⟩ ⟨rfl, h1, h2, h3⟩ hK
    have HV := Lib.hid (show (false : Bool) = decide (okCvx ps) from (decide_eq_false fun ok => by obtain ⟨i, hi, hc⟩ := ex_edge hk h1; exact hc (HCV.out.2 ok i hi)).symm)
    have HRW := Lib.hid h2
    have HBW := Lib.hid h3
    have HK := Lib.hid hK
    have HD := Lib.hid hD
    clear h1 h2 h3 hK hD
    gi_wp2
    refine ⟨by simp, .inl ⟨_, _, rfl, run_takeDeferred HK.out, ?_⟩⟩
    have hne : w.heap.size + 1 ≠ D := by have := HD.out; omega
    have q := (World.putObj_heap_other (w := W) (o := .deferred none) hne).trans HRW.out
    have q0 := Cells8.cell (i := 0) q rfl
    refine ⟨.bool false, by simp [results, Tryd.results79, go_sem, q0], ?_, HBW.out.trans (belowK_b (w := w) (Nat.le_refl _) _ D _ _ (by have := HD.out; omega) HK.out rfl rfl)⟩
    rw [HV.out]
theorem convexC (a : Option Addr) (len cap : Nat) (ps : List P2) (w : World) (hp : PL w a len ps) (hl : len ≤ 9223372036854775807) :
    Calls Tryd.prog 79 #[.slice a len cap] w fun e w' => e = .returned (.bool (decide (okCvx ps))) ∧ Below w.heap.size w w' := by
  have HLE := Lib.hid hp.1
  have HB := Lib.hid (below_box2 w (.cells #[.slice a len cap] 107) (.cells #[.bool false] 4))
  by_cases h3 : 3 ≤ len
  · by_cases h8 : len ≤ 8
    · exact convexIn a len cap ps w hp h3 h8
    · have HV := Lib.hid (show (false : Bool) = decide (okCvx ps) from (decide_eq_false fun ok => by have := HLE.out; have := ok.2.1; omega).symm)
      have j3 : ¬ (len : Int) < 3 := by omega
      have j8 : (8 : Int) < (len : Int) := by omega
      clear hp
      go_enter Tryd.func79, Tryd.ntmps79
      go_wp2
      exact bodyPost_ret (v := .bool false) (by simp [results, Tryd.results79, go_sem]) rfl ⟨by rw [HV.out], HB.out⟩
  · have HV := Lib.hid (show (false : Bool) = decide (okCvx ps) from (decide_eq_false fun ok => by have := HLE.out; have := ok.1; omega).symm)
    have j3 : (len : Int) < 3 := by omega
    clear hp
    go_enter Tryd.func79, Tryd.ntmps79
    go_wp2
    exact bodyPost_ret (v := .bool false) (by simp [results, Tryd.results79, go_sem]) rfl ⟨by rw [HV.out], HB.out⟩
theorem implConvexValid (a : Option Addr) (len cap : Nat) (ps : List P2) (w : World) (hp : PL w a len ps) (hl : len ≤ 9223372036854775807) :
    Calls Tryd.prog 58 #[.slice a len cap] w fun e w' => e = .returned (.bool (decide (okCvx ps))) ∧ Below w.heap.size w w' := by
  have HC := Lib.hid (convexC a len cap ps w hp hl)
  clear hp
  go_enter Tryd.func58, Tryd.ntmps58
  go_wp2_with fail
  refine HC.out.mono ?_
  rintro e w1 ⟨rfl, B1⟩
  have HB := Lib.hid B1
  clear B1
  go_wp2
  go_ret
  exact ⟨rfl, HB.out⟩
end Go.Proofs.YtcifokihellcdaaDoor
