/- Several of my texts in one: Sk8, Sk8b, Sk8c, Da8. -/
import Derived.Test.YtkogoflcacameaaDoorZcCol
namespace Go.Proofs.YtkogoflcacameaaDoor
set_option maxRecDepth 100000
open Go.RowKit Go.Shelf
attribute [local go_sem] Oper.semAt_some
set_option maxHeartbeats 2000000 in
theorem containsC (a : Option Addr) (len cap : Nat) (ps : List P2) (p : P2) (w : World) (hp : PL w a len ps) (hl : len ≤ 1000) :
    Calls Tryd.prog 84 #[.slice a len cap, pt p.1 p.2] w fun e w' => e = .returned (.bool (decide (conV ps p))) ∧ Below w.heap.size w w' := by
  refine (callsIn_wide (n := 9)).1 ?_
  have HLE := Lib.hid hp.1
  have HB := Lib.hid (below_box2 w (.cells #[.int .i64 p.1, .int .i64 p.2] 89) (.cells #[.bool false] 4))
  have HP := Lib.hid (hp.next HB.out)
  have HX := Lib.hid ((Cells8.new w #[.int .i64 p.1, .int .i64 p.2] 89).alloc (.cells #[.bool false] 4))
  have HR := Lib.hid (Cells8.new (w.alloc (.cells #[.int .i64 p.1, .int .i64 p.2] 89)) #[.bool false] 4)
  clear hp
  refine callsIn_of_wp_marks Tryd.func84 rfl trivial ?_ rfl
  simp only [Tryd.ntmps84, List.size_toArray, List.length_cons, List.length_nil, Nat.reduceAdd, Nat.reduceSub, Array.replicate_succ, Array.replicate_zero, List.push_toArray, List.append_toArray, List.nil_append, List.cons_append]
  gi_wp2
  rw [World.size_alloc] at HR
  generalize (w.alloc (.cells #[.int .i64 p.1, .int .i64 p.2] 89)).alloc (.cells #[.bool false] 4) = w2 at *
  refine ⟨trivial, ?_⟩
  refine (callsIn_wide.2 (edgesC a len cap ps w2 HP.out)).mono ?_
  rintro e w3 ⟨Bp, rfl, S3, B3, k1⟩
  have HS3 := Lib.hid S3
  have HR3 := Lib.hid (HR.out.next B3)
  have HB3 := Lib.hid (below_call HB.out B3)
  have HX3 := Lib.hid (HX.out.next B3)
  have hs2 := HR.out.lt
  have hs3 := B3.size
  clear S3 B3 HX HR HB HP
  gi_wp2
  refine wpIn_rangeFunc_ownH rfl (by omega) (gf := 91) (lb := #[.pointer (some ⟨Bp, 0, none⟩)]) rfl trivial (fun args w => by kernel_rfl)
    (edgesStopsK (Below w3.heap.size) Bp a len cap ps w3 (fun _ _ hk h => HS3.out.keepB h hk) HS3.out (by omega) 8)
    belowK_t (belowK_b (Nat.le_refl _)) (Below.refl _ _) (fun _ => rfl)
    (Seek (outE p) w3)
    (Found (outE p) w (w.heap.size + 1) (.bool false))
    seek_own (found_own (by omega))
    ⟨fun _ h => (by cases h), Below.refl _ _⟩
    (fun x a' W => ∃ B1 B2, Ends W w3.heap.size x B1 B2 ∧ a' = { tmps := #[.slice a len cap, pt p.1 p.2, undef, .pointer (some ⟨w.heap.size, 0, none⟩), .pointer (some ⟨w.heap.size + 1, 0, none⟩), .pointer (some ⟨B1, 0, none⟩), .pointer (some ⟨B2, 0, none⟩), .slice a len cap, .func (.func 91) #[] #[.pointer (some ⟨Bp, 0, none⟩)], pt x.1.1 x.1.2, pt x.2.1 x.2.2, undef, undef, undef, undef, undef], defers := [] })
    (fun x a' _ X Y row hs hg hr => by obtain ⟨B1, B2, h1, h2⟩ := hs; exact ⟨B1, B2, ends_own () X Y row h1 hg hr, h2⟩)
    ?assign ?body ?done ?stop
  case assign =>
    rintro l pre x W K ⟨h1, h3⟩ hK
    have hsz := h3.size
    have HK := Lib.hid (hK _ _ ((keepsBelow8 (below_box2 W (.cells #[.int .i64 x.1.1, .int .i64 x.1.2] 89) (.cells #[.int .i64 x.2.1, .int .i64 x.2.2] 89))).from _) ((below_box2 W _ _).mono hsz) ⟨h1, below_call h3 (below_box2 W _ _)⟩ ⟨W.heap.size, W.heap.size + 1, Ends.new W hsz x, rfl⟩)
    clear hK h1 h3
    gi_wp2
    exact HK.out
  case body =>
    rintro l pre x a' W hl ⟨r', hr⟩ ⟨h1, h3⟩ ⟨B1, B2, E, rfl⟩ hlen
    have HE := Lib.hid E
    have H1 := Lib.hid h1
    have H3 := Lib.hid h3
    clear h1 h3 E hlen hr
    have HXW := Lib.hid (HX3.out.next H3.out)
    have HRW := Lib.hid (HR3.out.next H3.out)
    have HC := Lib.hid (oriC x.1 x.2 p)
    have c0 := HXW.out.cell (i := 0) rfl
    have c1 := HXW.out.cell (i := 1) rfl
    obtain ⟨_, e1, e2⟩ := HE.out.p1
    obtain ⟨_, e3, e4⟩ := HE.out.p2
    by_cases hC : (outE p) x
    · have HCC := Lib.hid hC
      have hd : decide (ori x.1 x.2 p < 0) = true := decide_eq_true hC
      clear hC
      gi_wp2_with (refine ⟨trivial, ?_⟩; gi_at_call 92; refine (CallsIn.inRound l (callsIn_wide.2 (HC.out _))).mono ?_; rintro e w5 ⟨rfl, K5⟩; have HR5 := Lib.hid (HRW.out.next K5); have r0 := HR5.out.cell (i := 0) rfl; have f0 := HR5.out.frozen (i := 0); clear c0 c1 e1 e2 e3 e4)
      exact ⟨((keepsBelow8 K5).trans (KeepsOthers.setCell _ _ _)).from _, rfl, ex_snoc HCC.out, HR5.out.set 0 _, (below_call (below_call HB3.out H3.out) K5).setCell (p := ⟨w.heap.size + 1, 0, none⟩) (by show w.heap.size ≤ w.heap.size + 1; omega) _⟩
    · have HCC := Lib.hid hC
      have hd : decide (ori x.1 x.2 p < 0) = false := decide_eq_false hC
      clear hC
      gi_wp2_with (refine ⟨trivial, ?_⟩; gi_at_call 92; refine (CallsIn.inRound l (callsIn_wide.2 (HC.out _))).mono ?_; rintro e w5 ⟨rfl, K5⟩; have HR5 := Lib.hid (HRW.out.next K5); have r0 := HR5.out.cell (i := 0) rfl; have f0 := HR5.out.frozen (i := 0); clear c0 c1 e1 e2 e3 e4)
      exact ⟨(keepsBelow8 K5).from _, K5.mono H3.out.size, all_snoc H1.out HCC.out, below_call H3.out K5⟩
  case done =>
    rintro D ys W hD rfl ⟨h1, h3⟩ hK
    have HV := Lib.hid (show (true : Bool) = decide (conV ps p) from (decide_eq_true (p := conV ps p) (fun k hk => Int.not_lt.1 (all_edges h1 k hk))).symm)
    have HRW := Lib.hid (HR3.out.next h3)
    have HBW := Lib.hid (below_call HB3.out h3)
    have HK := Lib.hid hK
    have HD := Lib.hid hD
    have r0 := HRW.out.cell (i := 0) rfl
    have f0 := HRW.out.frozen (i := 0)
    clear h1 h3 hK hD
    gi_wp2
    have hK6 := (KeepsOthers.setCell W ⟨w.heap.size + 1, 0, none⟩ (.bool true)).same D _ HK.out rfl
    refine ⟨by simp, .inl ⟨_, _, rfl, run_takeDeferred hK6, ?_⟩⟩
    have hne : w.heap.size + 1 ≠ D := by have := HD.out; omega
    have q := (World.putObj_heap_other (w := W.setCell ⟨w.heap.size + 1, 0, none⟩ (.bool true)) (o := .deferred none) hne).trans (HRW.out.set 0 (.bool true))
    have q0 := Cells8.cell (i := 0) q rfl
    refine ⟨.bool true, by simp [results, Tryd.results84, go_sem, q0], ?_, (HBW.out.setCell (p := ⟨w.heap.size + 1, 0, none⟩) (by show w.heap.size ≤ w.heap.size + 1; omega) _).trans (belowK_b (w := w) (Nat.le_refl _) _ D _ _ (by have := HD.out; omega) hK6 rfl rfl)⟩
    rw [HV.out]
  case stop =>
    rintro D c pre W hD ⟨k, hk, rfl⟩ ⟨rfl, h1, h2, h3⟩ hK
    have HV := Lib.hid (show (false : Bool) = decide (conV ps p) from (decide_eq_false fun ok => by obtain ⟨i, hi, hc⟩ := ex_edge hk h1; exact Int.not_lt.2 (ok i hi) hc).symm)
    have HRW := Lib.hid h2
    have HBW := Lib.hid h3
    have HK := Lib.hid hK
    have HD := Lib.hid hD
    clear h1 h2 h3 hK hD
    gi_wp2
    refine ⟨by simp, .inl ⟨_, _, rfl, run_takeDeferred HK.out, ?_⟩⟩
    have hne : w.heap.size + 1 ≠ D := by have := HD.out; omega
    have q := (World.putObj_heap_other (w := W) (o := .deferred none) hne).trans HRW.out
    have q0 := Cells8.cell (i := 0) q rfl
    refine ⟨.bool false, by simp [results, Tryd.results84, go_sem, q0], ?_, HBW.out.trans (belowK_b (w := w) (Nat.le_refl _) _ D _ _ (by have := HD.out; omega) HK.out rfl rfl)⟩
    rw [HV.out]
end Go.Proofs.YtkogoflcacameaaDoor
namespace Go.Proofs.YtkogoflcacameaaDoor
set_option maxRecDepth 100000
open Go.RowKit Go.Shelf
attribute [local go_sem] Oper.semAt_some
set_option maxHeartbeats 2000000 in
theorem hitsC (a : Option Addr) (len cap : Nat) (ps : List P2) (p q : P2) (w : World) (hp : PL w a len ps) (hl : len ≤ 1000) :
    Calls Tryd.prog 72 #[.slice a len cap, pt p.1 p.2, pt q.1 q.2] w fun e w' => e = .returned (.bool (decide (hitV ps p q))) ∧ Below w.heap.size w w' := by
  refine (callsIn_wide (n := 9)).1 ?_
  have HLE := Lib.hid hp.1
  have HB := Lib.hid (below_box3 w (.cells #[.int .i64 p.1, .int .i64 p.2] 89) (.cells #[.int .i64 q.1, .int .i64 q.2] 89) (.cells #[.bool false] 4))
  have HP := Lib.hid (hp.next HB.out)
  have HX := Lib.hid (((Cells8.new w #[.int .i64 p.1, .int .i64 p.2] 89).alloc (.cells #[.int .i64 q.1, .int .i64 q.2] 89)).alloc (.cells #[.bool false] 4))
  have HY := Lib.hid ((Cells8.new (w.alloc (.cells #[.int .i64 p.1, .int .i64 p.2] 89)) #[.int .i64 q.1, .int .i64 q.2] 89).alloc (.cells #[.bool false] 4))
  have HR := Lib.hid (Cells8.new ((w.alloc (.cells #[.int .i64 p.1, .int .i64 p.2] 89)).alloc (.cells #[.int .i64 q.1, .int .i64 q.2] 89)) #[.bool false] 4)
  rw [World.size_alloc] at HY
  rw [World.size_alloc, World.size_alloc] at HR
  clear hp
  refine callsIn_of_wp_marks Tryd.func72 rfl trivial ?_ rfl
  simp only [Tryd.ntmps72, List.size_toArray, List.length_cons, List.length_nil, Nat.reduceAdd, Nat.reduceSub, Array.replicate_succ, Array.replicate_zero, List.push_toArray, List.append_toArray, List.nil_append, List.cons_append]
  have HC := Lib.hid (containsC a len cap ps p _ HP.out hl)
  by_cases hcon : conV ps p
  · have HV := Lib.hid (show true = decide (hitV ps p q) from (decide_eq_true (p := hitV ps p q) (.inl hcon)).symm)
    rw [decide_eq_true hcon] at HC
    clear hcon
    gi_wp2
    generalize ((w.alloc (.cells #[.int .i64 p.1, .int .i64 p.2] 89)).alloc (.cells #[.int .i64 q.1, .int .i64 q.2] 89)).alloc (.cells #[.bool false] 4) = w2 at *
    refine ⟨trivial, ?_⟩
    refine (callsIn_wide.2 HC.out).mono ?_
    rintro e w3 ⟨rfl, B3⟩
    have HR3 := Lib.hid (HR.out.next B3)
    have HB3 := Lib.hid (below_call HB.out B3)
    have r0 := HR3.out.cell (i := 0) rfl
    have f0 := HR3.out.frozen (i := 0)
    clear B3 HC HR HB HX HY
    gi_wp2
    have q0 := Cells8.cell (i := 0) (HR3.out.set 0 (.bool true)) rfl
    refine ⟨.bool true, by simp [results, Tryd.results72, go_sem, q0], ?_, HB3.out.setCell (p := ⟨w.heap.size + 1 + 1, 0, none⟩) (by show w.heap.size ≤ w.heap.size + 1 + 1; omega) _⟩
    rw [HV.out]
  have HN := Lib.hid hcon
  rw [decide_eq_false hcon] at HC
  clear hcon
  gi_wp2
  generalize ((w.alloc (.cells #[.int .i64 p.1, .int .i64 p.2] 89)).alloc (.cells #[.int .i64 q.1, .int .i64 q.2] 89)).alloc (.cells #[.bool false] 4) = w2 at *
  refine ⟨trivial, ?_⟩
  refine (callsIn_wide.2 HC.out).mono ?_
  rintro e w2' ⟨rfl, B2⟩
  have HP' := Lib.hid (HP.out.next B2)
  have HX' := Lib.hid (HX.out.next B2)
  have HY' := Lib.hid (HY.out.next B2)
  have HR' := Lib.hid (HR.out.next B2)
  have HB' := Lib.hid (below_call HB.out B2)
  have hs2 := HR'.out.lt
  clear B2 HC HR HB HX HY HP
  gi_wp2
  refine ⟨trivial, ?_⟩
  refine (callsIn_wide.2 (edgesC a len cap ps w2' HP'.out)).mono ?_
  rintro e w3 ⟨Bp, rfl, S3, B3, k1⟩
  have HS3 := Lib.hid S3
  have HR3 := Lib.hid (HR'.out.next B3)
  have HB3 := Lib.hid (below_call HB'.out B3)
  have HX3 := Lib.hid (HX'.out.next B3)
  have HY3 := Lib.hid (HY'.out.next B3)
  have hs3 := B3.size
  clear S3 B3 HX' HY' HR' HB' HP'
  gi_wp2
  refine wpIn_rangeFunc_ownH rfl (by omega) (gf := 91) (lb := #[.pointer (some ⟨Bp, 0, none⟩)]) rfl trivial (fun args w => by kernel_rfl)
    (edgesStopsK (Below w3.heap.size) Bp a len cap ps w3 (fun _ _ hk h => HS3.out.keepB h hk) HS3.out (by omega) 8)
    belowK_t (belowK_b (Nat.le_refl _)) (Below.refl _ _) (fun _ => rfl)
    (Seek (segE p q) w3)
    (Found (segE p q) w (w.heap.size + 1 + 1) (.bool true))
    seek_own (found_own (by omega))
    ⟨fun _ h => (by cases h), Below.refl _ _⟩
    (fun x a' W => ∃ B1 B2, Ends W w3.heap.size x B1 B2 ∧ a' = { tmps := #[.slice a len cap, pt p.1 p.2, pt q.1 q.2, undef, .pointer (some ⟨w.heap.size, 0, none⟩), .pointer (some ⟨w.heap.size + 1, 0, none⟩), .pointer (some ⟨w.heap.size + 1 + 1, 0, none⟩), .pointer (some ⟨B1, 0, none⟩), .pointer (some ⟨B2, 0, none⟩), .slice a len cap, .agg #[.int .i64 p.1, .int .i64 p.2], .bool false, .slice a len cap, .func (.func 91) #[] #[.pointer (some ⟨Bp, 0, none⟩)], pt x.1.1 x.1.2, pt x.2.1 x.2.2, undef, undef, undef, undef, undef], defers := [] })
    (fun x a' _ X Y row hs hg hr => by obtain ⟨B1, B2, h1, h2⟩ := hs; exact ⟨B1, B2, ends_own () X Y row h1 hg hr, h2⟩)
    ?assign ?body ?done ?stop
  case assign =>
    rintro l pre x W K ⟨h1, h3⟩ hK
    have hsz := h3.size
    have HK := Lib.hid (hK _ _ ((keepsBelow8 (below_box2 W (.cells #[.int .i64 x.1.1, .int .i64 x.1.2] 89) (.cells #[.int .i64 x.2.1, .int .i64 x.2.2] 89))).from _) ((below_box2 W _ _).mono hsz) ⟨h1, below_call h3 (below_box2 W _ _)⟩ ⟨W.heap.size, W.heap.size + 1, Ends.new W hsz x, rfl⟩)
    clear hK h1 h3
    gi_wp2
    exact HK.out
  case body =>
    rintro l pre x a' W hl ⟨r', hr⟩ ⟨h1, h3⟩ ⟨B1, B2, E, rfl⟩ hlen
    have HE := Lib.hid E
    have H1 := Lib.hid h1
    have H3 := Lib.hid h3
    clear h1 h3 E hlen hr
    have HXW := Lib.hid (HX3.out.next H3.out)
    have HYW := Lib.hid (HY3.out.next H3.out)
    have HRW := Lib.hid (HR3.out.next H3.out)
    have HC := Lib.hid (segC p q x.1 x.2)
    have c0 := HXW.out.cell (i := 0) rfl
    have c1 := HXW.out.cell (i := 1) rfl
    have c2 := HYW.out.cell (i := 0) rfl
    have c3 := HYW.out.cell (i := 1) rfl
    obtain ⟨_, e1, e2⟩ := HE.out.p1
    obtain ⟨_, e3, e4⟩ := HE.out.p2
    by_cases hC : (segE p q) x
    · have HCC := Lib.hid hC
      have hd : decide (smV p q x.1 x.2) = true := decide_eq_true hC
      clear hC
      gi_wp2_with (refine ⟨trivial, ?_⟩; gi_at_call 85; refine (CallsIn.inRound l (callsIn_wide.2 (HC.out _))).mono ?_; rintro e w5 ⟨rfl, K5⟩; have HR5 := Lib.hid (HRW.out.next K5); have r0 := HR5.out.cell (i := 0) rfl; have f0 := HR5.out.frozen (i := 0); clear c0 c1 c2 c3 e1 e2 e3 e4)
      exact ⟨((keepsBelow8 K5).trans (KeepsOthers.setCell _ _ _)).from _, rfl, ex_snoc HCC.out, HR5.out.set 0 _, (below_call (below_call HB3.out H3.out) K5).setCell (p := ⟨w.heap.size + 1 + 1, 0, none⟩) (by show w.heap.size ≤ w.heap.size + 1 + 1; omega) _⟩
    · have HCC := Lib.hid hC
      have hd : decide (smV p q x.1 x.2) = false := decide_eq_false hC
      clear hC
      gi_wp2_with (refine ⟨trivial, ?_⟩; gi_at_call 85; refine (CallsIn.inRound l (callsIn_wide.2 (HC.out _))).mono ?_; rintro e w5 ⟨rfl, K5⟩; have HR5 := Lib.hid (HRW.out.next K5); have r0 := HR5.out.cell (i := 0) rfl; have f0 := HR5.out.frozen (i := 0); clear c0 c1 c2 c3 e1 e2 e3 e4)
      exact ⟨(keepsBelow8 K5).from _, K5.mono H3.out.size, all_snoc H1.out HCC.out, below_call H3.out K5⟩
  case done =>
    rintro D ys W hD rfl ⟨h1, h3⟩ hK
    have HV := Lib.hid (show (false : Bool) = decide (hitV ps p q) from (decide_eq_false (fun k => by rcases k with k | ⟨i, hi, hc⟩; exact HN.out k; exact all_edges h1 i hi hc)).symm)
    have HRW := Lib.hid (HR3.out.next h3)
    have HBW := Lib.hid (below_call HB3.out h3)
    have HK := Lib.hid hK
    have HD := Lib.hid hD
    have r0 := HRW.out.cell (i := 0) rfl
    have f0 := HRW.out.frozen (i := 0)
    clear h1 h3 hK hD
    gi_wp2
    have hK6 := (KeepsOthers.setCell W ⟨w.heap.size + 1 + 1, 0, none⟩ (.bool false)).same D _ HK.out rfl
    refine ⟨by simp, .inl ⟨_, _, rfl, run_takeDeferred hK6, ?_⟩⟩
    have hne : w.heap.size + 1 + 1 ≠ D := by have := HD.out; omega
    have q := (World.putObj_heap_other (w := W.setCell ⟨w.heap.size + 1 + 1, 0, none⟩ (.bool false)) (o := .deferred none) hne).trans (HRW.out.set 0 (.bool false))
    have q0 := Cells8.cell (i := 0) q rfl
    refine ⟨.bool false, by simp [results, Tryd.results72, go_sem, q0], ?_, (HBW.out.setCell (p := ⟨w.heap.size + 1 + 1, 0, none⟩) (by show w.heap.size ≤ w.heap.size + 1 + 1; omega) _).trans (belowK_b (w := w) (Nat.le_refl _) _ D _ _ (by have := HD.out; omega) hK6 rfl rfl)⟩
    rw [HV.out]
  case stop =>
    rintro D c pre W hD ⟨k, hk, rfl⟩ ⟨rfl, h1, h2, h3⟩ hK
    have HV := Lib.hid (show (true : Bool) = decide (hitV ps p q) from (decide_eq_true (p := hitV ps p q) (.inr (ex_edge hk h1))).symm)
    have HRW := Lib.hid h2
    have HBW := Lib.hid h3
    have HK := Lib.hid hK
    have HD := Lib.hid hD
    clear h1 h2 h3 hK hD
    gi_wp2
    refine ⟨by simp, .inl ⟨_, _, rfl, run_takeDeferred HK.out, ?_⟩⟩
    have hne : w.heap.size + 1 + 1 ≠ D := by have := HD.out; omega
    have q := (World.putObj_heap_other (w := W) (o := .deferred none) hne).trans HRW.out
    have q0 := Cells8.cell (i := 0) q rfl
    refine ⟨.bool true, by simp [results, Tryd.results72, go_sem, q0], ?_, HBW.out.trans (belowK_b (w := w) (Nat.le_refl _) _ D _ _ (by have := HD.out; omega) HK.out rfl rfl)⟩
    rw [HV.out]
end Go.Proofs.YtkogoflcacameaaDoor
namespace Go.Proofs.YtkogoflcacameaaDoor
set_option maxRecDepth 100000
open Go.RowKit Go.Shelf
attribute [local go_sem] Oper.semAt_some
end Go.Proofs.YtkogoflcacameaaDoor
namespace Go.Proofs.YtkogoflcacameaaDoor
set_option maxRecDepth 100000
open Go.RowKit Go.Shelf
attribute [local go_sem] Oper.semAt_some
/-- What lay below n lies as it lay, but for block B. -/
def KeepBut8 (n B : Nat) (W W' : World) : Prop := W.heap.size ≤ W'.heap.size ∧ ∀ k, k < n → k ≠ B → W'.heap[k]? = W.heap[k]?
theorem KeepBut8.trans {n B : Nat} {X Y Z : World} (h : KeepBut8 n B X Y) (k : KeepBut8 n B Y Z) : KeepBut8 n B X Z := ⟨Nat.le_trans h.1 k.1, fun i hi hne => (k.2 i hi hne).trans (h.2 i hi hne)⟩
theorem KeepBut8.set (n B : Nat) (W : World) (v : Value) : KeepBut8 n B W (W.setCell ⟨B, 0, none⟩ v) := ⟨(KeepsOthers.setCell W _ v).size, fun k _ hne => Below.heap_setCell W ⟨B, 0, none⟩ v k hne⟩
theorem KeepBut8.put {n B : Nat} (W : World) (l : Nat) (o o' : Obj) (hl : n ≤ l) (_h : W.heap[l]? = some o) : KeepBut8 n B W (W.putObj l o') := ⟨by simp, fun k hk _ => World.putObj_heap_other (by omega)⟩
theorem KeepBut8.of {n B : Nat} {W W' : World} (h : Below W.heap.size W W') (hn : n ≤ W.heap.size) : KeepBut8 n B W W' := ⟨h.size, fun k hk _ => h.block k (by omega)⟩
/-- An edge between valid points. -/
abbrev QP := { x : EP // okQ x.1 ∧ okQ x.2 }
def areaX (x : QP) : Int := x.1.1.1 * x.1.2.2 - x.1.1.2 * x.1.2.1
def sumX : List QP → Int
  | [] => 0
  | x :: xs => areaX x + sumX xs
theorem sumX_snoc (xs : List QP) (x : QP) : sumX (xs ++ [x]) = sumX xs + areaX x := by
  induction xs with
  | nil => simp [sumX]
  | cons y ys ih => simp only [List.cons_append, sumX, ih]; omega
theorem areaX_bd (x : QP) : -800000000 ≤ areaX x ∧ areaX x ≤ 800000000 := okQ.mul x.2.1 x.2.2
theorem sumX_bd : ∀ xs : List QP, -(800000000 * (xs.length : Int)) ≤ sumX xs ∧ sumX xs ≤ 800000000 * (xs.length : Int)
  | [] => by simp [sumX]
  | x :: xs => by
    have h := sumX_bd xs
    have k := areaX_bd x
    simp only [sumX, List.length_cons]
    omega
theorem okQ0 : okQ (0, 0) := by unfold okQ okP; simp
open Classical in
noncomputable def edgeQ (ps : List P2) (hp : okPts ps) (i : Nat) : QP := if h : i < ps.length then ⟨(cor ps i, cor ps (nx ps i)), hp.cor h, hp.cor (nx_lt h)⟩ else ⟨((0, 0), (0, 0)), okQ0, okQ0⟩
theorem edgeQ_in {ps : List P2} {hp : okPts ps} {i : Nat} (h : i < ps.length) : (edgeQ ps hp i).1 = (cor ps i, cor ps (nx ps i)) := by unfold edgeQ; rw [dif_pos h]
theorem sumX_range {ps : List P2} (hp : okPts ps) : ∀ m, m ≤ ps.length → sumX ((List.range m).map (edgeQ ps hp)) = sumE ps (0, 0) m := by
  intro m
  induction m with
  | zero => intro _; rfl
  | succ m ih =>
    intro h
    rw [List.range_succ, List.map_append, List.map_cons, List.map_nil, sumX_snoc, ih (by omega)]
    show sumE ps (0, 0) m + areaX (edgeQ ps hp m) = sumE ps (0, 0) m + cr (0, 0) (cor ps m) (cor ps (nx ps m))
    unfold areaX cr
    rw [edgeQ_in (by omega)]
    simp only [Int.sub_zero]
end Go.Proofs.YtkogoflcacameaaDoor
