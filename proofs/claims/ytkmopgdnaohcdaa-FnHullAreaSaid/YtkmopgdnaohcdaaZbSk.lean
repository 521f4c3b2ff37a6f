/- Several of my texts in one: Sk8, Sk8b, Sk8c, Da8. -/
import Derived.Test.YtkmopgdnaohcdaaCon8
import Derived.Test.YtkmopgdnaohcdaaSm8
namespace Go.Proofs.Ytkmopgdnaohcdaa
set_option maxRecDepth 100000
open Go.RowKit Go.Shelf
attribute [local go_sem] Oper.semAt_some
set_option maxHeartbeats 2000000 in
theorem containsC (a : Option Addr) (len cap : Nat) (ps : List P2) (p : P2) (w : World) (hp : PL w a len ps) (hl : len ≤ 1000) :
    Calls Try.prog 62 #[.slice a len cap, pt p.1 p.2] w fun e w' => e = .returned (.bool (decide (conV ps p))) ∧ Below w.heap.size w w' := by
  refine (callsIn_wide (n := 9)).1 ?_
  have HLE := Lib.hid hp.1
  have HB := Lib.hid (below_box2 w (.cells #[.int .i64 p.1, .int .i64 p.2] 28) (.cells #[.bool false] 4))
  have HP := Lib.hid (hp.next HB.out)
  have HX := Lib.hid ((Cells8.new w #[.int .i64 p.1, .int .i64 p.2] 28).alloc (.cells #[.bool false] 4))
  have HR := Lib.hid (Cells8.new (w.alloc (.cells #[.int .i64 p.1, .int .i64 p.2] 28)) #[.bool false] 4)
  clear hp
  refine callsIn_of_wp_marks Try.func62 rfl trivial ?_ rfl
  simp only [Try.ntmps62, List.size_toArray, List.length_cons, List.length_nil, Nat.reduceAdd, Nat.reduceSub, Array.replicate_succ, Array.replicate_zero, List.push_toArray, List.append_toArray, List.nil_append, List.cons_append]
  gi_wp2
  rw [World.size_alloc] at HR
  generalize (w.alloc (.cells #[.int .i64 p.1, .int .i64 p.2] 28)).alloc (.cells #[.bool false] 4) = w2 at *
  refine ⟨trivial, ?_⟩
  refine (callsIn_wide.2 (edgesC a len cap ps w2 HP.out)).mono ?_
  rintro e w3 ⟨Bp, rfl, S3, B3, k1⟩
  have HS3 := Lib.hid S3
  have HR3 := Lib.hid (HR.out.next B3)
  have HB3 := Lib.hid (below_call HB.out B3)
  have HX3 := Lib.hid (HX.out.next B3)
  have hs2 := HR.out.lt
  have hs3 := B3.size
  clear S3 B3 HX HR HB HP
  gi_wp2
  refine wpIn_rangeFunc_ownH rfl (by omega) (gf := 101) (lb := #[.pointer (some ⟨Bp, 0, none⟩)]) rfl trivial (fun args w => by kernel_rfl)
    (edgesStopsK (Below w3.heap.size) Bp a len cap ps w3 (fun _ _ hk h => HS3.out.keepB h hk) HS3.out (by omega) 8)
    belowK_t (belowK_b (Nat.le_refl _)) (Below.refl _ _) (fun _ => rfl)
    (Seek (outE p) w3)
    (Found (outE p) w (w.heap.size + 1) (.bool false))
    seek_own (found_own (by omega))
    ⟨fun _ h => (by cases h), Below.refl _ _⟩
    (fun x a' W => ∃ B1 B2, Ends W w3.heap.size x B1 B2 ∧ a' = { tmps := #[.slice a len cap, pt p.1 p.2, undef, .pointer (some ⟨w.heap.size, 0, none⟩), .pointer (some ⟨w.heap.size + 1, 0, none⟩), .pointer (some ⟨B1, 0, none⟩), .pointer (some ⟨B2, 0, none⟩), .slice a len cap, .func (.func 101) #[] #[.pointer (some ⟨Bp, 0, none⟩)], pt x.1.1 x.1.2, pt x.2.1 x.2.2, undef, undef, undef, undef, undef], defers := [] })
    (fun x a' _ X Y row hs hg hr => by obtain ⟨B1, B2, h1, h2⟩ := hs; exact ⟨B1, B2, ends_own () X Y row h1 hg hr, h2⟩)
    ?assign ?body ?done ?stop
  case assign =>
    rintro l pre x W K ⟨h1, h3⟩ hK
    have hsz := h3.size
    have HK := Lib.hid (hK _ _ ((keepsBelow8 (below_box2 W (.cells #[.int .i64 x.1.1, .int .i64 x.1.2] 28) (.cells #[.int .i64 x.2.1, .int .i64 x.2.2] 28))).from _) ((below_box2 W _ _).mono hsz) ⟨h1, below_call h3 (below_box2 W _ _)⟩ ⟨W.heap.size, W.heap.size + 1, Ends.new W hsz x, rfl⟩)
    clear hK h1 h3
    gi_wp2
    exact HK.out
  case body =>
    rintro l pre x a' W hl ⟨r', hr⟩ ⟨h1, h3⟩ ⟨B1, B2, E, rfl⟩ hlen
    have HE := Lib.hid E
    have H1 := Lib.hid h1
    have H3 := Lib.hid h3
    clear h1 h3 E hlen hr
    have HXW := Lib.hid (HX3.out.next H3.out)
    have HRW := Lib.hid (HR3.out.next H3.out)
    have HC := Lib.hid (oriC x.1 x.2 p)
    have c0 := HXW.out.cell (i := 0) rfl
    have c1 := HXW.out.cell (i := 1) rfl
    obtain ⟨_, e1, e2⟩ := HE.out.p1
    obtain ⟨_, e3, e4⟩ := HE.out.p2
    by_cases hC : (outE p) x
    · have HCC := Lib.hid hC
      have hd : decide (ori x.1 x.2 p < 0) = true := decide_eq_true hC
      clear hC
      gi_wp2_with (refine ⟨trivial, ?_⟩; gi_at_call 47; refine (CallsIn.inRound l (callsIn_wide.2 (HC.out _))).mono ?_; rintro e w5 ⟨rfl, K5⟩; have HR5 := Lib.hid (HRW.out.next K5); have r0 := HR5.out.cell (i := 0) rfl; have f0 := HR5.out.frozen (i := 0); clear c0 c1 e1 e2 e3 e4)
      exact ⟨((keepsBelow8 K5).trans (KeepsOthers.setCell _ _ _)).from _, rfl, ex_snoc HCC.out, HR5.out.set 0 _, (below_call (below_call HB3.out H3.out) K5).setCell (p := ⟨w.heap.size + 1, 0, none⟩) (by show w.heap.size ≤ w.heap.size + 1; omega) _⟩
    · have HCC := Lib.hid hC
      have hd : decide (ori x.1 x.2 p < 0) = false := decide_eq_false hC
      clear hC
      gi_wp2_with (refine ⟨trivial, ?_⟩; gi_at_call 47; refine (CallsIn.inRound l (callsIn_wide.2 (HC.out _))).mono ?_; rintro e w5 ⟨rfl, K5⟩; have HR5 := Lib.hid (HRW.out.next K5); have r0 := HR5.out.cell (i := 0) rfl; have f0 := HR5.out.frozen (i := 0); clear c0 c1 e1 e2 e3 e4)
      exact ⟨(keepsBelow8 K5).from _, K5.mono H3.out.size, all_snoc H1.out HCC.out, below_call H3.out K5⟩
  case done =>
    rintro D ys W hD rfl ⟨h1, h3⟩ hK
    have HV := Lib.hid (show (true : Bool) = decide (conV ps p) from (decide_eq_true (p := conV ps p) (fun k hk => Int.not_lt.1 (all_edges h1 k hk))).symm)
    have HRW := Lib.hid (HR3.out.next h3)
    have HBW := Lib.hid (below_call HB3.out h3)
    have HK := Lib.hid hK
    have HD := Lib.hid hD
    have r0 := HRW.out.cell (i := 0) rfl
    have f0 := HRW.out.frozen (i := 0)
    clear h1 h3 hK hD
    gi_wp2
    have hK6 := (KeepsOthers.setCell W ⟨w.heap.size + 1, 0, none⟩ (.bool true)).same D _ HK.out rfl
    refine ⟨by simp, .inl ⟨_, _, rfl, run_takeDeferred hK6, ?_⟩⟩
    have hne : w.heap.size + 1 ≠ D := by have := HD.out; omega
    have q := (World.putObj_heap_other (w := W.setCell ⟨w.heap.size + 1, 0, none⟩ (.bool true)) (o := .deferred none) hne).trans (HRW.out.set 0 (.bool true))
    have q0 := Cells8.cell (i := 0) q rfl
    refine ⟨.bool true, by simp [results, Try.results62, go_sem, q0], ?_, (HBW.out.setCell (p := ⟨w.heap.size + 1, 0, none⟩) (by show w.heap.size ≤ w.heap.size + 1; omega) _).trans (belowK_b (w := w) (Nat.le_refl _) _ D _ _ (by have := HD.out; omega) hK6 rfl rfl)⟩
    rw [HV.out]
  case stop =>
    rintro D c pre W hD ⟨k, hk, rfl⟩ ⟨rfl, h1, h2, h3⟩ hK
    have HV := Lib.hid (show (false : Bool) = decide (conV ps p) from (decide_eq_false fun ok => by obtain ⟨i, hi, hc⟩ := ex_edge hk h1; exact Int.not_lt.2 (ok i hi) hc).symm)
    have HRW := Lib.hid h2
    have HBW := Lib.hid h3
    have HK := Lib.hid hK
    have HD := Lib.hid hD
    clear h1 h2 h3 hK hD
    gi_wp2
    refine ⟨by simp, .inl ⟨_, _, rfl, run_takeDeferred HK.out, ?_⟩⟩
    have hne : w.heap.size + 1 ≠ D := by have := HD.out; omega
    have q := (World.putObj_heap_other (w := W) (o := .deferred none) hne).trans HRW.out
    have q0 := Cells8.cell (i := 0) q rfl
    refine ⟨.bool false, by simp [results, Try.results62, go_sem, q0], ?_, HBW.out.trans (belowK_b (w := w) (Nat.le_refl _) _ D _ _ (by have := HD.out; omega) HK.out rfl rfl)⟩
    rw [HV.out]
end Go.Proofs.Ytkmopgdnaohcdaa
namespace Go.Proofs.Ytkmopgdnaohcdaa
set_option maxRecDepth 100000
open Go.RowKit Go.Shelf
attribute [local go_sem] Oper.semAt_some
set_option maxHeartbeats 2000000 in
theorem hitsC (a : Option Addr) (len cap : Nat) (ps : List P2) (p q : P2) (w : World) (hp : PL w a len ps) (hl : len ≤ 1000) :
    Calls Try.prog 72 #[.slice a len cap, pt p.1 p.2, pt q.1 q.2] w fun e w' => e = .returned (.bool (decide (hitV ps p q))) ∧ Below w.heap.size w w' := by
  refine (callsIn_wide (n := 9)).1 ?_
  have HLE := Lib.hid hp.1
  have HB := Lib.hid (below_box3 w (.cells #[.int .i64 p.1, .int .i64 p.2] 28) (.cells #[.int .i64 q.1, .int .i64 q.2] 28) (.cells #[.bool false] 4))
  have HP := Lib.hid (hp.next HB.out)
  have HX := Lib.hid (((Cells8.new w #[.int .i64 p.1, .int .i64 p.2] 28).alloc (.cells #[.int .i64 q.1, .int .i64 q.2] 28)).alloc (.cells #[.bool false] 4))
  have HY := Lib.hid ((Cells8.new (w.alloc (.cells #[.int .i64 p.1, .int .i64 p.2] 28)) #[.int .i64 q.1, .int .i64 q.2] 28).alloc (.cells #[.bool false] 4))
  have HR := Lib.hid (Cells8.new ((w.alloc (.cells #[.int .i64 p.1, .int .i64 p.2] 28)).alloc (.cells #[.int .i64 q.1, .int .i64 q.2] 28)) #[.bool false] 4)
  rw [World.size_alloc] at HY
  rw [World.size_alloc, World.size_alloc] at HR
  clear hp
  refine callsIn_of_wp_marks Try.func72 rfl trivial ?_ rfl
  simp only [Try.ntmps72, List.size_toArray, List.length_cons, List.length_nil, Nat.reduceAdd, Nat.reduceSub, Array.replicate_succ, Array.replicate_zero, List.push_toArray, List.append_toArray, List.nil_append, List.cons_append]
  have HC := Lib.hid (containsC a len cap ps p _ HP.out hl)
  by_cases hcon : conV ps p
  · have HV := Lib.hid (show true = decide (hitV ps p q) from (decide_eq_true (p := hitV ps p q) (.inl hcon)).symm)
    rw [decide_eq_true hcon] at HC
    clear hcon
    gi_wp2
    generalize ((w.alloc (.cells #[.int .i64 p.1, .int .i64 p.2] 28)).alloc (.cells #[.int .i64 q.1, .int .i64 q.2] 28)).alloc (.cells #[.bool false] 4) = w2 at *
    refine ⟨trivial, ?_⟩
    refine (callsIn_wide.2 HC.out).mono ?_
    rintro e w3 ⟨rfl, B3⟩
    have HR3 := Lib.hid (HR.out.next B3)
    have HB3 := Lib.hid (below_call HB.out B3)
    have r0 := HR3.out.cell (i := 0) rfl
    have f0 := HR3.out.frozen (i := 0)
    clear B3 HC HR HB HX HY
    gi_wp2
    have q0 := Cells8.cell (i := 0) (HR3.out.set 0 (.bool true)) rfl
    refine ⟨.bool true, by simp [results, Try.results72, go_sem, q0], ?_, HB3.out.setCell (p := ⟨w.heap.size + 1 + 1, 0, none⟩) (by show w.heap.size ≤ w.heap.size + 1 + 1; omega) _⟩
    rw [HV.out]
  have HN := Lib.hid hcon
  rw [decide_eq_false hcon] at HC
  clear hcon
  gi_wp2
  generalize ((w.alloc (.cells #[.int .i64 p.1, .int .i64 p.2] 28)).alloc (.cells #[.int .i64 q.1, .int .i64 q.2] 28)).alloc (.cells #[.bool false] 4) = w2 at *
  refine ⟨trivial, ?_⟩
  refine (callsIn_wide.2 HC.out).mono ?_
  rintro e w2' ⟨rfl, B2⟩
  have HP' := Lib.hid (HP.out.next B2)
  have HX' := Lib.hid (HX.out.next B2)
  have HY' := Lib.hid (HY.out.next B2)
  have HR' := Lib.hid (HR.out.next B2)
  have HB' := Lib.hid (below_call HB.out B2)
  have hs2 := HR'.out.lt
  clear B2 HC HR HB HX HY HP
  gi_wp2
  refine ⟨trivial, ?_⟩
  refine (callsIn_wide.2 (edgesC a len cap ps w2' HP'.out)).mono ?_
  rintro e w3 ⟨Bp, rfl, S3, B3, k1⟩
  have HS3 := Lib.hid S3
  have HR3 := Lib.hid (HR'.out.next B3)
  have HB3 := Lib.hid (below_call HB'.out B3)
  have HX3 := Lib.hid (HX'.out.next B3)
  have HY3 := Lib.hid (HY'.out.next B3)
  have hs3 := B3.size
  clear S3 B3 HX' HY' HR' HB' HP'
  gi_wp2
  refine wpIn_rangeFunc_ownH rfl (by omega) (gf := 101) (lb := #[.pointer (some ⟨Bp, 0, none⟩)]) rfl trivial (fun args w => by kernel_rfl)
    (edgesStopsK (Below w3.heap.size) Bp a len cap ps w3 (fun _ _ hk h => HS3.out.keepB h hk) HS3.out (by omega) 8)
    belowK_t (belowK_b (Nat.le_refl _)) (Below.refl _ _) (fun _ => rfl)
    (Seek (segE p q) w3)
    (Found (segE p q) w (w.heap.size + 1 + 1) (.bool true))
    seek_own (found_own (by omega))
    ⟨fun _ h => (by cases h), Below.refl _ _⟩
    (fun x a' W => ∃ B1 B2, Ends W w3.heap.size x B1 B2 ∧ a' = { tmps := #[.slice a len cap, pt p.1 p.2, pt q.1 q.2, undef, .pointer (some ⟨w.heap.size, 0, none⟩), .pointer (some ⟨w.heap.size + 1, 0, none⟩), .pointer (some ⟨w.heap.size + 1 + 1, 0, none⟩), .pointer (some ⟨B1, 0, none⟩), .pointer (some ⟨B2, 0, none⟩), .slice a len cap, .agg #[.int .i64 p.1, .int .i64 p.2], .bool false, .slice a len cap, .func (.func 101) #[] #[.pointer (some ⟨Bp, 0, none⟩)], pt x.1.1 x.1.2, pt x.2.1 x.2.2, undef, undef, undef, undef, undef], defers := [] })
    (fun x a' _ X Y row hs hg hr => by obtain ⟨B1, B2, h1, h2⟩ := hs; exact ⟨B1, B2, ends_own () X Y row h1 hg hr, h2⟩)
    ?assign ?body ?done ?stop
  case assign =>
    rintro l pre x W K ⟨h1, h3⟩ hK
    have hsz := h3.size
    have HK := Lib.hid (hK _ _ ((keepsBelow8 (below_box2 W (.cells #[.int .i64 x.1.1, .int .i64 x.1.2] 28) (.cells #[.int .i64 x.2.1, .int .i64 x.2.2] 28))).from _) ((below_box2 W _ _).mono hsz) ⟨h1, below_call h3 (below_box2 W _ _)⟩ ⟨W.heap.size, W.heap.size + 1, Ends.new W hsz x, rfl⟩)
    clear hK h1 h3
    gi_wp2
    exact HK.out
  case body =>
    rintro l pre x a' W hl ⟨r', hr⟩ ⟨h1, h3⟩ ⟨B1, B2, E, rfl⟩ hlen
    have HE := Lib.hid E
    have H1 := Lib.hid h1
    have H3 := Lib.hid h3
    clear h1 h3 E hlen hr
    have HXW := Lib.hid (HX3.out.next H3.out)
    have HYW := Lib.hid (HY3.out.next H3.out)
    have HRW := Lib.hid (HR3.out.next H3.out)
    have HC := Lib.hid (segC p q x.1 x.2)
    have c0 := HXW.out.cell (i := 0) rfl
    have c1 := HXW.out.cell (i := 1) rfl
    have c2 := HYW.out.cell (i := 0) rfl
    have c3 := HYW.out.cell (i := 1) rfl
    obtain ⟨_, e1, e2⟩ := HE.out.p1
    obtain ⟨_, e3, e4⟩ := HE.out.p2
    by_cases hC : (segE p q) x
    · have HCC := Lib.hid hC
      have hd : decide (smV p q x.1 x.2) = true := decide_eq_true hC
      clear hC
      gi_wp2_with (refine ⟨trivial, ?_⟩; gi_at_call 68; refine (CallsIn.inRound l (callsIn_wide.2 (HC.out _))).mono ?_; rintro e w5 ⟨rfl, K5⟩; have HR5 := Lib.hid (HRW.out.next K5); have r0 := HR5.out.cell (i := 0) rfl; have f0 := HR5.out.frozen (i := 0); clear c0 c1 c2 c3 e1 e2 e3 e4)
      exact ⟨((keepsBelow8 K5).trans (KeepsOthers.setCell _ _ _)).from _, rfl, ex_snoc HCC.out, HR5.out.set 0 _, (below_call (below_call HB3.out H3.out) K5).setCell (p := ⟨w.heap.size + 1 + 1, 0, none⟩) (by show w.heap.size ≤ w.heap.size + 1 + 1; omega) _⟩
    · have HCC := Lib.hid hC
      have hd : decide (smV p q x.1 x.2) = false := decide_eq_false hC
      clear hC
      gi_wp2_with (refine ⟨trivial, ?_⟩; gi_at_call 68; refine (CallsIn.inRound l (callsIn_wide.2 (HC.out _))).mono ?_; rintro e w5 ⟨rfl, K5⟩; have HR5 := Lib.hid (HRW.out.next K5); have r0 := HR5.out.cell (i := 0) rfl; have f0 := HR5.out.frozen (i := 0); clear c0 c1 c2 c3 e1 e2 e3 e4)
      exact ⟨(keepsBelow8 K5).from _, K5.mono H3.out.size, all_snoc H1.out HCC.out, below_call H3.out K5⟩
  case done =>
    rintro D ys W hD rfl ⟨h1, h3⟩ hK
    have HV := Lib.hid (show (false : Bool) = decide (hitV ps p q) from (decide_eq_false (fun k => by rcases k with k | ⟨i, hi, hc⟩; exact HN.out k; exact all_edges h1 i hi hc)).symm)
    have HRW := Lib.hid (HR3.out.next h3)
    have HBW := Lib.hid (below_call HB3.out h3)
    have HK := Lib.hid hK
    have HD := Lib.hid hD
    have r0 := HRW.out.cell (i := 0) rfl
    have f0 := HRW.out.frozen (i := 0)
    clear h1 h3 hK hD
    gi_wp2
    have hK6 := (KeepsOthers.setCell W ⟨w.heap.size + 1 + 1, 0, none⟩ (.bool false)).same D _ HK.out rfl
    refine ⟨by simp, .inl ⟨_, _, rfl, run_takeDeferred hK6, ?_⟩⟩
    have hne : w.heap.size + 1 + 1 ≠ D := by have := HD.out; omega
    have q := (World.putObj_heap_other (w := W.setCell ⟨w.heap.size + 1 + 1, 0, none⟩ (.bool false)) (o := .deferred none) hne).trans (HRW.out.set 0 (.bool false))
    have q0 := Cells8.cell (i := 0) q rfl
    refine ⟨.bool false, by simp [results, Try.results72, go_sem, q0], ?_, (HBW.out.setCell (p := ⟨w.heap.size + 1 + 1, 0, none⟩) (by show w.heap.size ≤ w.heap.size + 1 + 1; omega) _).trans (belowK_b (w := w) (Nat.le_refl _) _ D _ _ (by have := HD.out; omega) hK6 rfl rfl)⟩
    rw [HV.out]
  case stop =>
    rintro D c pre W hD ⟨k, hk, rfl⟩ ⟨rfl, h1, h2, h3⟩ hK
    have HV := Lib.hid (show (true : Bool) = decide (hitV ps p q) from (decide_eq_true (p := hitV ps p q) (.inr (ex_edge hk h1))).symm)
    have HRW := Lib.hid h2
    have HBW := Lib.hid h3
    have HK := Lib.hid hK
    have HD := Lib.hid hD
    clear h1 h2 h3 hK hD
    gi_wp2
    refine ⟨by simp, .inl ⟨_, _, rfl, run_takeDeferred HK.out, ?_⟩⟩
    have hne : w.heap.size + 1 + 1 ≠ D := by have := HD.out; omega
    have q := (World.putObj_heap_other (w := W) (o := .deferred none) hne).trans HRW.out
    have q0 := Cells8.cell (i := 0) q rfl
    refine ⟨.bool true, by simp [results, Try.results72, go_sem, q0], ?_, HBW.out.trans (belowK_b (w := w) (Nat.le_refl _) _ D _ _ (by have := HD.out; omega) HK.out rfl rfl)⟩
    rw [HV.out]
end Go.Proofs.Ytkmopgdnaohcdaa
namespace Go.Proofs.Ytkmopgdnaohcdaa
set_option maxRecDepth 100000
open Go.RowKit Go.Shelf
attribute [local go_sem] Oper.semAt_some
set_option maxHeartbeats 2000000 in
theorem meetsC (a a2 : Option Addr) (len cap len2 cap2 : Nat) (ps qs : List P2) (w : World) (hp : PL w a len ps) (hq : PL w a2 len2 qs) (hl : len ≤ 1000) (hl2 : len2 ≤ 1000) (h0 : 1 ≤ len2) :
    Calls Try.prog 74 #[.slice a len cap, .slice a2 len2 cap2] w fun e w' => e = .returned (.bool (decide (metV ps qs))) ∧ Below w.heap.size w w' := by
  refine (callsIn_wide (n := 9)).1 ?_
  have HLE := Lib.hid hp.1
  have HB := Lib.hid (below_box2 w (.cells #[.slice a2 len2 cap2] 64) (.cells #[.bool false] 4))
  have HP := Lib.hid (hp.next HB.out)
  have HQ := Lib.hid (hq.next HB.out)
  have HX := Lib.hid ((Cells8.new w #[.slice a2 len2 cap2] 64).alloc (.cells #[.bool false] 4))
  have HR := Lib.hid (Cells8.new (w.alloc (.cells #[.slice a2 len2 cap2] 64)) #[.bool false] 4)
  rw [World.size_alloc] at HR
  clear hp hq
  refine callsIn_of_wp_marks Try.func74 rfl trivial ?_ rfl
  simp only [Try.ntmps74, List.size_toArray, List.length_cons, List.length_nil, Nat.reduceAdd, Nat.reduceSub, Array.replicate_succ, Array.replicate_zero, List.push_toArray, List.append_toArray, List.nil_append, List.cons_append]
  gi_wp2
  generalize (w.alloc (.cells #[.slice a2 len2 cap2] 64)).alloc (.cells #[.bool false] 4) = w2 at *
  refine ⟨trivial, ?_⟩
  refine (callsIn_wide.2 (edgesC a len cap ps w2 HP.out)).mono ?_
  rintro e w3 ⟨Bp, rfl, S3, B3, k1⟩
  have HS3 := Lib.hid S3
  have HR3 := Lib.hid (HR.out.next B3)
  have HB3 := Lib.hid (below_call HB.out B3)
  have HX3 := Lib.hid (HX.out.next B3)
  have HQ3 := Lib.hid (HQ.out.next B3)
  have HP3 := Lib.hid (HP.out.next B3)
  have hs2 := HR.out.lt
  have hs3 := B3.size
  clear S3 B3 HX HR HB HP HQ
  gi_wp2
  refine wpIn_rangeFunc_ownH rfl (by omega) (gf := 101) (lb := #[.pointer (some ⟨Bp, 0, none⟩)]) rfl trivial (fun args w => by kernel_rfl)
    (edgesStopsK (Below w3.heap.size) Bp a len cap ps w3 (fun _ _ hk h => HS3.out.keepB h hk) HS3.out (by omega) 8)
    belowK_t (belowK_b (Nat.le_refl _)) (Below.refl _ _) (fun _ => rfl)
    (Seek (hitE qs) w3)
    (Found (hitE qs) w (w.heap.size + 1) (.bool true))
    seek_own (found_own (by omega))
    ⟨fun _ h => (by cases h), Below.refl _ _⟩
    (fun x a' W => ∃ B1 B2, Ends W w3.heap.size x B1 B2 ∧ a' = { tmps := #[.slice a len cap, .slice a2 len2 cap2, undef, .pointer (some ⟨w.heap.size, 0, none⟩), .pointer (some ⟨w.heap.size + 1, 0, none⟩), .pointer (some ⟨B1, 0, none⟩), .pointer (some ⟨B2, 0, none⟩), .slice a len cap, .func (.func 101) #[] #[.pointer (some ⟨Bp, 0, none⟩)], pt x.1.1 x.1.2, pt x.2.1 x.2.2, undef, undef, undef, undef, undef, undef, undef, undef, undef], defers := [] })
    (fun x a' _ X Y row hs hg hr => by obtain ⟨B1, B2, h1, h2⟩ := hs; exact ⟨B1, B2, ends_own () X Y row h1 hg hr, h2⟩)
    ?assign ?body ?done ?stop
  case assign =>
    rintro l pre x W K ⟨h1, h3⟩ hK
    have hsz := h3.size
    have HK := Lib.hid (hK _ _ ((keepsBelow8 (below_box2 W (.cells #[.int .i64 x.1.1, .int .i64 x.1.2] 28) (.cells #[.int .i64 x.2.1, .int .i64 x.2.2] 28))).from _) ((below_box2 W _ _).mono hsz) ⟨h1, below_call h3 (below_box2 W _ _)⟩ ⟨W.heap.size, W.heap.size + 1, Ends.new W hsz x, rfl⟩)
    clear hK h1 h3
    gi_wp2
    exact HK.out
  case body =>
    rintro l pre x a' W hl ⟨r', hr⟩ ⟨h1, h3⟩ ⟨B1, B2, E, rfl⟩ hlen
    have HE := Lib.hid E
    have H1 := Lib.hid h1
    have H3 := Lib.hid h3
    clear h1 h3 E hlen hr
    have HXW := Lib.hid (HX3.out.next H3.out)
    have HRW := Lib.hid (HR3.out.next H3.out)
    have HC := Lib.hid (fun u hu => hitsC a2 len2 cap2 qs x.1 x.2 u hu hl2)
    have HQW := Lib.hid (HQ3.out.next H3.out)
    have c0 := HXW.out.cell (i := 0) rfl
    obtain ⟨_, e1, e2⟩ := HE.out.p1
    obtain ⟨_, e3, e4⟩ := HE.out.p2
    by_cases hC : (hitE qs) x
    · have HCC := Lib.hid hC
      have hd : decide (hitV qs x.1 x.2) = true := decide_eq_true hC
      clear hC
      gi_wp2_with (refine ⟨trivial, ?_⟩; gi_at_call 72; refine (CallsIn.inRound l (callsIn_wide.2 (HC.out _ HQW.out))).mono ?_; rintro e w5 ⟨rfl, K5⟩; have HR5 := Lib.hid (HRW.out.next K5); have r0 := HR5.out.cell (i := 0) rfl; have f0 := HR5.out.frozen (i := 0); clear c0 e1 e2 e3 e4)
      exact ⟨((keepsBelow8 K5).trans (KeepsOthers.setCell _ _ _)).from _, rfl, ex_snoc HCC.out, HR5.out.set 0 _, (below_call (below_call HB3.out H3.out) K5).setCell (p := ⟨w.heap.size + 1, 0, none⟩) (by show w.heap.size ≤ w.heap.size + 1; omega) _⟩
    · have HCC := Lib.hid hC
      have hd : decide (hitV qs x.1 x.2) = false := decide_eq_false hC
      clear hC
      gi_wp2_with (refine ⟨trivial, ?_⟩; gi_at_call 72; refine (CallsIn.inRound l (callsIn_wide.2 (HC.out _ HQW.out))).mono ?_; rintro e w5 ⟨rfl, K5⟩; have HR5 := Lib.hid (HRW.out.next K5); have r0 := HR5.out.cell (i := 0) rfl; have f0 := HR5.out.frozen (i := 0); clear c0 e1 e2 e3 e4)
      exact ⟨(keepsBelow8 K5).from _, K5.mono H3.out.size, all_snoc H1.out HCC.out, below_call H3.out K5⟩
  case done =>
    rintro D ys W hD rfl ⟨h1, h3⟩ hK
    have HV := Lib.hid (show decide (conV ps (cor qs 0)) = decide (metV ps qs) from Bool.eq_iff_iff.2 (by
      simp only [decide_eq_true_eq]
      exact ⟨fun h => .inr h, fun h => by rcases h with ⟨i, hi, hc⟩ | h; exact absurd hc (all_edges h1 i hi); exact h⟩))
    have HRW := Lib.hid (HR3.out.next h3)
    have HXW := Lib.hid (HX3.out.next h3)
    have HPW := Lib.hid (HP3.out.next h3)
    have HBW := Lib.hid (below_call HB3.out h3)
    have hqw := HQ3.out.next h3
    obtain ⟨b, o, rfl, lt, hc⟩ := hqw.somes h0
    have HK := Lib.hid hK
    have HD := Lib.hid hD
    have HC := Lib.hid (containsC a len cap ps (cor qs 0) W HPW.out hl)
    have r0 := HRW.out.cell (i := 0) rfl
    have f0 := HRW.out.frozen (i := 0)
    have c0 := HXW.out.cell (i := 0) rfl
    have d := hc 0 h0
    rw [Nat.zero_mul, Nat.add_zero] at d
    obtain ⟨d1, d2⟩ := d
    have l0 : (0 : Int) < (len2 : Int) := by omega
    clear h1 h3 hK hD hqw hc
    generalize decide (conV ps (cor qs 0)) = bb at *
    generalize cor qs 0 = c at *
    gi_wp2_with (refine ⟨trivial, ?_⟩; gi_at_call 62; refine (callsIn_wide.2 HC.out).mono ?_; rintro e w5 ⟨rfl, K5⟩; have HR5 := Lib.hid (HRW.out.next K5); have r5 := HR5.out.cell (i := 0) rfl; have f5 := HR5.out.frozen (i := 0); have HK5 := Lib.hid ((K5.block D (Array.getElem?_eq_some_iff.1 HK.out).1).trans HK.out); clear c0 d1 d2 r0 f0)
    have hK6 := (KeepsOthers.setCell w5 ⟨w.heap.size + 1, 0, none⟩ (.bool bb)).same D _ HK5.out rfl
    refine ⟨by simp, .inl ⟨_, _, rfl, run_takeDeferred hK6, ?_⟩⟩
    have hne : w.heap.size + 1 ≠ D := by have := HD.out; omega
    have q := (World.putObj_heap_other (w := w5.setCell ⟨w.heap.size + 1, 0, none⟩ (.bool bb)) (o := .deferred none) hne).trans (HR5.out.set 0 (.bool bb))
    have q0 := Cells8.cell (i := 0) q rfl
    refine ⟨.bool bb, by simp [results, Try.results74, go_sem, q0], ?_, ((below_call HBW.out K5).setCell (p := ⟨w.heap.size + 1, 0, none⟩) (by show w.heap.size ≤ w.heap.size + 1; omega) _).trans (belowK_b (w := w) (Nat.le_refl _) _ D _ _ (by have := HD.out; omega) hK6 rfl rfl)⟩
    rw [HV.out]
  case stop =>
    rintro D c pre W hD ⟨k, hk, rfl⟩ ⟨rfl, h1, h2, h3⟩ hK
    have HV := Lib.hid (show (true : Bool) = decide (metV ps qs) from (decide_eq_true (p := metV ps qs) (.inl (ex_edge hk h1))).symm)
    have HRW := Lib.hid h2
    have HBW := Lib.hid h3
    have HK := Lib.hid hK
    have HD := Lib.hid hD
    clear h1 h2 h3 hK hD
    gi_wp2
    refine ⟨by simp, .inl ⟨_, _, rfl, run_takeDeferred HK.out, ?_⟩⟩
    have hne : w.heap.size + 1 ≠ D := by have := HD.out; omega
    have q := (World.putObj_heap_other (w := W) (o := .deferred none) hne).trans HRW.out
    have q0 := Cells8.cell (i := 0) q rfl
    refine ⟨.bool true, by simp [results, Try.results74, go_sem, q0], ?_, HBW.out.trans (belowK_b (w := w) (Nat.le_refl _) _ D _ _ (by have := HD.out; omega) HK.out rfl rfl)⟩
    rw [HV.out]
end Go.Proofs.Ytkmopgdnaohcdaa
namespace Go.Proofs.Ytkmopgdnaohcdaa
set_option maxRecDepth 100000
open Go.RowKit Go.Shelf
attribute [local go_sem] Oper.semAt_some
/-- What lay below n lies as it lay, but for block B. -/
def KeepBut8 (n B : Nat) (W W' : World) : Prop := W.heap.size ≤ W'.heap.size ∧ ∀ k, k < n → k ≠ B → W'.heap[k]? = W.heap[k]?
theorem KeepBut8.trans {n B : Nat} {X Y Z : World} (h : KeepBut8 n B X Y) (k : KeepBut8 n B Y Z) : KeepBut8 n B X Z := ⟨Nat.le_trans h.1 k.1, fun i hi hne => (k.2 i hi hne).trans (h.2 i hi hne)⟩
theorem KeepBut8.set (n B : Nat) (W : World) (v : Value) : KeepBut8 n B W (W.setCell ⟨B, 0, none⟩ v) := ⟨(KeepsOthers.setCell W _ v).size, fun k _ hne => Below.heap_setCell W ⟨B, 0, none⟩ v k hne⟩
theorem KeepBut8.put {n B : Nat} (W : World) (l : Nat) (o o' : Obj) (hl : n ≤ l) (_h : W.heap[l]? = some o) : KeepBut8 n B W (W.putObj l o') := ⟨by simp, fun k hk _ => World.putObj_heap_other (by omega)⟩
theorem KeepBut8.of {n B : Nat} {W W' : World} (h : Below W.heap.size W W') (hn : n ≤ W.heap.size) : KeepBut8 n B W W' := ⟨h.size, fun k hk _ => h.block k (by omega)⟩
/-- An edge between valid points. -/
abbrev QP := { x : EP // okQ x.1 ∧ okQ x.2 }
def areaX (x : QP) : Int := x.1.1.1 * x.1.2.2 - x.1.1.2 * x.1.2.1
def sumX : List QP → Int
  | [] => 0
  | x :: xs => areaX x + sumX xs
theorem sumX_snoc (xs : List QP) (x : QP) : sumX (xs ++ [x]) = sumX xs + areaX x := by
  induction xs with
  | nil => simp [sumX]
  | cons y ys ih => simp only [List.cons_append, sumX, ih]; omega
theorem areaX_bd (x : QP) : -800000000 ≤ areaX x ∧ areaX x ≤ 800000000 := okQ.mul x.2.1 x.2.2
theorem sumX_bd : ∀ xs : List QP, -(800000000 * (xs.length : Int)) ≤ sumX xs ∧ sumX xs ≤ 800000000 * (xs.length : Int)
  | [] => by simp [sumX]
  | x :: xs => by
    have h := sumX_bd xs
    have k := areaX_bd x
    simp only [sumX, List.length_cons]
    omega
theorem okQ0 : okQ (0, 0) := by unfold okQ okP; simp
open Classical in
noncomputable def edgeQ (ps : List P2) (hp : okPts ps) (i : Nat) : QP := if h : i < ps.length then ⟨(cor ps i, cor ps (nx ps i)), hp.cor h, hp.cor (nx_lt h)⟩ else ⟨((0, 0), (0, 0)), okQ0, okQ0⟩
theorem edgeQ_in {ps : List P2} {hp : okPts ps} {i : Nat} (h : i < ps.length) : (edgeQ ps hp i).1 = (cor ps i, cor ps (nx ps i)) := by unfold edgeQ; rw [dif_pos h]
theorem sumX_range {ps : List P2} (hp : okPts ps) : ∀ m, m ≤ ps.length → sumX ((List.range m).map (edgeQ ps hp)) = sumE ps (0, 0) m := by
  intro m
  induction m with
  | zero => intro _; rfl
  | succ m ih =>
    intro h
    rw [List.range_succ, List.map_append, List.map_cons, List.map_nil, sumX_snoc, ih (by omega)]
    show sumE ps (0, 0) m + areaX (edgeQ ps hp m) = sumE ps (0, 0) m + cr (0, 0) (cor ps m) (cor ps (nx ps m))
    unfold areaX cr
    rw [edgeQ_in (by omega)]
    simp only [Int.sub_zero]
set_option maxHeartbeats 2000000 in
theorem areaC (a : Option Addr) (len cap : Nat) (ps : List P2) (w : World) (hp : PL w a len ps) (hl : len ≤ 1000) (hk : okPts ps) (h1 : 1 ≤ len) :
    Calls Try.prog 64 #[.slice a len cap] w fun e w' => e = .returned (.int .i64 (loopSum ps (0, 0))) ∧ Below w.heap.size w w' := by
  refine (callsIn_wide (n := 9)).1 ?_
  have HLE := Lib.hid hp.1
  have HOK := Lib.hid hk
  have HV := Lib.hid (show sumX ((List.range ps.length).map (edgeQ ps hk)) = loopSum ps (0, 0) by rw [sumX_range hk _ (Nat.le_refl _), sumE_loop _ (by rw [← hp.1]; exact h1)])
  have HB := Lib.hid (below_box w (.cells #[.int .i64 0] 3))
  have HP := Lib.hid (hp.next HB.out)
  have HR := Lib.hid (Cells8.new w #[.int .i64 0] 3)
  have HPB := Lib.hid (show ∀ b o, a = some ⟨b, o, none⟩ → b < w.heap.size from fun b o e => by
    rw [e] at hp
    obtain ⟨b', o', e2, lt, _⟩ := hp.somes h1
    simp only [Option.some.injEq, Addr.mk.injEq, and_true] at e2
    rw [e2.1]; exact lt)
  clear hp
  refine callsIn_of_wp_marks Try.func64 rfl trivial ?_ rfl
  simp only [Try.ntmps64, List.size_toArray, List.length_cons, List.length_nil, Nat.reduceAdd, Nat.reduceSub, Array.replicate_succ, Array.replicate_zero, List.push_toArray, List.append_toArray, List.nil_append, List.cons_append]
  gi_wp2
  generalize w.alloc (.cells #[.int .i64 0] 3) = w2 at *
  refine ⟨trivial, ?_⟩
  refine (callsIn_wide.2 (edgesC a len cap ps w2 HP.out)).mono ?_
  rintro e w3 ⟨Bp, rfl, S3, B3, k1⟩
  have HS3 := Lib.hid S3
  have HR3 := Lib.hid (HR.out.next B3)
  have HB3 := Lib.hid (below_call HB.out B3)
  have hs2 := HR.out.lt
  have hs3 := B3.size
  clear S3 B3 HR HB HP
  gi_wp2
  refine wpIn_rangeFunc_ownH rfl (by omega) (gf := 101) (lb := #[.pointer (some ⟨Bp, 0, none⟩)]) rfl trivial (fun args w => by kernel_rfl)
    (edgesStopsG (fun x : QP => encE x.1) (edgeQ ps HOK.out) (KeepBut8 w3.heap.size w.heap.size) Bp a len cap ps w3 (fun _ _ hk h => h.keep hk.1 (hk.2 _ HS3.out.box.lt (by omega)) (fun _ b o e => hk.2 _ (by have := HPB.out b o e; omega) (by have := HPB.out b o e; omega))) HS3.out (by omega) (fun i hi => by rw [edgeQ_in hi]) 8)
    KeepBut8.trans (fun W l o o' hl h _ _ => KeepBut8.put W l o o' hl h) (Below.refl _ _) (fun _ => rfl)
    (fun pre W => Cells8 W w.heap.size #[.int .i64 (sumX pre)] 3 ∧ Below w.heap.size w W ∧ w3.heap.size ≤ W.heap.size)
    (fun _ _ _ => False)
    (OwnFrom.and (Own.from (cells8_own _ _ (fun pre => #[.int .i64 (sumX pre)])) _) (OwnFrom.and (ownFrom_below (Nat.le_refl _) (by omega)) (fun _ _ _ _ hs hg _ => Nat.le_trans hs hg.size)))
    (fun _ _ _ _ _ hs _ _ => hs)
    ⟨HR3.out, HB3.out, Nat.le_refl _⟩
    (fun x a' W => ∃ B1 B2, Ends W w3.heap.size x.1 B1 B2 ∧ a' = { tmps := #[.slice a len cap, undef, .int .i64 0, .pointer (some ⟨w.heap.size, 0, none⟩), .pointer (some ⟨B1, 0, none⟩), .pointer (some ⟨B2, 0, none⟩), .slice a len cap, .func (.func 101) #[] #[.pointer (some ⟨Bp, 0, none⟩)], pt x.1.1.1 x.1.1.2, pt x.1.2.1 x.1.2.2, undef, undef, undef, undef, undef, undef], defers := [] })
    (fun x a' _ X Y row hs hg hr => by obtain ⟨B1, B2, h1, h2⟩ := hs; exact ⟨B1, B2, ends_own () X Y row h1 hg hr, h2⟩)
    ?assign ?body ?done ?stop
  case assign =>
    rintro l pre x W K ⟨h1, h2, h3⟩ hK
    have hsz := h2.size
    have hlt := h1.lt
    have HB2 := below_box2 W (.cells #[.int .i64 x.1.1.1, .int .i64 x.1.1.2] 28) (.cells #[.int .i64 x.1.2.1, .int .i64 x.1.2.2] 28)
    have HK := Lib.hid (hK _ _ ((keepsBelow8 HB2).from _) (KeepBut8.of HB2 h3) ⟨h1.next HB2, below_call h2 HB2, Nat.le_trans h3 HB2.size⟩ ⟨W.heap.size, W.heap.size + 1, Ends.new W h3 x.1, rfl⟩)
    clear hK h1 h2 h3 HB2
    gi_wp2
    exact HK.out
  case body =>
    rintro l pre x a' W hl ⟨r', hr⟩ ⟨h1, h2, h3⟩ ⟨B1, B2, E, rfl⟩ hlen
    have HE := Lib.hid E
    have H1 := Lib.hid h1
    have H2 := Lib.hid h2
    have H3 := Lib.hid h3
    have hlen2 : pre.length < 1000 := by have := HLE.out; omega
    have sb := sumX_bd pre
    have sx := areaX_bd x
    have HS := Lib.hid (sumX_snoc pre x)
    obtain ⟨o1, o2⟩ := x.2
    unfold okQ okP at o1 o2
    have HC := Lib.hid (fun u => show Calls Try.prog 82 #[pt x.1.1.1 x.1.1.2, pt x.1.2.1 x.1.2.2] u fun e w' => e = .returned (.int .i64 (areaX x)) ∧ Below u.heap.size u w' from cross _ _ _ _ u (by omega) (by omega) (by omega) (by omega) (by omega) (by omega) (by omega) (by omega))
    clear h1 h2 h3 E hlen hr o1 o2
    have s1 : -800000000000 ≤ sumX pre := by omega
    have s2 : sumX pre ≤ 800000000000 := by omega
    have s3 := sx.1
    have s4 := sx.2
    clear sb sx
    generalize areaX x = v at *
    generalize sumX pre = s at *
    have HCK := Lib.hid (fun (q : Kept W) => keptCall (HC.out q.u))
    have u0 := keptCell H1.out.lt (H1.out.cell (i := 0) rfl)
    obtain ⟨u1, u2⟩ := HE.out.p1.kepts
    obtain ⟨u3, u4⟩ := HE.out.p2.kepts
    refine wpIn_block ?_
    refine wpIn_region_tailR 5 (by kernel_rfl) (by kernel_rfl) (by kernel_rfl) ?_
    simp only [List.take_succ_cons, List.take_zero, List.drop_succ_cons, List.drop_zero]
    repeat (go_big_quiet_step ((go_at_call 82; exact HCK.out _)))
    refine wpQuiet_nil ?_
    rintro w5 ⟨⟨_, K5⟩, rfl⟩
    have HR5 := Lib.hid (H1.out.next K5)
    have r0 := HR5.out.cell (i := 0) rfl
    have f0 := HR5.out.frozen (i := 0)
    clear u0 u1 u2 u3 u4 HCK
    gi_wp2
    exact ⟨((keepsBelow8 K5).trans (KeepsOthers.setCell _ _ _)).from _, (KeepBut8.of K5 H3.out).trans (KeepBut8.set _ _ _ _), by rw [HS.out]; exact HR5.out.set 0 _, (below_call H2.out K5).setCell (p := ⟨w.heap.size, 0, none⟩) (Nat.le_refl _) _, Nat.le_trans H3.out (Nat.le_trans K5.size (KeepsOthers.setCell _ _ _).size)⟩
  case done =>
    rintro D ys W hD rfl ⟨h1, h2, h3⟩ hK
    rw [HV.out] at h1
    have HRW := Lib.hid h1
    have HBW := Lib.hid h2
    have HK := Lib.hid hK
    have HD := Lib.hid hD
    have r0 := h1.cell (i := 0) rfl
    clear h1 h2 h3 hK hD
    gi_wp2
    refine ⟨by simp, .inl ⟨_, _, rfl, run_takeDeferred HK.out, ?_⟩⟩
    exact ⟨.int .i64 (loopSum ps (0, 0)), by simp [results, Try.results64, go_sem], rfl, HBW.out.trans (belowK_b (w := w) (Nat.le_refl _) _ D _ _ (by have := HD.out; omega) HK.out rfl rfl)⟩
  case stop =>
    rintro D c pre W _ _ h _
    exact h.elim
end Go.Proofs.Ytkmopgdnaohcdaa
