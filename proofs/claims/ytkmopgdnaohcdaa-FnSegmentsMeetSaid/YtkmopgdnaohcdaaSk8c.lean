/- The program's searches over the edges of a polygon: contains, hits, meets. -/
import Derived.Test.YtkmopgdnaohcdaaSk8b
import Derived.Test.YtkmopgdnaohcdaaSm8
namespace Go.Proofs.Ytkmopgdnaohcdaa
set_option maxRecDepth 100000
open Go.RowKit Go.Shelf
attribute [local go_sem] Oper.semAt_some
set_option maxHeartbeats 2000000 in
theorem meetsC (a a2 : Option Addr) (len cap len2 cap2 : Nat) (ps qs : List P2) (w : World) (hp : PL w a len ps) (hq : PL w a2 len2 qs) (hl : len ≤ 1000) (hl2 : len2 ≤ 1000) (h0 : 1 ≤ len2) :
    Calls Try.prog 74 #[.slice a len cap, .slice a2 len2 cap2] w fun e w' => e = .returned (.bool (decide (metV ps qs))) ∧ Below w.heap.size w w' := by
  refine (callsIn_wide (n := 9)).1 ?_
  have HLE := Lib.hid hp.1
  have HB := Lib.hid (below_box2 w (.cells #[.slice a2 len2 cap2] 64) (.cells #[.bool false] 4))
  have HP := Lib.hid (hp.next HB.out)
  have HQ := Lib.hid (hq.next HB.out)
  have HX := Lib.hid ((Cells8.new w #[.slice a2 len2 cap2] 64).alloc (.cells #[.bool false] 4))
  have HR := Lib.hid (Cells8.new (w.alloc (.cells #[.slice a2 len2 cap2] 64)) #[.bool false] 4)
  rw [World.size_alloc] at HR
  clear hp hq
  refine callsIn_of_wp_marks Try.func74 rfl trivial ?_ rfl
  simp only [Try.ntmps74, List.size_toArray, List.length_cons, List.length_nil, Nat.reduceAdd, Nat.reduceSub, Array.replicate_succ, Array.replicate_zero, List.push_toArray, List.append_toArray, List.nil_append, List.cons_append]
  gi_wp2
  generalize (w.alloc (.cells #[.slice a2 len2 cap2] 64)).alloc (.cells #[.bool false] 4) = w2 at *
  refine ⟨trivial, ?_⟩
  refine (callsIn_wide.2 (edgesC a len cap ps w2 HP.out)).mono ?_
  rintro e w3 ⟨Bp, rfl, S3, B3, k1⟩
  have HS3 := Lib.hid S3
  have HR3 := Lib.hid (HR.out.next B3)
  have HB3 := Lib.hid (below_call HB.out B3)
  have HX3 := Lib.hid (HX.out.next B3)
  have HQ3 := Lib.hid (HQ.out.next B3)
  have HP3 := Lib.hid (HP.out.next B3)
  have hs2 := HR.out.lt
  have hs3 := B3.size
  clear S3 B3 HX HR HB HP HQ
  gi_wp2
  refine wpIn_rangeFunc_ownH rfl (by omega) (gf := 101) (lb := #[.pointer (some ⟨Bp, 0, none⟩)]) rfl trivial (fun args w => by kernel_rfl)
    (edgesStopsK (Below w3.heap.size) Bp a len cap ps w3 (fun _ _ hk h => HS3.out.keepB h hk) HS3.out (by omega) 8)
    belowK_t (belowK_b (Nat.le_refl _)) (Below.refl _ _) (fun _ => rfl)
    (Seek (hitE qs) w3)
    (Found (hitE qs) w (w.heap.size + 1) (.bool true))
    seek_own (found_own (by omega))
    ⟨fun _ h => (by cases h), Below.refl _ _⟩
    (fun x a' W => ∃ B1 B2, Ends W w3.heap.size x B1 B2 ∧ a' = { tmps := #[.slice a len cap, .slice a2 len2 cap2, undef, .pointer (some ⟨w.heap.size, 0, none⟩), .pointer (some ⟨w.heap.size + 1, 0, none⟩), .pointer (some ⟨B1, 0, none⟩), .pointer (some ⟨B2, 0, none⟩), .slice a len cap, .func (.func 101) #[] #[.pointer (some ⟨Bp, 0, none⟩)], pt x.1.1 x.1.2, pt x.2.1 x.2.2, undef, undef, undef, undef, undef, undef, undef, undef, undef], defers := [] })
    (fun x a' _ X Y row hs hg hr => by obtain ⟨B1, B2, h1, h2⟩ := hs; exact ⟨B1, B2, ends_own () X Y row h1 hg hr, h2⟩)
    ?assign ?body ?done ?stop
  case assign =>
    rintro l pre x W K ⟨h1, h3⟩ hK
    have hsz := h3.size
    have HK := Lib.hid (hK _ _ ((keepsBelow8 (below_box2 W (.cells #[.int .i64 x.1.1, .int .i64 x.1.2] 28) (.cells #[.int .i64 x.2.1, .int .i64 x.2.2] 28))).from _) ((below_box2 W _ _).mono hsz) ⟨h1, below_call h3 (below_box2 W _ _)⟩ ⟨W.heap.size, W.heap.size + 1, Ends.new W hsz x, rfl⟩)
    clear hK h1 h3
    gi_wp2
    exact HK.out
  case body =>
    rintro l pre x a' W hl ⟨r', hr⟩ ⟨h1, h3⟩ ⟨B1, B2, E, rfl⟩ hlen
    have HE := Lib.hid E
    have H1 := Lib.hid h1
    have H3 := Lib.hid h3
    clear h1 h3 E hlen hr
    have HXW := Lib.hid (HX3.out.next H3.out)
    have HRW := Lib.hid (HR3.out.next H3.out)
    have HC := Lib.hid (fun u hu => hitsC a2 len2 cap2 qs x.1 x.2 u hu hl2)
    have HQW := Lib.hid (HQ3.out.next H3.out)
    have c0 := HXW.out.cell (i := 0) rfl
    obtain ⟨_, e1, e2⟩ := HE.out.p1
    obtain ⟨_, e3, e4⟩ := HE.out.p2
    by_cases hC : (hitE qs) x
    · have HCC := Lib.hid hC
      have hd : decide (hitV qs x.1 x.2) = true := decide_eq_true hC
      clear hC
      gi_wp2_with (refine ⟨trivial, ?_⟩; gi_at_call 72; refine (CallsIn.inRound l (callsIn_wide.2 (HC.out _ HQW.out))).mono ?_; rintro e w5 ⟨rfl, K5⟩; have HR5 := Lib.hid (HRW.out.next K5); have r0 := HR5.out.cell (i := 0) rfl; have f0 := HR5.out.frozen (i := 0); clear c0 e1 e2 e3 e4)
      exact ⟨((keepsBelow8 K5).trans (KeepsOthers.setCell _ _ _)).from _, rfl, ex_snoc HCC.out, HR5.out.set 0 _, (below_call (below_call HB3.out H3.out) K5).setCell (p := ⟨w.heap.size + 1, 0, none⟩) (by show w.heap.size ≤ w.heap.size + 1; omega) _⟩
    · have HCC := Lib.hid hC
      have hd : decide (hitV qs x.1 x.2) = false := decide_eq_false hC
      clear hC
      gi_wp2_with (refine ⟨trivial, ?_⟩; gi_at_call 72; refine (CallsIn.inRound l (callsIn_wide.2 (HC.out _ HQW.out))).mono ?_; rintro e w5 ⟨rfl, K5⟩; have HR5 := Lib.hid (HRW.out.next K5); have r0 := HR5.out.cell (i := 0) rfl; have f0 := HR5.out.frozen (i := 0); clear c0 e1 e2 e3 e4)
      exact ⟨(keepsBelow8 K5).from _, K5.mono H3.out.size, all_snoc H1.out HCC.out, below_call H3.out K5⟩
  case done =>
    rintro D ys W hD rfl ⟨h1, h3⟩ hK
    have HV := Lib.hid (show decide (conV ps (cor qs 0)) = decide (metV ps qs) from Bool.eq_iff_iff.2 (by
      simp only [decide_eq_true_eq]
      exact ⟨fun h => .inr h, fun h => by rcases h with ⟨i, hi, hc⟩ | h; exact absurd hc (all_edges h1 i hi); exact h⟩))
    have HRW := Lib.hid (HR3.out.next h3)
    have HXW := Lib.hid (HX3.out.next h3)
    have HPW := Lib.hid (HP3.out.next h3)
    have HBW := Lib.hid (below_call HB3.out h3)
    have hqw := HQ3.out.next h3
    obtain ⟨b, o, rfl, lt, hc⟩ := hqw.somes h0
    have HK := Lib.hid hK
    have HD := Lib.hid hD
    have HC := Lib.hid (containsC a len cap ps (cor qs 0) W HPW.out hl)
    have r0 := HRW.out.cell (i := 0) rfl
    have f0 := HRW.out.frozen (i := 0)
    have c0 := HXW.out.cell (i := 0) rfl
    have d := hc 0 h0
    rw [Nat.zero_mul, Nat.add_zero] at d
    obtain ⟨d1, d2⟩ := d
    have l0 : (0 : Int) < (len2 : Int) := by omega
    clear h1 h3 hK hD hqw hc
    generalize decide (conV ps (cor qs 0)) = bb at *
    generalize cor qs 0 = c at *
    gi_wp2_with (refine ⟨trivial, ?_⟩; gi_at_call 62; refine (callsIn_wide.2 HC.out).mono ?_; rintro e w5 ⟨rfl, K5⟩; have HR5 := Lib.hid (HRW.out.next K5); have r5 := HR5.out.cell (i := 0) rfl; have f5 := HR5.out.frozen (i := 0); have HK5 := Lib.hid ((K5.block D (Array.getElem?_eq_some_iff.1 HK.out).1).trans HK.out); clear c0 d1 d2 r0 f0)
    have hK6 := (KeepsOthers.setCell w5 ⟨w.heap.size + 1, 0, none⟩ (.bool bb)).same D _ HK5.out rfl
    refine ⟨by simp, .inl ⟨_, _, rfl, run_takeDeferred hK6, ?_⟩⟩
    have hne : w.heap.size + 1 ≠ D := by have := HD.out; omega
    have q := (World.putObj_heap_other (w := w5.setCell ⟨w.heap.size + 1, 0, none⟩ (.bool bb)) (o := .deferred none) hne).trans (HR5.out.set 0 (.bool bb))
    have q0 := Cells8.cell (i := 0) q rfl
    refine ⟨.bool bb, by simp [results, Try.results74, go_sem, q0], ?_, ((below_call HBW.out K5).setCell (p := ⟨w.heap.size + 1, 0, none⟩) (by show w.heap.size ≤ w.heap.size + 1; omega) _).trans (belowK_b (w := w) (Nat.le_refl _) _ D _ _ (by have := HD.out; omega) hK6 rfl rfl)⟩
    rw [HV.out]
  case stop =>
    rintro D c pre W hD ⟨k, hk, rfl⟩ ⟨rfl, h1, h2, h3⟩ hK
    have HV := Lib.hid (show (true : Bool) = decide (metV ps qs) from (decide_eq_true (p := metV ps qs) (.inl (ex_edge hk h1))).symm)
    have HRW := Lib.hid h2
    have HBW := Lib.hid h3
    have HK := Lib.hid hK
    have HD := Lib.hid hD
    clear h1 h2 h3 hK hD
    gi_wp2
    refine ⟨by simp, .inl ⟨_, _, rfl, run_takeDeferred HK.out, ?_⟩⟩
    have hne : w.heap.size + 1 ≠ D := by have := HD.out; omega
    have q := (World.putObj_heap_other (w := W) (o := .deferred none) hne).trans HRW.out
    have q0 := Cells8.cell (i := 0) q rfl
    refine ⟨.bool true, by simp [results, Try.results74, go_sem, q0], ?_, HBW.out.trans (belowK_b (w := w) (Nat.le_refl _) _ D _ _ (by have := HD.out; omega) HK.out rfl rfl)⟩
    rw [HV.out]
end Go.Proofs.Ytkmopgdnaohcdaa
