/- BoxOf, of the document. -/
import Derived.Test.YtlbheofomjakmaaBx7
namespace Go.Proofs.Ytlbheofomjakmaa
set_option maxRecDepth 100000
open Go.RowKit
attribute [local go_sem ↓] Go.wp_at_zero Go.wp_at_succ
theorem lowStep (f : Nat → Int) : ∀ k : Nat, (if f k < lowF f (k - 1) then f k else lowF f (k - 1)) = lowF f k
  | 0 => by show (if f 0 < f 0 then f 0 else f 0) = f 0; split <;> rfl
  | k + 1 => rfl
theorem topStep (f : Nat → Int) : ∀ k : Nat, (if topF f (k - 1) < f k then f k else topF f (k - 1)) = topF f k
  | 0 => by show (if f 0 < f 0 then f 0 else f 0) = f 0; split <;> rfl
  | k + 1 => rfl
theorem BoxSt.start (w w0 : World) (x y : Int) (T : TypeId) : BoxSt w w0 w0.heap.size (w0.heap.size + 1) x y x y ((w0.alloc (.cells #[.int .i64 x, .int .i64 y] T)).alloc (.cells #[.int .i64 x, .int .i64 y] T)) := by
  refine ⟨(OwnP.box w0 x y T).next (below_box _ _), ?_, below_box2 w0 _ _⟩
  have := OwnP.box (w0.alloc (.cells #[.int .i64 x, .int .i64 y] T)) x y T
  simpa using this
set_option maxHeartbeats 8000000 in
theorem specBoxOf (a : Option Addr) (len cap : Nat) (ps : List (Int × Int)) (w : World) (h : PtsAt w a len ps) (hl : len ≤ 9223372036854775807) :
    Calls Try.prog 26 #[.slice a len cap] w fun e w' => e = boxE ps ∧ Below w.heap.size w w' := by
  have hle := h.1
  have HB := Lib.hid (below_box2 w (.cells #[.int .i64 0, .int .i64 0] 31) (.cells #[.int .i64 0, .int .i64 0] 31))
  obtain ⟨R1, R2⟩ := own2b w 31
  by_cases h1 : 1 ≤ len ∧ len ≤ 400
  · obtain ⟨h1, h4⟩ := h1
    have h' := h.next HB.out
    obtain ⟨b, rfl, lt, hc⟩ := h'.somes h1
    have HC := Lib.hid hc
    have HLT := Lib.hid lt
    have HLE := Lib.hid hle
    have HI : Hid (okPts ps → ∀ k, ps.length = k + 1 → Ending.returned (.tuple #[pt (lowF (pX ps) k) (lowF (pY ps) k), pt (topF (pX ps) k) (topF (pY ps) k)]) = boxE ps) := Lib.hid (fun hk k he => boxE_in ⟨by omega, by omega, hk⟩ he)
    have HO : Hid (¬ okPts ps → Ending.returned (.tuple #[pt 0 0, pt 0 0]) = boxE ps) := Lib.hid (fun hk => boxE_out (fun q => hk q.2.2))
    have n6 : 0 < len := by omega
    have HR := Lib.hid (And.intro R1 R2)
    clear h h' hle hc lt R1 R2
    go_enter Try.func26, Try.ntmps26
    go_wp2_with fail
    refine (l1In_yes (len : Int) 1 400 _ (by omega) (by omega)).mono ?_
    generalize (w.alloc (.cells #[.int .i64 0, .int .i64 0] 31)).alloc (.cells #[.int .i64 0, .int .i64 0] 31) = w0 at *
    rintro e w' ⟨rfl, rfl⟩
    obtain ⟨c0, c1⟩ := HC.out 0 n6
    simp only [Nat.zero_mul, Nat.zero_add] at c0 c1
    have hH : w.heap.size + 1 < w0.heap.size := HR.out.2.lt
    have S0 := Lib.hid (BoxSt.start w w0 (pX ps 0) (pY ps 0) 31)
    have gV : w0.heap.size ≤ w0.heap.size := Nat.le_refl _
    have gU : w0.heap.size ≤ w0.heap.size + 1 := Nat.le_succ _
    have hVU : w0.heap.size ≠ w0.heap.size + 1 := by omega
    obtain ⟨_, d0, d1⟩ := (AtP.mk HLT.out c0 c1).alloc (.cells #[.int .i64 (pX ps 0), .int .i64 (pY ps 0)] 31)
    go_wp2
    clear c0 c1 d0 d1
    go_loopw [6] (fun i wr => ∃ k : Nat, k ≤ len ∧ i = .int .i64 (k : Int) ∧ Hid (∀ i, i < k → okP (pX ps i) (pY ps i)) ∧ Hid (BoxSt w w0 w0.heap.size (w0.heap.size + 1) (lowF (pX ps) (k - 1)) (lowF (pY ps) (k - 1)) (topF (pX ps) (k - 1)) (topF (pY ps) (k - 1)) wr)) (fun i _ => len - (intOf i).toNat)
    case atStart => exact ⟨0, Nat.zero_le _, rfl, Lib.hid (fun i hi => absurd hi (Nat.not_lt_zero _)), S0⟩
    case round =>
      obtain ⟨k, hk, rfl, HV, HS⟩ := hrel
      clear S0
      by_cases hlt : k < len
      · obtain ⟨c0, c1⟩ := HC.out k hlt
        have d0 : wr.cell? ⟨b, k * 2, none⟩ = _ := (HS.out.bel.cell (p := ⟨b, k * 2, none⟩) HLT.out).trans c0
        have d1 : wr.cell? ⟨b, k * 2 + 1, none⟩ = _ := (HS.out.bel.cell (p := ⟨b, k * 2 + 1, none⟩) HLT.out).trans c1
        have hbw : b < wr.heap.size := Nat.lt_of_lt_of_le HLT.out HS.out.bel.size
        have j1 : (0 : Int) ≤ (k : Int) := by omega
        have j2 : (k : Int) < (len : Int) := by omega
        clear c0 c1
        by_cases hv : okP (pX ps k) (pY ps k)
        · have HV2 : Hid (∀ i, i < k + 1 → okP (pX ps i) (pY ps i)) := Lib.hid (fun i hi => by
            by_cases e : i = k
            · subst e; exact hv
            · exact HV.out i (by omega))
          have HOK := Lib.hid hv
          clear hv HV
          have HL1 := Lib.hid (lowStep (pX ps) k)
          have HL2 := Lib.hid (lowStep (pY ps) k)
          have HL3 := Lib.hid (topStep (pX ps) k)
          have HL4 := Lib.hid (topStep (pY ps) k)
          obtain ⟨lx', hv1⟩ : ∃ v, lowF (pX ps) k = v := ⟨_, rfl⟩
          obtain ⟨ly', hv2⟩ : ∃ v, lowF (pY ps) k = v := ⟨_, rfl⟩
          obtain ⟨hx', hv3⟩ : ∃ v, topF (pX ps) k = v := ⟨_, rfl⟩
          obtain ⟨hy', hv4⟩ : ∃ v, topF (pY ps) k = v := ⟨_, rfl⟩
          rw [hv1] at HL1
          rw [hv2] at HL2
          rw [hv3] at HL3
          rw [hv4] at HL4
          replace hv1 := Lib.hid hv1
          replace hv2 := Lib.hid hv2
          replace hv3 := Lib.hid hv3
          replace hv4 := Lib.hid hv4
          generalize lowF (pX ps) (k - 1) = lx at *
          generalize lowF (pY ps) (k - 1) = ly at *
          generalize topF (pX ps) (k - 1) = hx at *
          generalize topF (pY ps) (k - 1) = hy at *
          generalize pX ps k = px at *
          generalize pY ps k = py at *
          go_wp2_with fail
          refine (specPointValidY px py _ HOK.out).mono ?_
          rintro e w2 ⟨rfl, B2⟩
          have HS1 := Lib.hid (HS.out.next B2)
          have q0 := keptCell (Nat.lt_of_lt_of_le hbw B2.size) ((B2.cell (p := ⟨b, k * 2, none⟩) hbw).trans d0)
          have q1 := keptCell (Nat.lt_of_lt_of_le hbw B2.size) ((B2.cell (p := ⟨b, k * 2 + 1, none⟩) hbw).trans d1)
          obtain ⟨a0, a1⟩ := HS1.out.low.toAtP.kepts
          have e1 := HL1.out
          have e2 := HL2.out
          have e3 := HL3.out
          have e4 := HL4.out
          clear HS B2 d0 d1 HL1 HL2 HL3 HL4
          go_wp2
          refine wp_region_ktail 17 (by kernel_rfl) (by kernel_rfl) ?_
          simp only [List.take_succ_cons, List.take_zero, List.drop_succ_cons, List.drop_zero]
          repeat (go_big_quiet_step (fail))
          refine wpQuiet_nil ?_
          rintro w3 ⟨⟨_, K3⟩, rfl⟩
          have HS3 := Lib.hid ((HS1.out.next K3).setV hVU gV lx' ly')
          obtain ⟨⟨_, _, _⟩, z0, z1⟩ := id (HS1.out.low.next K3)
          obtain ⟨⟨_, m0, m1⟩, _, _⟩ := id (HS1.out.low.next K3)
          have nb : ∀ v u, ((w3.setCell ⟨w0.heap.size, 0, none⟩ v).setCell ⟨w0.heap.size, 1, none⟩ u).heap.size = w3.heap.size := fun v u => by simp [World.setCell]
          have hbn : w0.heap.size ≠ b := by have := HLT.out; omega
          have HQ : Hid (w3.cell? ⟨b, k * 2, none⟩ = some (.int .i64 px) ∧ w3.cell? ⟨b, k * 2 + 1, none⟩ = some (.int .i64 py)) := Lib.hid (And.intro (q0 ⟨w3, K3⟩) (q1 ⟨w3, K3⟩))
          have hb3 : b < w3.heap.size := Nat.lt_of_lt_of_le (Nat.lt_of_lt_of_le HLT.out HS1.out.bel.size) K3.size
          clear HS1 K3 a0 a1 q0 q1
          go_wp2
          have q0 := keptCell (w := (w3.setCell ⟨w0.heap.size, 0, none⟩ (.int .i64 lx')).setCell ⟨w0.heap.size, 1, none⟩ (.int .i64 ly')) (by rw [nb]; exact hb3) ((World.cell?_setCell_far _ _ _ _ hbn).trans ((World.cell?_setCell_far _ _ _ _ hbn).trans HQ.out.1))
          have q1 := keptCell (w := (w3.setCell ⟨w0.heap.size, 0, none⟩ (.int .i64 lx')).setCell ⟨w0.heap.size, 1, none⟩ (.int .i64 ly')) (by rw [nb]; exact hb3) ((World.cell?_setCell_far _ _ _ _ hbn).trans ((World.cell?_setCell_far _ _ _ _ hbn).trans HQ.out.2))
          obtain ⟨b0, b1⟩ := HS3.out.top.toAtP.kepts
          clear nb m0 m1 z0 z1 HQ hb3
          generalize (w3.setCell ⟨w0.heap.size, 0, none⟩ (.int .i64 lx')).setCell ⟨w0.heap.size, 1, none⟩ (.int .i64 ly') = w4 at *
          refine wp_region_ktail 17 (by kernel_rfl) (by kernel_rfl) ?_
          simp only [List.take_succ_cons, List.take_zero, List.drop_succ_cons, List.drop_zero]
          repeat (go_big_quiet_step (fail))
          refine wpQuiet_nil ?_
          rintro w5 ⟨⟨_, K5⟩, rfl⟩
          obtain ⟨⟨_, y0, y1⟩, x0, x1⟩ := id (HS3.out.top.next K5)
          have HS6 := Lib.hid ((HS3.out.next K5).setU hVU gU hx' hy')
          clear K5 HS3 b0 b1 q0 q1
          go_wp2
          go_roundw
          case rel => exact ⟨k + 1, by omega, by congr 1, HV2, by show Hid (BoxSt w w0 w0.heap.size (w0.heap.size + 1) (lowF (pX ps) k) (lowF (pY ps) k) (topF (pX ps) k) (topF (pY ps) k) _); rw [hv1.out, hv2.out, hv3.out, hv4.out]; exact HS6⟩
          case measure => simp [intOf]; omega
        · have HE := Lib.hid (HO.out (not_okPts (i := k) hv))
          have HNV := Lib.hid hv
          clear hv
          generalize pX ps k = px at *
          generalize pY ps k = py at *
          go_wp2_with fail
          refine (specPointValidN px py _ HNV.out).mono ?_
          rintro e w2 ⟨rfl, B2⟩
          obtain ⟨⟨_, r0, r1⟩, s0, s1⟩ := id (HR.out.1.next (below_call HS.out.bel B2))
          obtain ⟨⟨_, t0, t1⟩, t2, t3⟩ := id (HR.out.2.next (below_call HS.out.bel B2))
          have HB2 := Lib.hid (below_call HB.out (below_call HS.out.bel B2))
          clear B2 HS d0 d1
          go_wp2
          exact bodyPost_ret (v := .tuple #[pt 0 0, pt 0 0]) (by simp [results, Try.results26, go_sem, r0, r1, t0, t1]) rfl ⟨HE.out, below_set (below_set HB2.out (Nat.le_refl _) _ _) (by omega) _ _⟩
      · obtain rfl : k = len := by omega
        have j2 : ¬ ((k : Int) < (k : Int)) := by omega
        have HE := Lib.hid (HI.out (okPts_of fun i hi => HV.out i (by have := HLE.out; omega)) (k - 1) (by have := HLE.out; omega))
        have nv0 : w.heap.size ≠ w0.heap.size := by omega
        have nv1 : w.heap.size + 1 ≠ w0.heap.size := by omega
        have nu0 : w.heap.size ≠ w0.heap.size + 1 := by omega
        have nu1 : w.heap.size + 1 ≠ w0.heap.size + 1 := by omega
        obtain ⟨⟨_, a0, a1⟩, z0, z1⟩ := id HS.out.low
        obtain ⟨⟨_, b0, b1⟩, y0, y1⟩ := id HS.out.top
        obtain ⟨⟨_, r0, r1⟩, s0, s1⟩ := id (HR.out.1.next HS.out.bel)
        obtain ⟨⟨_, t0, t1⟩, q0, q1⟩ := id (HR.out.2.next HS.out.bel)
        go_wp2
        go_region_held3 (fun u => u.cell? ⟨w0.heap.size, 0, none⟩ = some (.int .i64 (lowF (pX ps) (k - 1))) ∧ u.cell? ⟨w0.heap.size, 1, none⟩ = some (.int .i64 (lowF (pY ps) (k - 1))) ∧ u.cell? ⟨w0.heap.size + 1, 0, none⟩ = some (.int .i64 (topF (pX ps) (k - 1))) ∧ u.cell? ⟨w0.heap.size + 1, 1, none⟩ = some (.int .i64 (topF (pY ps) (k - 1)))) (go_keep) (fail)
        go_wp2
        exact bodyPost_ret (v := .tuple #[pt (lowF (pX ps) (k - 1)) (lowF (pY ps) (k - 1)), pt (topF (pX ps) (k - 1)) (topF (pY ps) (k - 1))]) (by simp [results, Try.results26, go_sem, r0, r1, t0, t1]) rfl ⟨HE.out, (below_set (below_set (below_call HB.out HS.out.bel) (Nat.le_refl _) _ _) (by omega) _ _).drew⟩
  · have HE := Lib.hid (boxE_out (ps := ps) fun k => h1 ⟨by have := k.1; omega, by have := k.2.1; omega⟩)
    obtain ⟨⟨_, r0, r1⟩, s0, s1⟩ := id R1
    obtain ⟨⟨_, t0, t1⟩, t2, t3⟩ := id R2
    have hn : (len : Int) < 1 ∨ 400 < (len : Int) := by omega
    clear h hle R1 R2 h1
    go_enter Try.func26, Try.ntmps26
    go_wp2_with fail
    refine (l1In_no (len : Int) 1 400 _ hn).mono ?_
    rintro e w' ⟨rfl, rfl⟩
    go_wp2
    exact bodyPost_ret (v := .tuple #[pt 0 0, pt 0 0]) (by simp [results, Try.results26, go_sem, r0, r1, t0, t1]) rfl ⟨HE.out, HB.out⟩
end Go.Proofs.Ytlbheofomjakmaa
