/- The program's functions on clearance. -/
import Derived.Test.YtgpoknehbadddaaFxb
import Derived.Test.YtgpoknehbadddaaSq9
import Derived.Test.YtgpoknehbadddaaOq9
import Derived.Test.YtgpoknehbadddaaSp9
import Derived.Test.YtgpoknehbadddaaSm8
import Derived.Test.YtgpoknehbadddaaZbSk
import Derived.Test.YtgpoknehbadddaaEx8
namespace Go.Proofs.Ytgpoknehbadddaa
set_option maxRecDepth 100000
open Go.RowKit Go.Shelf
attribute [local go_sem] Oper.semAt_some
attribute [local go_sem ↓] Go.wp_at_zero Go.wp_at_succ
theorem lessC (s t : Int) (w : World) : Calls Try.prog 50 #[.int .i64 s, .int .i64 t] w fun e w' => e = .returned (.bool (decide (s < t))) ∧ w = w' := by
  go_enter Try.func50, Try.ntmps50
  go_wp2
  go_ret
  exact ⟨rfl, rfl⟩
theorem measuredC (p : P2) (w : World) : Calls Try.prog 53 #[pt p.1 p.2] w fun e w' => e = .returned (.bool (decide (near9 p))) ∧ Below w.heap.size w w' := by
  have HB := Lib.hid (below_box w (.cells #[.int .i64 p.1, .int .i64 p.2] 24))
  by_cases h1 : (-1000 ≤ p.1 ∧ p.1 ≤ 1000) ∧ -1000 ≤ p.2 ∧ p.2 ≤ 1000
  · obtain ⟨⟨h1, h2⟩, h3, h4⟩ := h1
    have HV := Lib.hid (show true = decide (near9 p) from (decide_eq_true (p := near9 p) (by unfold near9; omega)).symm)
    generalize decide (near9 p) = v at *
    go_enter Try.func53, Try.ntmps53
    go_wp2
    all_goals first | (exfalso; omega) | (go_ret; refine ⟨ret_bool ?_, HB.out⟩; rw [← HV.out] <;> first | rfl | exact decide_eq_true (by omega) | exact decide_eq_false (by omega))
  · have HV := Lib.hid (show false = decide (near9 p) from (decide_eq_false (p := near9 p) (by unfold near9; omega)).symm)
    generalize decide (near9 p) = v at *
    go_enter Try.func53, Try.ntmps53
    go_wp2
    all_goals first | (exfalso; omega) | (go_ret; refine ⟨ret_bool ?_, HB.out⟩; rw [← HV.out] <;> first | rfl | exact decide_eq_true (by omega) | exact decide_eq_false (by omega))
theorem allMeasuredC (a : Option Addr) (len cap : Nat) (ps : List P2) (w : World) (hp : PL w a len ps) (hl : len ≤ 9223372036854775807) :
    Calls Try.prog 34 #[.slice a len cap] w fun e w' => ∃ b, e = .returned (.bool b) ∧ (b = true ↔ ∀ k, k < ps.length → near9 (cor ps k)) ∧ Below w.heap.size w w' := by
  have HLE := Lib.hid hp.1
  have HP := Lib.hid hp
  clear hp
  go_enter Try.func34, Try.ntmps34
  go_wp2
  go_loopw [7] (fun kv wr => ∃ j : Nat, j ≤ len ∧ kv = .int .i64 (j : Int) ∧ Hid (∀ k, k < j → near9 (cor ps k)) ∧ Hid (Below w.heap.size w wr)) (fun kv _ => len - (intOf kv).toNat)
  case atStart => exact ⟨0, Nat.zero_le _, rfl, Lib.hid (fun k hk => absurd hk (by omega)), Lib.hid (Below.refl _ _)⟩
  case round =>
    obtain ⟨j, hj, rfl, HI, HW⟩ := hrel
    have HP1 := Lib.hid (HP.out.next HW.out)
    by_cases hlt : j < len
    · obtain ⟨b, o, rfl, lt, hc⟩ := HP1.out.somes (by omega)
      have j1 : (0 : Int) ≤ (j : Int) := by omega
      have j2 : (j : Int) < (len : Int) := by omega
      have d1 := (hc j hlt).1
      have d2 := (hc j hlt).2
      have HWX := Lib.hid (below_call HW.out (below_box wr (.cells #[.int .i64 (cor ps j).1, .int .i64 (cor ps j).2] 24)))
      have HX := Lib.hid (AtP.box wr (cor ps j).1 (cor ps j).2 24)
      have HJ := Lib.hid (show j < ps.length by rw [← HLE.out]; exact hlt)
      have HQ : Hid (cor ps j = cor ps j) := Lib.hid rfl
      clear hc
      have HI2 := Lib.hid (fun (hn : near9 (cor ps j)) => show ∀ k, k < j + 1 → near9 (cor ps k) from fun k hk => by
        by_cases e : k = j
        · subst e; exact hn
        · exact HI.out k (by omega))
      have HNO := Lib.hid (fun (hn : ¬ near9 (cor ps j)) (h : ∀ k, k < ps.length → near9 (cor ps k)) => hn (h j HJ.out))
      generalize cor ps j = q at *
      have HC := Lib.hid (fun u => measuredC q u)
      by_cases hq : near9 q
      · rw [decide_eq_true hq] at HC
        replace HI2 := Lib.hid (HI2.out hq)
        clear hq HNO
        go_wp2_with fail
        clear d1 d2
        generalize wr.alloc (.cells #[.int .i64 q.1, .int .i64 q.2] 24) = w1 at *
        obtain ⟨_, x0, x1⟩ := HX.out
        go_wp2_with fail
        refine (HC.out _).mono ?_
        rintro e w2 ⟨rfl, B⟩
        have HW2 := Lib.hid (below_call HWX.out B)
        clear B x0 x1
        go_wp2
        go_roundw
        case rel => exact ⟨j + 1, by omega, by congr 1, HI2, HW2⟩
        case measure => simp [intOf]; omega
      · rw [decide_eq_false hq] at HC
        replace HNO := Lib.hid (HNO.out hq)
        clear hq HI2
        go_wp2_with fail
        clear d1 d2
        generalize wr.alloc (.cells #[.int .i64 q.1, .int .i64 q.2] 24) = w1 at *
        obtain ⟨_, x0, x1⟩ := HX.out
        go_wp2_with fail
        refine (HC.out _).mono ?_
        rintro e w2 ⟨rfl, B⟩
        have HW2 := Lib.hid (below_call HWX.out B)
        clear B x0 x1
        go_wp2
        go_ret
        exact ⟨false, rfl, ⟨fun h => (by cases h), fun h => absurd h HNO.out⟩, HW2.out⟩
    · obtain rfl : j = len := by omega
      go_wp2
      go_ret
      exact ⟨true, rfl, ⟨fun _ k hk => HI.out k (by rw [HLE.out]; exact hk), fun _ => rfl⟩, HW.out⟩
theorem squareOfC (q : P2) (w : World) (h1 : -20000 ≤ q.1) (h2 : q.1 ≤ 20000) (h3 : -20000 ≤ q.2) (h4 : q.2 ≤ 20000) :
    Calls Try.prog 54 #[pt q.1 q.2] w fun e w' => e = .returned (.int .i64 (q.1 * q.1 + q.2 * q.2)) ∧ Below w.heap.size w w' := by
  have HB := Lib.hid (below_box w (.cells #[.int .i64 q.1, .int .i64 q.2] 24))
  have HX := Lib.hid (AtP.box w q.1 q.2 24)
  have HC := Lib.hid (fun u => dot q.1 q.2 q.1 q.2 u h1 h2 h3 h4 h1 h2 h3 h4)
  generalize q.1 * q.1 + q.2 * q.2 = v at *
  clear h1 h2 h3 h4
  go_enter Try.func54, Try.ntmps54
  go_wp2_with fail
  generalize w.alloc (.cells #[.int .i64 q.1, .int .i64 q.2] 24) = w1 at *
  obtain ⟨_, x0, x1⟩ := HX.out
  go_wp2_with fail
  refine (HC.out _).mono ?_
  rintro e w2 ⟨rfl, B⟩
  have HW2 := Lib.hid (below_call HB.out B)
  clear B x0 x1
  go_wp2
  go_ret
  exact ⟨rfl, HW2.out⟩
set_option maxHeartbeats 4000000 in
theorem segmentSquareC (p a b : P2) (w : World) (hp : near9 p) (ha : near9 a) (hb : near9 b) :
    Calls Try.prog 35 #[pt p.1 p.2, pt a.1 a.2, pt b.1 b.2] w fun e w' => e = .returned (.int .i64 (segQ p a b)) ∧ Below w.heap.size w w' := by
  have HB0 := Lib.hid (below_box3 w (.cells #[.int .i64 p.1, .int .i64 p.2] 24) (.cells #[.int .i64 a.1, .int .i64 a.2] 24) (.cells #[.int .i64 b.1, .int .i64 b.2] 24))
  have HX := Lib.hid (box3 w p a b)
  obtain ⟨W0, W9⟩ := near_sq ha hb
  obtain ⟨C1, C2⟩ := near_cr hp ha hb
  have HSV := Lib.hid (show segQ p a b = if dot9 p a b ≤ 0 then sq2 p a else if sq2 a b ≤ dot9 p a b then sq2 p b else cr a b p * cr a b p / sq2 a b from rfl)
  have e0 : sq2 p a = (p.1 - a.1) * (p.1 - a.1) + (p.2 - a.2) * (p.2 - a.2) := by unfold sq2; grind
  have e1 : sq2 p b = (p.1 - b.1) * (p.1 - b.1) + (p.2 - b.2) * (p.2 - b.2) := by unfold sq2; grind
  have e2 : sq2 a b = (b.1 - a.1) * (b.1 - a.1) + (b.2 - a.2) * (b.2 - a.2) := by unfold sq2; grind
  have e3 : dot9 p a b = (b.1 - a.1) * (p.1 - a.1) + (b.2 - a.2) * (p.2 - a.2) := by unfold dot9; grind
  have e4 : cr a b p = (b.1 - a.1) * (p.2 - a.2) - (b.2 - a.2) * (p.1 - a.1) := by unfold cr; grind
  unfold near9 at hp ha hb
  have HM1 := Lib.hid (fun u => minusP b.1 b.2 a.1 a.2 u (by omega) (by omega) (by omega) (by omega) (by omega) (by omega) (by omega) (by omega))
  have HM2 := Lib.hid (fun u => minusP p.1 p.2 a.1 a.2 u (by omega) (by omega) (by omega) (by omega) (by omega) (by omega) (by omega) (by omega))
  have HM3 := Lib.hid (fun u => minusP p.1 p.2 b.1 b.2 u (by omega) (by omega) (by omega) (by omega) (by omega) (by omega) (by omega) (by omega))
  have HD1 := Lib.hid (fun u => dot (b.1 - a.1) (b.2 - a.2) (p.1 - a.1) (p.2 - a.2) u (by omega) (by omega) (by omega) (by omega) (by omega) (by omega) (by omega) (by omega))
  have HD2 := Lib.hid (fun u => dot (b.1 - a.1) (b.2 - a.2) (b.1 - a.1) (b.2 - a.2) u (by omega) (by omega) (by omega) (by omega) (by omega) (by omega) (by omega) (by omega))
  have HCR := Lib.hid (fun u => cross (b.1 - a.1) (b.2 - a.2) (p.1 - a.1) (p.2 - a.2) u (by omega) (by omega) (by omega) (by omega) (by omega) (by omega) (by omega) (by omega))
  have HQ1 := Lib.hid (fun u => squareOfC (p.1 - a.1, p.2 - a.2) u (by dsimp only; omega) (by dsimp only; omega) (by dsimp only; omega) (by dsimp only; omega))
  have HQ2 := Lib.hid (fun u => squareOfC (p.1 - b.1, p.2 - b.2) u (by dsimp only; omega) (by dsimp only; omega) (by dsimp only; omega) (by dsimp only; omega))
  dsimp only at HQ1 HQ2
  rw [← e0] at HQ1
  rw [← e1] at HQ2
  rw [← e2] at HD2
  rw [← e3] at HD1
  rw [← e4] at HCR
  clear e0 e1 e2 e3 e4 hp ha hb
  generalize segQ p a b = v at *
  generalize hdt : dot9 p a b = dt at *
  generalize sq2 p a = qa at *
  generalize sq2 p b = qb at *
  generalize sq2 a b = ln at *
  generalize cr a b p = c at *
  clear hdt
  have hcc := mul_bd (x := c) (y := c) (A := 8000000) (B := 8000000) C1 C2 C1 C2
  clear C1 C2
  go_enter Try.func35, Try.ntmps35
  go_upto_region 1 with fail
  generalize ((w.alloc (.cells #[.int .i64 p.1, .int .i64 p.2] 24)).alloc (.cells #[.int .i64 a.1, .int .i64 a.2] 24)).alloc (.cells #[.int .i64 b.1, .int .i64 b.2] 24) = w0 at *
  refine wp_region_inv (fun listed act u => ∃ (l0 l1 l2 l3 l4 l5 l6 l7 l8 l9 : Bool) (v7 v8 v12 v13 v14 v15 v16 v17 : Value), listed = #[l0, l1, l2, l3, l4, l5, l6, l7, l8, l9] ∧ act = { tmps := #[pt p.1 p.2, pt a.1 a.2, pt b.1 b.2, .pointer (some ⟨w.heap.size, 0, none⟩), .pointer (some ⟨w.heap.size + 1, 0, none⟩), .pointer (some ⟨w.heap.size + 1 + 1, 0, none⟩), .int .i64 0, v7, v8, undef, undef, undef, v12, v13, v14, v15, v16, v17, undef, undef, undef, undef, undef, undef, undef, undef, undef, undef, undef, undef, undef, undef, undef, undef, undef, undef, undef, undef, undef, undef, undef, undef, undef], defers := [] } ∧ (l0 = true → v12 = pt b.1 b.2) ∧ (l1 = true → v13 = pt a.1 a.2) ∧ (l2 = true → v14 = pt (b.1 - a.1) (b.2 - a.2)) ∧ (l3 = true → v15 = pt p.1 p.2) ∧ (l4 = true → v16 = pt a.1 a.2) ∧ (l5 = true → v17 = pt (p.1 - a.1) (p.2 - a.2)) ∧ (l6 = true → NewB w0.heap.size u l8 #[.int .i64 0, .int .i64 0] #[.int .i64 (b.1 - a.1), .int .i64 (b.2 - a.2)] 24 v7) ∧ (l7 = true → NewB w0.heap.size u l9 #[.int .i64 0, .int .i64 0] #[.int .i64 (p.1 - a.1), .int .i64 (p.2 - a.2)] 24 v8) ∧ (l8 = true → l6 = true) ∧ (l9 = true → l7 = true) ∧ (l6 = true → l7 = true → v7 ≠ v8) ∧ Below w0.heap.size w0 u) (by kernel_rfl) ?_ ?_ ?_ ?_ ?_
  · intro j o ho
    have hj : j < 10 := by rcases Nat.lt_or_ge j 10 with h | h; exact h; rw [Array.getElem?_eq_none (by simpa using h)] at ho; cases ho
    have hj2 : j = 0 ∨ j = 1 ∨ j = 2 ∨ j = 3 ∨ j = 4 ∨ j = 5 ∨ j = 6 ∨ j = 7 ∨ j = 8 ∨ j = 9 := by omega
    rcases hj2 with rfl | rfl | rfl | rfl | rfl | rfl | rfl | rfl | rfl | rfl
    all_goals
      cases ho
      decide
  · rintro listed act u ⟨l0, l1, l2, l3, l4, l5, l6, l7, l8, l9, v7, v8, v12, v13, v14, v15, v16, v17, rfl, _⟩
    rfl
  · exact ⟨false, false, false, false, false, false, false, false, false, false, undef, undef, undef, undef, undef, undef, undef, undef, rfl, rfl, (by intro h; cases h), (by intro h; cases h), (by intro h; cases h), (by intro h; cases h), (by intro h; cases h), (by intro h; cases h), (by intro h; cases h), (by intro h; cases h), (by intro h; cases h), (by intro h; cases h), (by intro h; cases h), (Below.refl _ _).drew⟩
  · intro listed act u i o hR ho hl hd
    obtain ⟨l0, l1, l2, l3, l4, l5, l6, l7, l8, l9, v7, v8, v12, v13, v14, v15, v16, v17, rfl, rfl, c0, c1, c2, c3, c4, c5, c6, c7, c8, c9, d6_7, HB⟩ := hR
    have hi : i < 10 := by rcases Nat.lt_or_ge i 10 with h | h; exact h; rw [Array.getElem?_eq_none (by simpa using h)] at ho; cases ho
    have hi2 : i = 0 ∨ i = 1 ∨ i = 2 ∨ i = 3 ∨ i = 4 ∨ i = 5 ∨ i = 6 ∨ i = 7 ∨ i = 8 ∨ i = 9 := by omega
    rcases hi2 with rfl | rfl | rfl | rfl | rfl | rfl | rfl | rfl | rfl | rfl
    all_goals (cases ho)
    · obtain ⟨_, k0, k1⟩ := (HX.out.2.2).next HB
      refine wpOp_step rfl (fun K hK => ?_)
      go_simp
      refine hK _ _ ?_
      exact ⟨true, l1, l2, l3, l4, l5, l6, l7, l8, l9, _, _, _, _, _, _, _, _, rfl, rfl, fun _ => rfl, c1, c2, c3, c4, c5, c6, c7, c8, c9, d6_7, HB⟩
    · obtain ⟨_, k0, k1⟩ := (HX.out.2.1).next HB
      refine wpOp_step rfl (fun K hK => ?_)
      go_simp
      refine hK _ _ ?_
      exact ⟨l0, true, l2, l3, l4, l5, l6, l7, l8, l9, _, _, _, _, _, _, _, _, rfl, rfl, c0, fun _ => rfl, c2, c3, c4, c5, c6, c7, c8, c9, d6_7, HB⟩
    · obtain rfl := c0 (hd { on := 0, ground := Ground.data } (by simp) rfl)
      obtain rfl := c1 (hd { on := 1, ground := Ground.data } (by simp) rfl)
      refine wpOp_step rfl (fun K hK => ?_)
      go_simp
      refine (HM1.out _).mono ?_
      rintro e u' ⟨rfl, BC⟩
      refine hK _ _ ?_
      exact ⟨l0, l1, true, l3, l4, l5, l6, l7, l8, l9, _, _, _, _, _, _, _, _, rfl, rfl, c0, c1, fun _ => rfl, c3, c4, c5, fun h => (c6 h).next BC, fun h => (c7 h).next BC, c8, c9, d6_7, below_call HB BC⟩
    · obtain ⟨_, k0, k1⟩ := (HX.out.1).next HB
      refine wpOp_step rfl (fun K hK => ?_)
      go_simp
      refine hK _ _ ?_
      exact ⟨l0, l1, l2, true, l4, l5, l6, l7, l8, l9, _, _, _, _, _, _, _, _, rfl, rfl, c0, c1, c2, fun _ => rfl, c4, c5, c6, c7, c8, c9, d6_7, HB⟩
    · obtain ⟨_, k0, k1⟩ := (HX.out.2.1).next HB
      refine wpOp_step rfl (fun K hK => ?_)
      go_simp
      refine hK _ _ ?_
      exact ⟨l0, l1, l2, l3, true, l5, l6, l7, l8, l9, _, _, _, _, _, _, _, _, rfl, rfl, c0, c1, c2, c3, fun _ => rfl, c5, c6, c7, c8, c9, d6_7, HB⟩
    · obtain rfl := c3 (hd { on := 3, ground := Ground.data } (by simp) rfl)
      obtain rfl := c4 (hd { on := 4, ground := Ground.data } (by simp) rfl)
      refine wpOp_step rfl (fun K hK => ?_)
      go_simp
      refine (HM2.out _).mono ?_
      rintro e u' ⟨rfl, BC⟩
      refine hK _ _ ?_
      exact ⟨l0, l1, l2, l3, l4, true, l6, l7, l8, l9, _, _, _, _, _, _, _, _, rfl, rfl, c0, c1, c2, c3, c4, fun _ => rfl, fun h => (c6 h).next BC, fun h => (c7 h).next BC, c8, c9, d6_7, below_call HB BC⟩
    · have e8 : l8 = false := by cases h : l8 with | false => rfl | true => exact absurd (c8 h) (by rw [show l6 = false from hl]; exact Bool.false_ne_true)
      subst e8
      refine wpOp_step rfl (fun K hK => ?_)
      go_simp
      refine hK _ _ ?_
      exact ⟨l0, l1, l2, l3, l4, l5, true, l7, false, l9, _, _, _, _, _, _, _, _, rfl, rfl, c0, c1, c2, c3, c4, c5, fun _ => NewB.new _ HB.size, fun h => (c7 h).alloc _, fun _ => rfl, c9, fun _ h => ((c7 h).ne_new).symm, below_call HB (below_box _ _)⟩
    · have e9 : l9 = false := by cases h : l9 with | false => rfl | true => exact absurd (c9 h) (by rw [show l7 = false from hl]; exact Bool.false_ne_true)
      subst e9
      refine wpOp_step rfl (fun K hK => ?_)
      go_simp
      refine hK _ _ ?_
      exact ⟨l0, l1, l2, l3, l4, l5, l6, true, l8, false, _, _, _, _, _, _, _, _, rfl, rfl, c0, c1, c2, c3, c4, c5, fun h => (c6 h).alloc _, fun _ => NewB.new _ HB.size, c8, fun _ => rfl, fun h _ => (c6 h).ne_new, below_call HB (below_box _ _)⟩
    · obtain rfl := c2 (hd { on := 2, ground := Ground.data } (by simp) rfl)
      have q := c6 (hd { on := 6, ground := Ground.data } (by simp) rfl)
      rw [show l8 = false from hl] at q
      obtain ⟨b, rfl, hb, HQ⟩ := q
      have q0 := HQ.cell (i := 0) rfl
      have q1 := HQ.cell (i := 1) rfl
      have f0 := HQ.frozen (i := 0)
      have f1 := HQ.frozen (i := 1)
      refine wpOp_step rfl (fun K hK => ?_)
      go_simp
      refine hK _ _ ?_
      exact ⟨l0, l1, l2, l3, l4, l5, l6, l7, true, l9, _, _, _, _, _, _, _, _, rfl, rfl, c0, c1, c2, c3, c4, c5, fun _ => NewB.put2' hb HQ _ _ rfl, fun h => (((c7 h).other (d6_7 (hd { on := 6, ground := Ground.data } (by simp) rfl) h).symm 0 _).other (d6_7 (hd { on := 6, ground := Ground.data } (by simp) rfl) h).symm 1 _), fun _ => (hd { on := 6, ground := Ground.data } (by simp) rfl), c9, d6_7, ((HB.setCell (p := ⟨b, 0, none⟩) hb _).setCell (p := ⟨b, 1, none⟩) hb _)⟩
    · obtain rfl := c5 (hd { on := 5, ground := Ground.data } (by simp) rfl)
      have q := c7 (hd { on := 7, ground := Ground.data } (by simp) rfl)
      rw [show l9 = false from hl] at q
      obtain ⟨b, rfl, hb, HQ⟩ := q
      have q0 := HQ.cell (i := 0) rfl
      have q1 := HQ.cell (i := 1) rfl
      have f0 := HQ.frozen (i := 0)
      have f1 := HQ.frozen (i := 1)
      refine wpOp_step rfl (fun K hK => ?_)
      go_simp
      refine hK _ _ ?_
      exact ⟨l0, l1, l2, l3, l4, l5, l6, l7, l8, true, _, _, _, _, _, _, _, _, rfl, rfl, c0, c1, c2, c3, c4, c5, fun h => (((c6 h).other (d6_7 h (hd { on := 7, ground := Ground.data } (by simp) rfl)) 0 _).other (d6_7 h (hd { on := 7, ground := Ground.data } (by simp) rfl)) 1 _), fun _ => NewB.put2' hb HQ _ _ rfl, c8, fun _ => (hd { on := 7, ground := Ground.data } (by simp) rfl), d6_7, ((HB.setCell (p := ⟨b, 0, none⟩) hb _).setCell (p := ⟨b, 1, none⟩) hb _)⟩
  · rintro listed act u ⟨l0, l1, l2, l3, l4, l5, l6, l7, l8, l9, v7, v8, v12, v13, v14, v15, v16, v17, rfl, rfl, c0, c1, c2, c3, c4, c5, c6, c7, c8, c9, d6_7, HB⟩ hall
    obtain rfl := c0 (hall 0 (by decide))
    obtain rfl := c1 (hall 1 (by decide))
    obtain rfl := c2 (hall 2 (by decide))
    obtain rfl := c3 (hall 3 (by decide))
    obtain rfl := c4 (hall 4 (by decide))
    obtain rfl := c5 (hall 5 (by decide))
    obtain ⟨b7, rfl, hb7, HQ7⟩ := NewB.done (show l8 = true from hall 8 (by decide)) (c6 (hall 6 (by decide)))
    obtain ⟨b8, rfl, hb8, HQ8⟩ := NewB.done (show l9 = true from hall 9 (by decide)) (c7 (hall 7 (by decide)))
    have HBR := Lib.hid HB
    have HN7 := Lib.hid HQ7
    have HN8 := Lib.hid HQ8
    clear c0 c1 c2 c3 c4 c5 c6 c7 c8 c9 d6_7 HB HQ7 HQ8 hall
    have HB1 := Lib.hid (below_call HB0.out HBR.out)
    have HX1 := Lib.hid (at3_next HX.out HBR.out)
    have P7 : AtP u b7 (b.1 - a.1) (b.2 - a.2) := ⟨HN7.out.lt, HN7.out.cell (i := 0) rfl, HN7.out.cell (i := 1) rfl⟩
    have P8 : AtP u b8 (p.1 - a.1) (p.2 - a.2) := ⟨HN8.out.lt, HN8.out.cell (i := 0) rfl, HN8.out.cell (i := 1) rfl⟩
    have HP7 := Lib.hid P7
    have HP8 := Lib.hid P8
    obtain ⟨u0, u1⟩ := P7.kepts
    obtain ⟨u2, u3⟩ := P8.kepts
    have HK1 := Lib.hid (fun (q : Kept u) => keptCall (HD1.out q.u))
    have HK2 := Lib.hid (fun (q : Kept u) => keptCall (HD2.out q.u))
    clear P7 P8 HBR HN7 HN8 hb7 hb8 HB0
    go_upto_region 2 with fail
    refine wp_region_kept (by kernel_rfl) (by kernel_rfl) ?_
    repeat (go_big_quiet_step ((go_at_call 41; first | (with_reducible exact HK1.out _) | (with_reducible exact HK2.out _))))
    refine wpQuiet_nil ?_
    rintro w2 ⟨⟨_, K2⟩, rfl⟩
    have HB2 := Lib.hid (below_call HB1.out K2)
    replace HX1 := Lib.hid (at3_next HX1.out K2)
    replace HP7 := Lib.hid (HP7.out.next K2)
    replace HP8 := Lib.hid (HP8.out.next K2)
    clear u0 u1 u2 u3 HK1 HK2 K2 HB1
    obtain ⟨⟨_, x0, x1⟩, _, ⟨_, y0, y1⟩⟩ := HX1.out
    obtain ⟨_, p0, p1⟩ := HP7.out
    obtain ⟨_, q0, q1⟩ := HP8.out
    by_cases h1 : dt ≤ 0
    · have HV := Lib.hid (show qa = v from by rw [HSV.out, if_pos h1])
      clear HSV
      go_wp2_with fail
      refine (HQ1.out _).mono ?_
      rintro e w3 ⟨rfl, B⟩
      go_wp2
      go_ret
      exact ⟨ret_int HV.out, below_call HB2.out B⟩
    · by_cases h2 : ln ≤ dt
      · have HV := Lib.hid (show qb = v from by rw [HSV.out, if_neg h1, if_pos h2])
        clear HSV
        go_wp2_with fail
        refine (HM3.out _).mono ?_
        rintro e w3 ⟨rfl, B⟩
        have HB3 := Lib.hid (below_call HB2.out B)
        clear B
        go_wp2_with fail
        refine (HQ2.out _).mono ?_
        rintro e w4 ⟨rfl, B⟩
        go_wp2
        go_ret
        exact ⟨ret_int HV.out, below_call HB3.out B⟩
      · have hz : ¬ ln = 0 := by omega
        have HV := Lib.hid (show (c * c).tdiv ln = v from by rw [HSV.out, if_neg h1, if_neg h2, Int.tdiv_eq_ediv_of_nonneg (sq_nn9 c)])
        clear HSV
        go_wp2_with fail
        refine (HCR.out _).mono ?_
        rintro e w3 ⟨rfl, B⟩
        go_wp2
        go_ret
        exact ⟨ret_int HV.out, below_call HB2.out B⟩
/-- An edge between near points. -/
abbrev NP9 := { x : EP // near9 x.1 ∧ near9 x.2 }
def leaX (p c : P2) (xs : List NP9) : Int := xs.foldl (fun m x => if segQ p x.1.1 x.1.2 < m then segQ p x.1.1 x.1.2 else m) (sq2 p c)
theorem leaX_snoc (p c : P2) (xs : List NP9) (x : NP9) : leaX p c (xs ++ [x]) = if segQ p x.1.1 x.1.2 < leaX p c xs then segQ p x.1.1 x.1.2 else leaX p c xs := by unfold leaX; rw [List.foldl_append]; rfl
theorem near0 : near9 (0, 0) := by unfold near9; simp
open Classical in
noncomputable def edgeN (ps : List P2) (hp : ∀ k, k < ps.length → near9 (cor ps k)) (i : Nat) : NP9 := if h : i < ps.length then ⟨(cor ps i, cor ps (nx ps i)), hp i h, hp _ (nx_lt h)⟩ else ⟨((0, 0), (0, 0)), near0, near0⟩
theorem edgeN_in {ps : List P2} {hp : ∀ k, k < ps.length → near9 (cor ps k)} {i : Nat} (h : i < ps.length) : (edgeN ps hp i).1 = (cor ps i, cor ps (nx ps i)) := by unfold edgeN; rw [dif_pos h]
theorem leaX_min {ps : List P2} (hp : ∀ k, k < ps.length → near9 (cor ps k)) (p : P2) : ∀ m, m + 1 ≤ ps.length → leaX p (cor ps 0) ((List.range (m + 1)).map (edgeN ps hp)) = minE ps p (m + 1) := by
  intro m
  induction m with
  | zero =>
    intro h
    rw [show (List.range (0 + 1)).map (edgeN ps hp) = [] ++ [edgeN ps hp 0] from rfl, leaX_snoc, edgeN_in (by omega)]
    show (if segQ p (cor ps 0) (cor ps (nx ps 0)) < sq2 p (cor ps 0) then _ else sq2 p (cor ps 0)) = if minE ps p 0 < 0 ∨ segQ p (cor ps 0) (cor ps (nx ps 0)) < minE ps p 0 then segQ p (cor ps 0) (cor ps (nx ps 0)) else minE ps p 0
    rw [if_pos (show minE ps p 0 < 0 ∨ segQ p (cor ps 0) (cor ps (nx ps 0)) < minE ps p 0 from .inl (show (-1 : Int) < 0 by omega))]
    have := segQ_left p (cor ps 0) (cor ps (nx ps 0))
    split
    · rfl
    · omega
  | succ m ih =>
    intro h
    rw [List.range_succ, List.map_append, List.map_cons, List.map_nil, leaX_snoc, ih (by omega), edgeN_in (by omega)]
    have k := (minE_spec ps p (m + 1) (by omega)).1
    show _ = if minE ps p (m + 1) < 0 ∨ segQ p (cor ps (m + 1)) (cor ps (nx ps (m + 1))) < minE ps p (m + 1) then _ else _
    by_cases hs : segQ p (cor ps (m + 1)) (cor ps (nx ps (m + 1))) < minE ps p (m + 1)
    · rw [if_pos hs, if_pos (.inr hs)]
    · rw [if_neg hs, if_neg (by omega)]
set_option maxHeartbeats 8000000 in
theorem squareToC (a : Option Addr) (len cap : Nat) (ps : List P2) (p : P2) (w : World) (hp : PL w a len ps) (hk : okCvx ps) (hn : near9 p) (hnn : ∀ k, k < ps.length → near9 (cor ps k)) :
    Calls Try.prog 62 #[.slice a len cap, pt p.1 p.2] w fun e w' => e = .returned (.int .i64 (if Ins ps p then 0 else minE ps p ps.length)) ∧ Below w.heap.size w w' := by
  refine (callsIn_wide (n := 9)).1 ?_
  have HLE := Lib.hid hp.1
  have HB0 := Lib.hid (below_box w (.cells #[.int .i64 p.1, .int .i64 p.2] 24))
  have HXC := Lib.hid (Cells8.new w #[.int .i64 p.1, .int .i64 p.2] 24)
  have HX := Lib.hid (AtP.box w p.1 p.2 24)
  have HP0 := Lib.hid (hp.next HB0.out)
  have hl3 : 3 ≤ len := by rw [hp.1]; exact hk.1
  have hl8 : len ≤ 8 := by rw [hp.1]; exact hk.2.1
  obtain ⟨b, o, rfl, hbw, _⟩ := hp.somes (by omega)
  have HBW := Lib.hid hbw
  have HCON := Lib.hid (fun u (hu : PL u (some ⟨b, o, none⟩) len ps) => containsC (some ⟨b, o, none⟩) len cap ps p u hu (by omega))
  have HIF := Lib.hid (show conV ps p ↔ Ins ps p from conV_iff hk.2.2.1 (near_ok hn))
  have HNE := Lib.hid hn
  have HNN := Lib.hid hnn
  clear hp hk hbw hn hnn
  by_cases hc : conV ps p
  · have HV := Lib.hid (show (0 : Int) = (if Ins ps p then 0 else minE ps p ps.length) by rw [if_pos (HIF.out.1 hc)])
    generalize (if Ins ps p then 0 else minE ps p ps.length) = v at *
    rw [decide_eq_true hc] at HCON
    clear hc
    refine callsIn_of_wp_marks Try.func62 rfl trivial ?_ rfl
    simp only [Try.ntmps62, List.size_toArray, List.length_cons, List.length_nil, Nat.reduceAdd, Nat.reduceSub, Array.replicate_succ, Array.replicate_zero, List.push_toArray, List.append_toArray, List.nil_append, List.cons_append]
    gi_wp2
    generalize w.alloc (.cells #[.int .i64 p.1, .int .i64 p.2] 24) = w0 at *
    obtain ⟨_, x0, x1⟩ := HX.out
    gi_wp2
    refine ⟨trivial, ?_⟩
    refine (callsIn_wide.2 (HCON.out _ HP0.out)).mono ?_
    rintro e w1 ⟨rfl, B⟩
    have HB1 := Lib.hid (below_call HB0.out B)
    clear x0 x1 B
    gi_wp2
    exact ⟨.int .i64 0, by simp [results, Try.results62, go_sem], by rw [HV.out], HB1.out⟩
  · have HV := Lib.hid (show minE ps p ps.length = (if Ins ps p then 0 else minE ps p ps.length) by rw [if_neg (fun h => hc (HIF.out.2 h))])
    generalize (if Ins ps p then 0 else minE ps p ps.length) = v at *
    rw [decide_eq_false hc] at HCON
    clear hc HIF
    have h0 : 0 < ps.length := by rw [← HLE.out]; omega
    have HNC := Lib.hid (HNN.out 0 h0)
    have HLX := Lib.hid (show leaX p (cor ps 0) ((List.range ps.length).map (edgeN ps HNN.out)) = minE ps p ps.length from by
      have := leaX_min HNN.out p (ps.length - 1) (by omega)
      rwa [show ps.length - 1 + 1 = ps.length by omega] at this)
    have hz0 : 0 < len := by omega
    have HC00 := Lib.hid (fun (u : World) (hu : PL u (some ⟨b, o, none⟩) len ps) => show u.cell? ⟨b, o, none⟩ = some (.int .i64 (cor ps 0).1) ∧ u.cell? ⟨b, o + 1, none⟩ = some (.int .i64 (cor ps 0).2) from by
      obtain ⟨b', o', e, _, k⟩ := hu.somes (by omega)
      simp only [Option.some.injEq, Addr.mk.injEq, and_true] at e
      obtain ⟨rfl, rfl⟩ := e
      have := k 0 (by omega)
      simpa using this)
    generalize cor ps 0 = c at *
    have hpn := HNE.out
    have hcn := HNC.out
    have e0 : sq2 p c = (p.1 - c.1) * (p.1 - c.1) + (p.2 - c.2) * (p.2 - c.2) := by unfold sq2; grind
    unfold near9 at hpn hcn
    have HM := Lib.hid (fun u => minusP p.1 p.2 c.1 c.2 u (by omega) (by omega) (by omega) (by omega) (by omega) (by omega) (by omega) (by omega))
    have HQ := Lib.hid (fun u => squareOfC (p.1 - c.1, p.2 - c.2) u (by dsimp only; omega) (by dsimp only; omega) (by dsimp only; omega) (by dsimp only; omega))
    dsimp only at HQ
    rw [← e0] at HQ
    clear e0 hpn hcn HNC
    have HQ0 : Hid (leaX p c [] = sq2 p c) := Lib.hid rfl
    generalize sq2 p c = q0 at *
    refine callsIn_of_wp_marks Try.func62 rfl trivial ?_ rfl
    simp only [Try.ntmps62, List.size_toArray, List.length_cons, List.length_nil, Nat.reduceAdd, Nat.reduceSub, Array.replicate_succ, Array.replicate_zero, List.push_toArray, List.append_toArray, List.nil_append, List.cons_append]
    have hsw : w.heap.size < (w.alloc (.cells #[.int .i64 p.1, .int .i64 p.2] 24)).heap.size := by simp
    gi_wp2
    generalize w.alloc (.cells #[.int .i64 p.1, .int .i64 p.2] 24) = w0 at *
    obtain ⟨_, x0, x1⟩ := HX.out
    gi_wp2
    refine ⟨trivial, ?_⟩
    refine (callsIn_wide.2 (HCON.out _ HP0.out)).mono ?_
    rintro e w1 ⟨rfl, B⟩
    have HB1 := Lib.hid (below_call HB0.out B)
    have HX1 := Lib.hid (HX.out.next B)
    have HXC1 := Lib.hid (HXC.out.next B)
    have HP1 := Lib.hid (HP0.out.next B)
    have HC0 := Lib.hid (HC00.out _ HP1.out)
    have HLT := Lib.hid (show b < w1.heap.size from Nat.lt_of_lt_of_le HBW.out HB1.out.size)
    have hs1 := B.size
    clear x0 x1 B HCON HC00 HX HXC HP0 HB0
    gi_wp2
    refine wpIn_region_inv (r := none) (fun listed act u => ∃ (l0 l1 l2 l3 l4 l5 l6 l7 : Bool) (v5 v12 v13 v14 v15 v16 v17 : Value), listed = #[l0, l1, l2, l3, l4, l5, l6, l7] ∧ act = { tmps := #[.slice (some ⟨b, o, none⟩) len cap, pt p.1 p.2, undef, .pointer (some ⟨w.heap.size, 0, none⟩), .int .i64 0, v5, undef, undef, undef, .slice (some ⟨b, o, none⟩) len cap, pt p.1 p.2, .bool false, v12, v13, v14, v15, v16, v17, undef, undef, undef, undef, undef, undef, undef, undef, undef, undef, undef, undef, undef], defers := [] } ∧ (l0 = true → v12 = pt p.1 p.2) ∧ (l1 = true → v13 = .slice (some ⟨b, o, none⟩) len cap) ∧ (l2 = true → v14 = .pointer (some ⟨b, o, none⟩)) ∧ (l3 = true → v15 = pt c.1 c.2) ∧ (l4 = true → v16 = pt (p.1 - c.1) (p.2 - c.2)) ∧ (l5 = true → v17 = .int .i64 q0) ∧ (l6 = true → NewB w1.heap.size u l7 #[.int .i64 0] #[.int .i64 q0] 60 v5) ∧ (l7 = true → l6 = true) ∧ Below w1.heap.size w1 u) (by kernel_rfl) ?_ (by kernel_rfl) ?_ ?_ ?_ ?_
    · intro j o ho
      have hj : j < 8 := by rcases Nat.lt_or_ge j 8 with h | h; exact h; rw [Array.getElem?_eq_none (by simpa using h)] at ho; cases ho
      have hj2 : j = 0 ∨ j = 1 ∨ j = 2 ∨ j = 3 ∨ j = 4 ∨ j = 5 ∨ j = 6 ∨ j = 7 := by omega
      rcases hj2 with rfl | rfl | rfl | rfl | rfl | rfl | rfl | rfl
      all_goals
        cases ho
        decide
    · rintro listed act u ⟨l0, l1, l2, l3, l4, l5, l6, l7, v5, v12, v13, v14, v15, v16, v17, rfl, _⟩
      rfl
    · exact ⟨false, false, false, false, false, false, false, false, undef, undef, undef, undef, undef, undef, undef, rfl, rfl, (by intro h; cases h), (by intro h; cases h), (by intro h; cases h), (by intro h; cases h), (by intro h; cases h), (by intro h; cases h), (by intro h; cases h), (by intro h; cases h), (Below.refl _ _).drew⟩
    · intro listed act u i o hR ho hl hd
      obtain ⟨l0, l1, l2, l3, l4, l5, l6, l7, v5, v12, v13, v14, v15, v16, v17, rfl, rfl, c0, c1, c2, c3, c4, c5, c6, c7, HB⟩ := hR
      have hi : i < 8 := by rcases Nat.lt_or_ge i 8 with h | h; exact h; rw [Array.getElem?_eq_none (by simpa using h)] at ho; cases ho
      have hi2 : i = 0 ∨ i = 1 ∨ i = 2 ∨ i = 3 ∨ i = 4 ∨ i = 5 ∨ i = 6 ∨ i = 7 := by omega
      rcases hi2 with rfl | rfl | rfl | rfl | rfl | rfl | rfl | rfl
      all_goals (cases ho)
      · obtain ⟨_, k0, k1⟩ := HX1.out.next HB
        refine wpOp_step rfl (fun K hK => ?_)
        go_simp
        refine hK _ _ ?_
        exact ⟨true, l1, l2, l3, l4, l5, l6, l7, _, _, _, _, _, _, _, rfl, rfl, fun _ => rfl, c1, c2, c3, c4, c5, c6, c7, HB⟩
      · refine wpOp_step rfl (fun K hK => ?_)
        go_simp
        refine hK _ _ ?_
        exact ⟨l0, true, l2, l3, l4, l5, l6, l7, _, _, _, _, _, _, _, rfl, rfl, c0, fun _ => rfl, c2, c3, c4, c5, c6, c7, HB⟩
      · obtain rfl := c1 (hd { on := 1, ground := Ground.data } (by simp) rfl)
        refine wpOp_step rfl (fun K hK => ?_)
        go_simp
        refine hK _ _ ?_
        exact ⟨l0, l1, true, l3, l4, l5, l6, l7, _, _, _, _, _, _, _, rfl, rfl, c0, c1, fun _ => rfl, c3, c4, c5, c6, c7, HB⟩
      · obtain rfl := c2 (hd { on := 2, ground := Ground.data } (by simp) rfl)
        have k0 := (HB.cell (p := ⟨b, o, none⟩) HLT.out).trans HC0.out.1
        have k1 := (HB.cell (p := ⟨b, o + 1, none⟩) HLT.out).trans HC0.out.2
        refine wpOp_step rfl (fun K hK => ?_)
        go_simp
        refine hK _ _ ?_
        exact ⟨l0, l1, l2, true, l4, l5, l6, l7, _, _, _, _, _, _, _, rfl, rfl, c0, c1, c2, fun _ => rfl, c4, c5, c6, c7, HB⟩
      · obtain rfl := c0 (hd { on := 0, ground := Ground.data } (by simp) rfl)
        obtain rfl := c3 (hd { on := 3, ground := Ground.data } (by simp) rfl)
        refine wpOp_step rfl (fun K hK => ?_)
        go_simp
        refine (HM.out _).mono ?_
        rintro e u' ⟨rfl, BC⟩
        refine hK _ _ ?_
        exact ⟨l0, l1, l2, l3, true, l5, l6, l7, _, _, _, _, _, _, _, rfl, rfl, c0, c1, c2, c3, fun _ => rfl, c5, fun h => (c6 h).next BC, c7, below_call HB BC⟩
      · obtain rfl := c4 (hd { on := 4, ground := Ground.data } (by simp) rfl)
        refine wpOp_step rfl (fun K hK => ?_)
        go_simp
        refine (HQ.out _).mono ?_
        rintro e u' ⟨rfl, BC⟩
        refine hK _ _ ?_
        exact ⟨l0, l1, l2, l3, l4, true, l6, l7, _, _, _, _, _, _, _, rfl, rfl, c0, c1, c2, c3, c4, fun _ => rfl, fun h => (c6 h).next BC, c7, below_call HB BC⟩
      · have e7 : l7 = false := by cases h : l7 with | false => rfl | true => exact absurd (c7 h) (by rw [show l6 = false from hl]; exact Bool.false_ne_true)
        subst e7
        refine wpOp_step rfl (fun K hK => ?_)
        go_simp
        refine hK _ _ ?_
        exact ⟨l0, l1, l2, l3, l4, l5, true, false, _, _, _, _, _, _, _, rfl, rfl, c0, c1, c2, c3, c4, c5, fun _ => NewB.new _ HB.size, fun _ => rfl, below_call HB (below_box _ _)⟩
      · obtain rfl := c5 (hd { on := 5, ground := Ground.data } (by simp) rfl)
        have q := c6 (hd { on := 6, ground := Ground.data } (by simp) rfl)
        rw [show l7 = false from hl] at q
        obtain ⟨b, rfl, hb, HQ⟩ := q
        have q0 := HQ.cell (i := 0) rfl
        have f0 := HQ.frozen (i := 0)
        refine wpOp_step rfl (fun K hK => ?_)
        go_simp
        refine hK _ _ ?_
        exact ⟨l0, l1, l2, l3, l4, l5, l6, true, _, _, _, _, _, _, _, rfl, rfl, c0, c1, c2, c3, c4, c5, fun _ => NewB.put1' hb HQ _ rfl, fun _ => (hd { on := 6, ground := Ground.data } (by simp) rfl), (HB.setCell (p := ⟨b, 0, none⟩) hb _)⟩
    · rintro listed act u ⟨l0, l1, l2, l3, l4, l5, l6, l7, v5, v12, v13, v14, v15, v16, v17, rfl, rfl, c0, c1, c2, c3, c4, c5, c6, c7, HB⟩ hall
      obtain rfl := c0 (hall 0 (by decide))
      obtain rfl := c1 (hall 1 (by decide))
      obtain rfl := c2 (hall 2 (by decide))
      obtain rfl := c3 (hall 3 (by decide))
      obtain rfl := c4 (hall 4 (by decide))
      obtain rfl := c5 (hall 5 (by decide))
      obtain ⟨b5, rfl, hb5, HQ5⟩ := NewB.done (show l7 = true from hall 7 (by decide)) (c6 (hall 6 (by decide)))
      have HBR := Lib.hid HB
      have HN5 := Lib.hid HQ5
      clear c0 c1 c2 c3 c4 c5 c6 c7 HB HQ5 hall
      have HB2 := Lib.hid (below_call HB1.out HBR.out)
      have HXC2 := Lib.hid (HXC1.out.next HBR.out)
      have HP2 := Lib.hid (HP1.out.next HBR.out)
      have hs2 := HBR.out.size
      have hl5 := HN5.out.lt
      clear HB1 HX1 HXC1 HP1 HC0 HM HQ HBR
      gi_wp2
      refine ⟨trivial, ?_⟩
      refine (callsIn_wide.2 (edgesC (some ⟨b, o, none⟩) len cap ps u HP2.out)).mono ?_
      rintro e w3 ⟨Bp, rfl, S3, B3, k1⟩
      have HS3 := Lib.hid S3
      have HR3 := Lib.hid (HN5.out.next B3)
      have HX3 := Lib.hid (HXC2.out.next B3)
      have HB3 := Lib.hid (below_call HB2.out B3)
      have hs3 := B3.size
      have hlb := HLT.out
      have hbw := HBW.out
      clear S3 B3 HB2 HXC2 HN5
      gi_wp2
      refine wpIn_rangeFunc_ownH rfl (by omega) (gf := 73) (lb := #[.pointer (some ⟨Bp, 0, none⟩)]) rfl trivial (fun args w => by kernel_rfl)
        (edgesStopsG (fun x : NP9 => encE x.1) (edgeN ps HNN.out) (KeepBut8 w3.heap.size b5) Bp (some ⟨b, o, none⟩) len cap ps w3 (fun _ _ hk h => h.keep hk.1 (hk.2 _ HS3.out.box.lt (by omega)) (fun _ b' o' e => by
          simp only [Option.some.injEq, Addr.mk.injEq, and_true] at e
          exact hk.2 _ (by omega) (by omega))) HS3.out (by omega) (fun i hi => by rw [edgeN_in hi]) 8)
        KeepBut8.trans (fun W l o o' hl h _ _ => KeepBut8.put W l o o' hl h) (Below.refl _ _) (fun _ => rfl)
        (fun pre W => Cells8 W b5 #[.int .i64 (leaX p c pre)] 60 ∧ Below w.heap.size w W ∧ w3.heap.size ≤ W.heap.size ∧ Cells8 W w.heap.size #[.int .i64 p.1, .int .i64 p.2] 24)
        (fun _ _ _ => False)
        (OwnFrom.and (Own.from (cells8_own _ _ (fun pre => #[.int .i64 (leaX p c pre)])) _) (OwnFrom.and (ownFrom_below (Nat.le_refl _) (by omega)) (OwnFrom.and (fun _ _ _ _ hs hg _ => Nat.le_trans hs hg.size) (Own.from (cells8_own _ _ (fun _ => #[.int .i64 p.1, .int .i64 p.2])) _))))
        (fun _ _ _ _ _ hs _ _ => hs)
        ⟨by rw [HQ0.out]; exact HR3.out, HB3.out, Nat.le_refl _, HX3.out⟩
        (fun x a' W => ∃ B1 B2, Ends W w3.heap.size x.1 B1 B2 ∧ a' = { tmps := #[.slice (some ⟨b, o, none⟩) len cap, pt p.1 p.2, undef, .pointer (some ⟨w.heap.size, 0, none⟩), .int .i64 0, .pointer (some ⟨b5, 0, none⟩), .pointer (some ⟨B1, 0, none⟩), .pointer (some ⟨B2, 0, none⟩), undef, .slice (some ⟨b, o, none⟩) len cap, pt p.1 p.2, .bool false, pt p.1 p.2, .slice (some ⟨b, o, none⟩) len cap, .pointer (some ⟨b, o, none⟩), pt c.1 c.2, pt (p.1 - c.1) (p.2 - c.2), .int .i64 q0, .slice (some ⟨b, o, none⟩) len cap, .func (.func 73) #[] #[.pointer (some ⟨Bp, 0, none⟩)], pt x.1.1.1 x.1.1.2, pt x.1.2.1 x.1.2.2, undef, undef, undef, undef, undef, undef, undef, undef, undef], defers := [] })
        (fun x a' _ X Y row hs hg hr => by obtain ⟨B1, B2, h1, h2⟩ := hs; exact ⟨B1, B2, ends_own () X Y row h1 hg hr, h2⟩)
        ?assign ?body ?done ?stop
      case assign =>
        rintro l pre x W K ⟨h1, h2, h3, h4⟩ hK
        have hsz := h2.size
        have hlt := h1.lt
        have HB2 := below_box2 W (.cells #[.int .i64 x.1.1.1, .int .i64 x.1.1.2] 24) (.cells #[.int .i64 x.1.2.1, .int .i64 x.1.2.2] 24)
        have HK := Lib.hid (hK _ _ ((keepsBelow8 HB2).from _) (KeepBut8.of HB2 h3) ⟨h1.next HB2, below_call h2 HB2, Nat.le_trans h3 HB2.size, h4.next HB2⟩ ⟨W.heap.size, W.heap.size + 1, Ends.new W h3 x.1, rfl⟩)
        clear hK h1 h2 h3 h4 HB2
        gi_wp2
        exact HK.out
      case body =>
        rintro l pre x a' W hl ⟨r', hr⟩ ⟨h1, h2, h3, h4⟩ ⟨B1, B2, E, rfl⟩ hlen
        have HE := Lib.hid E
        have H1 := Lib.hid h1
        have H2 := Lib.hid h2
        have H3 := Lib.hid h3
        have H4 := Lib.hid h4
        have HS := Lib.hid (leaX_snoc p c pre x)
        have HC := Lib.hid (segmentSquareC p x.1.1 x.1.2 W HNE.out x.2.1 x.2.2)
        clear h1 h2 h3 h4 E hlen hr
        generalize segQ p x.1.1 x.1.2 = s at *
        generalize leaX p c pre = m at *
        have c0 := H4.out.cell (i := 0) rfl
        have c1 := H4.out.cell (i := 1) rfl
        obtain ⟨_, e1, e2⟩ := HE.out.p1
        obtain ⟨_, e3, e4⟩ := HE.out.p2
        by_cases hsm : s < m
        · have HSV := Lib.hid (show leaX p c (pre ++ [x]) = s by rw [HS.out, if_pos hsm])
          have hd : decide (s < m) = true := decide_eq_true hsm
          clear hsm HS
          gi_wp2_with (refine ⟨trivial, ?_⟩; first | (gi_at_call 35; refine (CallsIn.inRound l (callsIn_wide.2 HC.out)).mono ?_; rintro e w5 ⟨rfl, K5⟩; have HR5 := Lib.hid (H1.out.next K5); have r0 := HR5.out.cell (i := 0) rfl; have f0 := HR5.out.frozen (i := 0); clear c0 c1 e1 e2 e3 e4) | (gi_at_call 50; refine (CallsIn.inRound l (callsIn_wide.2 (lessC _ _ _))).mono ?_; rintro e w6 ⟨rfl, rfl⟩))
          exact ⟨((keepsBelow8 K5).trans (KeepsOthers.setCell _ _ _)).from _, (KeepBut8.of K5 H3.out).trans (KeepBut8.set _ _ _ _), by rw [HSV.out]; exact HR5.out.set 0 _, (below_call H2.out K5).setCell (p := ⟨b5, 0, none⟩) (by show w.heap.size ≤ b5; omega) _, Nat.le_trans H3.out (Nat.le_trans K5.size (KeepsOthers.setCell _ _ _).size), (H4.out.next K5).other (by omega) _⟩
        · have HSV := Lib.hid (show leaX p c (pre ++ [x]) = m by rw [HS.out, if_neg hsm])
          have hd : decide (s < m) = false := decide_eq_false hsm
          clear hsm HS
          gi_wp2_with (refine ⟨trivial, ?_⟩; first | (gi_at_call 35; refine (CallsIn.inRound l (callsIn_wide.2 HC.out)).mono ?_; rintro e w5 ⟨rfl, K5⟩; have HR5 := Lib.hid (H1.out.next K5); have r0 := HR5.out.cell (i := 0) rfl; have f0 := HR5.out.frozen (i := 0); clear c0 c1 e1 e2 e3 e4) | (gi_at_call 50; refine (CallsIn.inRound l (callsIn_wide.2 (lessC _ _ _))).mono ?_; rintro e w6 ⟨rfl, rfl⟩))
          exact ⟨(keepsBelow8 K5).from _, KeepBut8.of K5 H3.out, by rw [HSV.out]; exact HR5.out, below_call H2.out K5, Nat.le_trans H3.out K5.size, H4.out.next K5⟩
      case done =>
        rintro D ys W hD rfl ⟨h1, h2, h3, h4⟩ hK
        rw [HLX.out] at h1
        have HRW := Lib.hid h1
        have HBW := Lib.hid h2
        have HK := Lib.hid hK
        have HD := Lib.hid hD
        have r0 := h1.cell (i := 0) rfl
        clear h1 h2 h3 h4 hK hD
        gi_wp2
        refine ⟨by simp, .inl ⟨_, _, rfl, run_takeDeferred HK.out, ?_⟩⟩
        refine ⟨.int .i64 (minE ps p ps.length), by simp [results, Try.results62, go_sem], ?_, HBW.out.trans (belowK_b (w := w) (Nat.le_refl _) _ D _ _ (by have := HD.out; omega) HK.out rfl rfl)⟩
        rw [HV.out]
      case stop =>
        rintro D c pre W _ _ h _
        exact h.elim
set_option maxHeartbeats 1000000 in
theorem polygonSquareC (a : Option Addr) (len cap : Nat) (ps : List P2) (p : P2) (w : World) (hp : PL w a len ps) (hl : len ≤ 9223372036854775807) :
    Calls Try.prog 43 #[.slice a len cap, pt p.1 p.2] w fun e w' => e = .returned (.int .i64 (psV ps p)) ∧ Below w.heap.size w w' := by
  have HB := Lib.hid (below_box w (.cells #[.int .i64 p.1, .int .i64 p.2] 24))
  have HX := Lib.hid (AtP.box w p.1 p.2 24)
  have HP := Lib.hid (hp.next HB.out)
  have HCV := Lib.hid (fun (u : World) (hu : PL u a len ps) => implConvexValid a len cap ps u hu hl)
  have HAL := Lib.hid (fun (u : World) (hu : PL u a len ps) => allMeasuredC a len cap ps u hu hl)
  have HME := Lib.hid (fun u => measuredC p u)
  clear hp
  by_cases k0 : okCvx ps
  rotate_left
  · rw [decide_eq_false k0] at HCV
    have HV := Lib.hid (show -1 = psV ps p from (psV_no fun h => k0 h.1).symm)
    generalize psV ps p = v at *
    clear k0
    go_enter Try.func43, Try.ntmps43
    go_wp2_with fail
    generalize w.alloc (.cells #[.int .i64 p.1, .int .i64 p.2] 24) = w0 at *
    refine (HCV.out _ HP.out).mono ?_
    rintro e w1 ⟨rfl, B⟩
    replace HB := Lib.hid (below_call HB.out B)
    obtain ⟨_, a1, a2⟩ := HX.out.next B
    clear B
    go_wp2
    go_ret
    exact ⟨ret_int HV.out, HB.out⟩
  rw [decide_eq_true k0] at HCV
  by_cases k1 : ∀ k, k < ps.length → near9 (cor ps k)
  rotate_left
  · have HV := Lib.hid (show -1 = psV ps p from (psV_no fun h => k1 fun k hk => h.2.2 _ (cor_mem hk)).symm)
    have HK := Lib.hid k1
    generalize psV ps p = v at *
    clear k0 k1
    go_enter Try.func43, Try.ntmps43
    go_wp2_with fail
    generalize w.alloc (.cells #[.int .i64 p.1, .int .i64 p.2] 24) = w0 at *
    refine (HCV.out _ HP.out).mono ?_
    rintro e w1 ⟨rfl, B⟩
    replace HB := Lib.hid (below_call HB.out B)
    replace HX := Lib.hid (HX.out.next B)
    replace HP := Lib.hid (HP.out.next B)
    clear B
    go_wp2_with fail
    refine (HAL.out _ HP.out).mono ?_
    rintro e w2 ⟨bb, rfl, hbb, B⟩
    obtain rfl : bb = false := by
      cases bb with
      | false => rfl
      | true => exact absurd (hbb.1 rfl) HK.out
    replace HB := Lib.hid (below_call HB.out B)
    obtain ⟨_, a1, a2⟩ := HX.out.next B
    clear B hbb
    go_wp2
    go_ret
    exact ⟨ret_int HV.out, HB.out⟩
  have HK := Lib.hid k1
  by_cases k2 : near9 p
  rotate_left
  · rw [decide_eq_false k2] at HME
    have HV := Lib.hid (show -1 = psV ps p from (psV_no fun h => k2 h.2.1).symm)
    generalize psV ps p = v at *
    clear k0 k1 k2
    go_enter Try.func43, Try.ntmps43
    go_wp2_with fail
    generalize w.alloc (.cells #[.int .i64 p.1, .int .i64 p.2] 24) = w0 at *
    refine (HCV.out _ HP.out).mono ?_
    rintro e w1 ⟨rfl, B⟩
    replace HB := Lib.hid (below_call HB.out B)
    replace HX := Lib.hid (HX.out.next B)
    replace HP := Lib.hid (HP.out.next B)
    clear B
    go_wp2_with fail
    refine (HAL.out _ HP.out).mono ?_
    rintro e w2 ⟨bb, rfl, hbb, B⟩
    obtain rfl : bb = true := hbb.2 HK.out
    replace HB := Lib.hid (below_call HB.out B)
    replace HX := Lib.hid (HX.out.next B)
    obtain ⟨_, a1, a2⟩ := HX.out
    clear B hbb
    go_wp2_with fail
    refine (HME.out _).mono ?_
    rintro e w3 ⟨rfl, B⟩
    replace HB := Lib.hid (below_call HB.out B)
    clear B a1 a2
    go_wp2
    go_ret
    exact ⟨ret_int HV.out, HB.out⟩
  rw [decide_eq_true k2] at HME
  have HV := Lib.hid (show (if Ins ps p then 0 else minE ps p ps.length) = psV ps p from (if_pos (show okPol9 ps p from ⟨k0, k2, near_all k1⟩)).symm)
  have HSQ := Lib.hid (fun (u : World) (hu : PL u a len ps) => squareToC a len cap ps p u hu k0 k2 k1)
  generalize (if Ins ps p then 0 else minE ps p ps.length) = n at *
  generalize psV ps p = v at *
  clear k0 k1 k2
  go_enter Try.func43, Try.ntmps43
  go_wp2_with fail
  generalize w.alloc (.cells #[.int .i64 p.1, .int .i64 p.2] 24) = w0 at *
  refine (HCV.out _ HP.out).mono ?_
  rintro e w1 ⟨rfl, B⟩
  replace HB := Lib.hid (below_call HB.out B)
  replace HX := Lib.hid (HX.out.next B)
  replace HP := Lib.hid (HP.out.next B)
  clear B
  go_wp2_with fail
  refine (HAL.out _ HP.out).mono ?_
  rintro e w2 ⟨bb, rfl, hbb, B⟩
  obtain rfl : bb = true := hbb.2 HK.out
  replace HB := Lib.hid (below_call HB.out B)
  replace HX := Lib.hid (HX.out.next B)
  replace HP := Lib.hid (HP.out.next B)
  obtain ⟨_, a1, a2⟩ := HX.out
  clear B hbb
  go_wp2_with fail
  refine (HME.out _).mono ?_
  rintro e w3 ⟨rfl, B⟩
  replace HB := Lib.hid (below_call HB.out B)
  replace HX := Lib.hid (HX.out.next B)
  replace HP := Lib.hid (HP.out.next B)
  clear B a1 a2
  obtain ⟨_, a1, a2⟩ := HX.out
  go_wp2_with fail
  refine (HSQ.out _ HP.out).mono ?_
  rintro e w4 ⟨rfl, B⟩
  replace HB := Lib.hid (below_call HB.out B)
  clear B a1 a2
  go_wp2
  go_ret
  exact ⟨ret_int HV.out, HB.out⟩
theorem iPq (a : Option Addr) (len cap : Nat) (ps : List P2) (p : P2) (w : World) (hp : PL w a len ps) (hl : len ≤ 9223372036854775807) :
    Calls Try.prog 16 #[.slice a len cap, pt p.1 p.2] w fun e w' => e = .returned (.int .i64 (psV ps p)) ∧ Below w.heap.size w w' := by
  have HB := Lib.hid (below_box w (.cells #[.int .i64 p.1, .int .i64 p.2] 24))
  have HX := Lib.hid (AtP.box w p.1 p.2 24)
  have HC := Lib.hid (fun (u : World) (hu : PL u a len ps) => polygonSquareC a len cap ps p u hu hl)
  have HP := Lib.hid (hp.next HB.out)
  clear hp
  generalize psV ps p = v at *
  go_enter Try.func16, Try.ntmps16
  go_wp2_with fail
  generalize w.alloc (.cells #[.int .i64 p.1, .int .i64 p.2] 24) = w0 at *
  obtain ⟨_, a1, a2⟩ := HX.out
  go_wp2_with fail
  refine (HC.out _ HP.out).mono ?_
  rintro e w1 ⟨rfl, B⟩
  replace HB := Lib.hid (below_call HB.out B)
  clear B a1 a2
  go_wp2
  go_ret
  exact ⟨rfl, HB.out⟩
set_option maxHeartbeats 1000000 in
theorem iSq (p a b : P2) (w : World) :
    Calls Try.prog 11 #[pt p.1 p.2, pt a.1 a.2, pt b.1 b.2] w fun e w' => e = .returned (.int .i64 (ssV p a b)) ∧ Below w.heap.size w w' := by
  have HB := Lib.hid (below_box3 w (.cells #[.int .i64 p.1, .int .i64 p.2] 24) (.cells #[.int .i64 a.1, .int .i64 a.2] 24) (.cells #[.int .i64 b.1, .int .i64 b.2] 24))
  have HX := Lib.hid (box3 w p a b)
  have HS0 := Lib.hid (show (((w.alloc (.cells #[.int .i64 p.1, .int .i64 p.2] 24)).alloc (.cells #[.int .i64 a.1, .int .i64 a.2] 24)).alloc (.cells #[.int .i64 b.1, .int .i64 b.2] 24)).heap.size = w.heap.size + 1 + 1 + 1 by simp)
  have HAL := Lib.hid (fun (b' : Nat) (u : World) (hu : PL u (some ⟨b', 0, none⟩) 3 [p, a, b]) => allMeasuredC (some ⟨b', 0, none⟩) 3 3 [p, a, b] u hu (by omega))
  have HIF := Lib.hid (show (∀ k, k < [p, a, b].length → near9 (cor [p, a, b] k)) ↔ near9 p ∧ near9 a ∧ near9 b from ⟨fun h => ⟨h 0 (by simp), h 1 (by simp), h 2 (by simp)⟩, fun h k hk => by
    have hk3 : k = 0 ∨ k = 1 ∨ k = 2 := by simp only [List.length_cons, List.length_nil] at hk; omega
    rcases hk3 with rfl | rfl | rfl
    · exact h.1
    · exact h.2.1
    · exact h.2.2⟩)
  have HNW := Lib.hid (fun (u : World) => show PL (u.alloc (.cells #[.int .i64 p.1, .int .i64 p.2, .int .i64 a.1, .int .i64 a.2, .int .i64 b.1, .int .i64 b.2] 24)) (some ⟨u.heap.size, 0, none⟩) 3 [p, a, b] from ⟨rfl, .inr ⟨u.heap.size, 0, rfl, by simp, fun i hi => by
    have hk3 : i = 0 ∨ i = 1 ∨ i = 2 := by omega
    rcases hk3 with rfl | rfl | rfl <;> exact ⟨(World.cell?_alloc_at _ _ _ _ rfl).trans rfl, (World.cell?_alloc_at _ _ _ _ rfl).trans rfl⟩⟩⟩)
  by_cases k : near9 p ∧ near9 a ∧ near9 b
  · have HV := Lib.hid (show segQ p a b = ssV p a b from (ssV_yes k.1 k.2.1 k.2.2).symm)
    have HSC := Lib.hid (fun u => segmentSquareC p a b u k.1 k.2.1 k.2.2)
    have HK := Lib.hid k
    generalize segQ p a b = n at *
    generalize ssV p a b = v at *
    clear k
    go_enter Try.func11, Try.ntmps11
    go_wp2_with fail
    generalize ((w.alloc (.cells #[.int .i64 p.1, .int .i64 p.2] 24)).alloc (.cells #[.int .i64 a.1, .int .i64 a.2] 24)).alloc (.cells #[.int .i64 b.1, .int .i64 b.2] 24) = w0 at *
    obtain ⟨⟨_, p1, p2⟩, ⟨_, a1, a2⟩, ⟨_, b1, b2⟩⟩ := HX.out
    go_wp2_with fail
    have HPL := Lib.hid (HNW.out w0)
    rw [HS0.out] at HPL
    refine (HAL.out _ _ HPL.out).mono ?_
    rintro e w1 ⟨bb, rfl, hbb, B⟩
    obtain rfl : bb = true := hbb.2 (HIF.out.2 HK.out)
    replace HB := Lib.hid (below_call (below_call HB.out (below_box _ _)) B)
    replace HX := Lib.hid (at3_next HX.out (below_call (below_box _ _) B))
    clear B hbb p1 p2 a1 a2 b1 b2
    obtain ⟨⟨_, p1, p2⟩, ⟨_, a1, a2⟩, ⟨_, b1, b2⟩⟩ := HX.out
    go_wp2_with fail
    refine (HSC.out _).mono ?_
    rintro e w2 ⟨rfl, B⟩
    replace HB := Lib.hid (below_call HB.out B)
    clear B p1 p2 a1 a2 b1 b2
    go_wp2
    go_ret
    exact ⟨ret_int HV.out, HB.out⟩
  · have HV := Lib.hid (show -1 = ssV p a b from (ssV_no k).symm)
    have HK := Lib.hid k
    generalize ssV p a b = v at *
    clear k
    go_enter Try.func11, Try.ntmps11
    go_wp2_with fail
    generalize ((w.alloc (.cells #[.int .i64 p.1, .int .i64 p.2] 24)).alloc (.cells #[.int .i64 a.1, .int .i64 a.2] 24)).alloc (.cells #[.int .i64 b.1, .int .i64 b.2] 24) = w0 at *
    obtain ⟨⟨_, p1, p2⟩, ⟨_, a1, a2⟩, ⟨_, b1, b2⟩⟩ := HX.out
    go_wp2_with fail
    have HPL := Lib.hid (HNW.out w0)
    rw [HS0.out] at HPL
    refine (HAL.out _ _ HPL.out).mono ?_
    rintro e w1 ⟨bb, rfl, hbb, B⟩
    obtain rfl : bb = false := by
      cases bb with
      | false => rfl
      | true => exact absurd (HIF.out.1 (hbb.1 rfl)) HK.out
    replace HB := Lib.hid (below_call (below_call HB.out (below_box _ _)) B)
    clear B hbb p1 p2 a1 a2 b1 b2
    go_wp2
    go_ret
    exact ⟨ret_int HV.out, HB.out⟩
set_option maxHeartbeats 1000000 in
theorem iKc (a : Option Addr) (len cap : Nat) (pss : List (List P2)) (p : P2) (d : Int) (w : World) (hp : PSS w a len pss) (hl : len ≤ 9223372036854775807) :
    Calls Try.prog 21 #[.slice a len cap, pt p.1 p.2, .int .i64 d] w fun e w' => e = .returned (.bool (decide (clr9 pss p d))) ∧ Below w.heap.size w w' := by
  have HB := Lib.hid (below_box w (.cells #[.int .i64 p.1, .int .i64 p.2] 24))
  have HX := Lib.hid (AtP.box w p.1 p.2 24)
  have HP := Lib.hid (hp.next HB.out)
  have HLE := Lib.hid hp.1
  clear hp
  by_cases k0 : len ≤ 8
  rotate_left
  · have HV := Lib.hid (show false = decide (clr9 pss p d) from (decide_eq_false fun h => k0 (by rw [HLE.out]; exact h.1)).symm)
    generalize decide (clr9 pss p d) = v at *
    have g : (8 : Int) < (len : Int) := by omega
    go_enter Try.func21, Try.ntmps21
    go_wp2
    go_ret
    exact ⟨ret_bool HV.out, HB.out⟩
  have g : ¬ (8 : Int) < (len : Int) := by omega
  by_cases k1 : 0 ≤ d
  rotate_left
  · have HV := Lib.hid (show false = decide (clr9 pss p d) from (decide_eq_false fun h => k1 h.2.1.1).symm)
    generalize decide (clr9 pss p d) = v at *
    have g1 : d < 0 := by omega
    go_enter Try.func21, Try.ntmps21
    go_wp2
    go_ret
    exact ⟨ret_bool HV.out, HB.out⟩
  have g1 : ¬ d < 0 := by omega
  by_cases k2 : d ≤ 1000
  rotate_left
  · have HV := Lib.hid (show false = decide (clr9 pss p d) from (decide_eq_false fun h => k2 h.2.1.2).symm)
    generalize decide (clr9 pss p d) = v at *
    have g2 : 1000 < d := by omega
    go_enter Try.func21, Try.ntmps21
    go_wp2
    go_ret
    exact ⟨ret_bool HV.out, HB.out⟩
  have g2 : ¬ 1000 < d := by omega
  have hdd := mul_bd (x := d) (y := d) (A := 1000) (B := 1000) (by omega) (by omega) (by omega) (by omega)
  have hd0 : 0 ≤ d * d := sq_nn9 d
  go_enter Try.func21, Try.ntmps21
  go_wp2_with fail
  generalize w.alloc (.cells #[.int .i64 p.1, .int .i64 p.2] 24) = w0 at *
  go_wp2
  go_loopw [26] (fun kv wr => ∃ j : Nat, j ≤ len ∧ kv = .int .i64 (j : Int) ∧ Hid (∀ k, k < j → okPol9 (pss.getD k []) p ∧ d * d ≤ psV (pss.getD k []) p) ∧ Hid (Below w0.heap.size w0 wr)) (fun kv _ => len - (intOf kv).toNat)
  case atStart => exact ⟨0, Nat.zero_le _, rfl, Lib.hid (fun k hk => absurd hk (by omega)), Lib.hid (Below.refl _ _)⟩
  case round =>
    obtain ⟨j, hj, rfl, HI, HW⟩ := hrel
    have HP1 := Lib.hid (HP.out.next HW.out)
    have HX1 := Lib.hid (HX.out.next HW.out)
    by_cases hlt : j < len
    · obtain ⟨b, rfl, lt, hc⟩ := HP1.out.some (by omega)
      obtain ⟨s, d1, I1, I2⟩ := hc j hlt
      obtain ⟨n, hn⟩ : ∃ n, psV (pss.getD j []) p = n := ⟨_, rfl⟩
      have j1 : (0 : Int) ≤ (j : Int) := by omega
      have j2 : (j : Int) < (len : Int) := by omega
      unfold slQ at d1
      have HJ := Lib.hid I1
      have HC := Lib.hid (show Calls Try.prog 43 #[.slice s.a s.len s.cap, pt p.1 p.2] wr fun e w' => e = .returned (.int .i64 n) ∧ Below wr.heap.size wr w' from hn ▸ polygonSquareC s.a s.len s.cap (pss.getD j []) p wr I1 I2)
      have HNE := Lib.hid (psV_neg (ps := pss.getD j []) (p := p))
      have HM : Hid (pss.getD j [] ∈ pss) := Lib.hid (at_mem9 (by rw [← HLE.out]; exact hlt))
      have HNN : Hid (psV (pss.getD j []) p = n) := Lib.hid hn
      rw [hn] at HNE
      obtain ⟨_, x0, x1⟩ := HX1.out
      clear hc hn I1
      by_cases hno : n < d * d
      · have HV := Lib.hid (show false = decide (clr9 pss p d) from (decide_eq_false fun h => (by have := (h.2.2 _ HM.out).2; rw [HNN.out] at this; omega)).symm)
        have hd : decide (n < d * d) = true := decide_eq_true hno
        clear HNE HNN hno
        go_wp2_with fail
        refine HC.out.mono ?_
        rintro e w3 ⟨rfl, B⟩
        have HW2 := Lib.hid (below_call HW.out B)
        clear d1 x0 x1 B
        go_wp2_with fail
        refine (lessC _ _ _).mono ?_
        rintro e w4 ⟨rfl, rfl⟩
        go_wp2
        go_ret
        exact ⟨ret_bool HV.out, below_call HB.out HW2.out⟩
      · have hd : decide (n < d * d) = false := decide_eq_false hno
        have HI2 : Hid (∀ k, k < j + 1 → okPol9 (pss.getD k []) p ∧ d * d ≤ psV (pss.getD k []) p) := Lib.hid fun k hk => by
          by_cases e : k = j
          · subst e; exact ⟨Classical.byContradiction fun q => (by have := HNE.out.2 q; omega), by rw [HNN.out]; omega⟩
          · exact HI.out k (by omega)
        clear HNE HNN hno
        go_wp2_with fail
        refine HC.out.mono ?_
        rintro e w3 ⟨rfl, B⟩
        have HW2 := Lib.hid (below_call HW.out B)
        clear d1 x0 x1 B
        go_wp2_with fail
        refine (lessC _ _ _).mono ?_
        rintro e w4 ⟨rfl, rfl⟩
        go_wp2
        go_roundw
        case rel => exact ⟨j + 1, by omega, by congr 1, HI2, HW2⟩
        case measure => simp [intOf]; omega
    · obtain rfl : j = len := by omega
      have HV := Lib.hid (show true = decide (clr9 pss p d) from (decide_eq_true (p := clr9 pss p d) ⟨by rw [← HLE.out]; exact k0, ⟨k1, k2⟩, fun o ho => by
        obtain ⟨i, hi, rfl⟩ := mem_at9 ho
        exact HI.out i (by rw [HLE.out]; exact hi)⟩).symm)
      go_wp2
      go_ret
      exact ⟨ret_bool HV.out, below_call HB.out HW.out⟩
end Go.Proofs.Ytgpoknehbadddaa
