/- The program's test of two segments. -/
import Derived.Test.YtcifokihellcdaaDoorCon8
import Derived.BigQuiet
namespace Go.Proofs.YtcifokihellcdaaDoor
set_option maxRecDepth 100000
open Go.RowKit
attribute [local go_sem ↓] Go.wp_at_zero Go.wp_at_succ
/-- The program's words, for whatever points. -/
def smV (a b c d : P2) : Prop := (spans a.1 b.1 c.1 d.1 ∧ spans a.2 b.2 c.2 d.2) ∧ ori a b c * ori a b d ≤ 0 ∧ ori c d a * ori c d b ≤ 0
instance (a b c d : P2) : Decidable (smV a b c d) := by unfold smV; infer_instance
def conV (ps : List P2) (p : P2) : Prop := ∀ k, k < ps.length → 0 ≤ ori (cor ps k) (cor ps (nx ps k)) p
noncomputable instance (ps : List P2) (p : P2) : Decidable (conV ps p) := Classical.propDecidable _
def hitV (ps : List P2) (p q : P2) : Prop := conV ps p ∨ ∃ k, k < ps.length ∧ smV p q (cor ps k) (cor ps (nx ps k))
noncomputable instance (ps : List P2) (p q : P2) : Decidable (hitV ps p q) := Classical.propDecidable _
def metV (ps qs : List P2) : Prop := (∃ k, k < ps.length ∧ hitV qs (cor ps k) (cor ps (nx ps k))) ∨ conV ps (cor qs 0)
noncomputable instance (ps qs : List P2) : Decidable (metV ps qs) := Classical.propDecidable _
/-- What the searches seek at an edge. -/
def outE (p : P2) (x : EP) : Prop := ori x.1 x.2 p < 0
def segE (p q : P2) (x : EP) : Prop := smV p q x.1 x.2
def hitE (qs : List P2) (x : EP) : Prop := hitV qs x.1 x.2
theorem ori_nonneg {a b c : P2} (ha : okQ a) (hb : okQ b) (hc : okQ c) : 0 ≤ ori a b c ↔ 0 ≤ cr a b c := by
  rw [ori_ok ⟨ha, hb, hc⟩]
  rcases sgn_cases (cr a b c) with ⟨k, e⟩ | ⟨k, e⟩ | ⟨k, e⟩ <;> rw [e] <;> omega
theorem smV_iff {a b c d : P2} (ha : okQ a) (hb : okQ b) (hc : okQ c) (hd : okQ d) : smV a b c d ↔ Meet a b c d := by
  rw [← sm_iff]
  unfold smV SM parts
  rw [ori_ok ⟨ha, hb, hc⟩, ori_ok ⟨ha, hb, hd⟩, ori_ok ⟨hc, hd, ha⟩, ori_ok ⟨hc, hd, hb⟩]
  exact ⟨fun ⟨⟨h1, h2⟩, h3, h4⟩ => ⟨h1, h2, h3, h4⟩, fun ⟨h1, h2, h3, h4⟩ => ⟨⟨h1, h2⟩, h3, h4⟩⟩
theorem conV_iff {ps : List P2} {p : P2} (hp : okPts ps) (hq : okQ p) : conV ps p ↔ Ins ps p := by
  constructor
  · intro h k hk; exact (ori_nonneg (hp.cor hk) (hp.cor (nx_lt hk)) hq).1 (h k hk)
  · intro h k hk; exact (ori_nonneg (hp.cor hk) (hp.cor (nx_lt hk)) hq).2 (h k hk)
/-- The document's word for a segment and a polygon. -/
def Hit (ps : List P2) (p q : P2) : Prop := (Ins ps p ∨ Ins ps q) ∨ ∃ k, k < ps.length ∧ Meet p q (cor ps k) (cor ps (nx ps k))
noncomputable instance (ps : List P2) (p q : P2) : Decidable (Hit ps p q) := Classical.propDecidable _
theorem hitV_iff {ps : List P2} {p q : P2} (hp : okCvx ps) (h1 : okQ p) (h2 : okQ q) : hitV ps p q ↔ Hit ps p q := by
  unfold hitV
  rw [conV_iff hp.2.2.1 h1]
  have e : (∃ k, k < ps.length ∧ smV p q (cor ps k) (cor ps (nx ps k))) ↔ ∃ k, k < ps.length ∧ Meet p q (cor ps k) (cor ps (nx ps k)) :=
    ⟨fun ⟨k, hk, h⟩ => ⟨k, hk, (smV_iff h1 h2 (hp.2.2.1.cor hk) (hp.2.2.1.cor (nx_lt hk))).1 h⟩, fun ⟨k, hk, h⟩ => ⟨k, hk, (smV_iff h1 h2 (hp.2.2.1.cor hk) (hp.2.2.1.cor (nx_lt hk))).2 h⟩⟩
  rw [e]
  constructor
  · rintro (h | h)
    · exact .inl (.inl h)
    · exact .inr h
  · rintro ((h | h) | h)
    · exact .inl h
    · by_cases hi : Ins ps p
      · exact .inl hi
      · obtain ⟨j, hj, hm⟩ := leaves hp.ccw hp.1 h hi
        exact .inr ⟨j, hj, hm.swap⟩
    · exact .inr h
theorem metV_iff {ps qs : List P2} (hp : okCvx ps) (hq : okCvx qs) : metV ps qs ↔ CMeet ps qs := by
  unfold metV
  have h0 : 0 < qs.length := by have := hq.1; omega
  rw [conV_iff hp.2.2.1 (hq.2.2.1.cor h0)]
  unfold CMeet
  constructor
  · rintro (⟨k, hk, h⟩ | h)
    · exact .inl ⟨k, hk, (hitV_iff hq (hp.2.2.1.cor hk) (hp.2.2.1.cor (nx_lt hk))).1 h⟩
    · exact .inr h
  · rintro (⟨k, hk, h⟩ | h)
    · exact .inl ⟨k, hk, (hitV_iff hq (hp.2.2.1.cor hk) (hp.2.2.1.cor (nx_lt hk))).2 h⟩
    · exact .inr h
theorem box4 (w : World) (a b c d : P2) : let w0 := (((w.alloc (.cells #[.int .i64 a.1, .int .i64 a.2] 34)).alloc (.cells #[.int .i64 b.1, .int .i64 b.2] 34)).alloc (.cells #[.int .i64 c.1, .int .i64 c.2] 34)).alloc (.cells #[.int .i64 d.1, .int .i64 d.2] 34)
    AtP w0 w.heap.size a.1 a.2 ∧ AtP w0 (w.heap.size + 1) b.1 b.2 ∧ AtP w0 (w.heap.size + 1 + 1) c.1 c.2 ∧ AtP w0 (w.heap.size + 1 + 1 + 1) d.1 d.2 := by
  have k1 := AtP.box w a.1 a.2 34
  have k2 := AtP.box (w.alloc (.cells #[.int .i64 a.1, .int .i64 a.2] 34)) b.1 b.2 34
  have k3 := AtP.box ((w.alloc (.cells #[.int .i64 a.1, .int .i64 a.2] 34)).alloc (.cells #[.int .i64 b.1, .int .i64 b.2] 34)) c.1 c.2 34
  have k4 := AtP.box (((w.alloc (.cells #[.int .i64 a.1, .int .i64 a.2] 34)).alloc (.cells #[.int .i64 b.1, .int .i64 b.2] 34)).alloc (.cells #[.int .i64 c.1, .int .i64 c.2] 34)) d.1 d.2 34
  simp only [World.size_alloc] at k2 k3 k4
  exact ⟨((k1.next (below_box _ _)).next (below_box _ _)).next (below_box _ _), (k2.next (below_box _ _)).next (below_box _ _), k3.next (below_box _ _), k4⟩
theorem spansC (a b c d : Int) (w : World) : Calls Tryd.prog 94 #[.int .i64 a, .int .i64 b, .int .i64 c, .int .i64 d] w fun e w' => e = .returned (.bool (decide (spans a b c d))) ∧ w = w' := by
  by_cases h1 : min a b ≤ max c d
  · have HN := Lib.hid h1
    go_enter Tryd.func94, Tryd.ntmps94
    go_wp2
    all_goals (go_ret; refine ⟨ret_bool (Bool.eq_iff_iff.2 ?_), rfl⟩; simp only [decide_eq_true_eq]; have := HN.out; clear h1; unfold spans; omega)
  · have HN := Lib.hid h1
    go_enter Tryd.func94, Tryd.ntmps94
    go_wp2
    all_goals (go_ret; refine ⟨ret_bool (Bool.eq_iff_iff.2 ?_), rfl⟩; simp only [decide_eq_true_eq, Bool.false_eq_true, false_iff]; have := HN.out; clear h1; unfold spans; omega)
theorem ori_sm (a b c : P2) : -1 ≤ ori a b c ∧ ori a b c ≤ 1 := by
  unfold ori oriV
  split
  · rcases sgn_cases (crossV a.1 a.2 b.1 b.2 c.1 c.2) with ⟨_, e⟩ | ⟨_, e⟩ | ⟨_, e⟩ <;> rw [e] <;> omega
  · omega
theorem prod_sm {p q : Int} (h1 : -1 ≤ p) (h2 : p ≤ 1) (h3 : -1 ≤ q) (h4 : q ≤ 1) : -1 ≤ p * q ∧ p * q ≤ 1 := by
  obtain rfl | rfl | rfl : p = -1 ∨ p = 0 ∨ p = 1 := by omega
  all_goals omega
set_option maxHeartbeats 1000000 in
theorem partsC (a b c d : P2) (w : World) : Calls Tryd.prog 95 #[pt a.1 a.2, pt b.1 b.2, pt c.1 c.2, pt d.1 d.2] w fun e w' => e = .returned (.bool (decide (ori a b c * ori a b d ≤ 0))) ∧ Below w.heap.size w w' := by
  have HB := Lib.hid (below_box4 w (.cells #[.int .i64 a.1, .int .i64 a.2] 34) (.cells #[.int .i64 b.1, .int .i64 b.2] 34) (.cells #[.int .i64 c.1, .int .i64 c.2] 34) (.cells #[.int .i64 d.1, .int .i64 d.2] 34))
  have HX := Lib.hid (box4 w a b c d)
  have o1 := ori_sm a b c
  have o2 := ori_sm a b d
  have HC := Lib.hid (oriC a b c)
  have HD := Lib.hid (oriC a b d)
  have HM := Lib.hid (prod_sm o1.1 o1.2 o2.1 o2.2)
  clear o1 o2
  generalize ori a b c = p at *
  generalize ori a b d = q at *
  go_enter Tryd.func95, Tryd.ntmps95
  go_upto_region 1 with fail
  generalize (((w.alloc (.cells #[.int .i64 a.1, .int .i64 a.2] 34)).alloc (.cells #[.int .i64 b.1, .int .i64 b.2] 34)).alloc (.cells #[.int .i64 c.1, .int .i64 c.2] 34)).alloc (.cells #[.int .i64 d.1, .int .i64 d.2] 34) = w0 at *
  obtain ⟨P1, P2, P3, P4⟩ := HX.out
  obtain ⟨a1, a2⟩ := P1.kepts
  obtain ⟨b1, b2⟩ := P2.kepts
  obtain ⟨c1, c2⟩ := P3.kepts
  obtain ⟨d1, d2⟩ := P4.kepts
  have HCK := Lib.hid (fun (n : Kept w0) => keptCall (HC.out n.u))
  have HDK := Lib.hid (fun (n : Kept w0) => keptCall (HD.out n.u))
  have m1 := HM.out.1
  have m2 := HM.out.2
  clear P1 P2 P3 P4
  refine wp_region_kept (by kernel_rfl) (by kernel_rfl) ?_
  repeat (go_big_quiet_step ((first | (go_at_call 100; with_reducible exact HCK.out _) | (go_at_call 100; with_reducible exact HDK.out _))))
  refine wpQuiet_nil ?_
  rintro w5 ⟨⟨_, K5⟩, rfl⟩
  have HF := Lib.hid (below_call HB.out K5)
  clear a1 a2 b1 b2 c1 c2 d1 d2 HCK HDK
  go_wp2
  go_ret
  exact ⟨rfl, HF.out⟩
set_option maxHeartbeats 2000000 in
theorem segC (a b c d : P2) (w : World) : Calls Tryd.prog 84 #[pt a.1 a.2, pt b.1 b.2, pt c.1 c.2, pt d.1 d.2] w fun e w' => e = .returned (.bool (decide (smV a b c d))) ∧ Below w.heap.size w w' := by
  have HB := Lib.hid (below_box4 w (.cells #[.int .i64 a.1, .int .i64 a.2] 34) (.cells #[.int .i64 b.1, .int .i64 b.2] 34) (.cells #[.int .i64 c.1, .int .i64 c.2] 34) (.cells #[.int .i64 d.1, .int .i64 d.2] 34))
  have HX := Lib.hid (box4 w a b c d)
  have H1 := Lib.hid (fun u => spansC a.1 b.1 c.1 d.1 u)
  have H2 := Lib.hid (fun u => spansC a.2 b.2 c.2 d.2 u)
  have H3 := Lib.hid (fun u => partsC a b c d u)
  have H4 := Lib.hid (fun u => partsC c d a b u)
  by_cases k1 : spans a.1 b.1 c.1 d.1
  · rw [decide_eq_true k1] at H1
    by_cases k2 : spans a.2 b.2 c.2 d.2
    · rw [decide_eq_true k2] at H2
      by_cases k3 : ori a b c * ori a b d ≤ 0
      · have HV := Lib.hid (show decide (ori c d a * ori c d b ≤ 0) = decide (smV a b c d) from Bool.eq_iff_iff.2 (by simp only [decide_eq_true_eq]; exact ⟨fun h => ⟨⟨k1, k2⟩, k3, h⟩, fun h => h.2.2⟩))
        rw [decide_eq_true k3] at H3
        generalize decide (ori c d a * ori c d b ≤ 0) = bb at *
        generalize decide (smV a b c d) = rr at *
        clear k1 k2 k3
        go_enter Tryd.func84, Tryd.ntmps84
        go_wp2_with fail
        refine (H1.out _).mono ?_
        rintro e w' ⟨rfl, rfl⟩
        go_wp2_with fail
        refine (H2.out _).mono ?_
        rintro e w' ⟨rfl, rfl⟩
        go_wp2_with fail
        refine (H3.out _).mono ?_
        rintro e w1 ⟨rfl, B1⟩
        obtain ⟨P1, P2, P3, P4⟩ := HX.out
        obtain ⟨_, a1, a2⟩ := P1.next B1
        obtain ⟨_, b1, b2⟩ := P2.next B1
        obtain ⟨_, c1, c2⟩ := P3.next B1
        obtain ⟨_, d1, d2⟩ := P4.next B1
        have HB1 := Lib.hid (below_call HB.out B1)
        clear P1 P2 P3 P4 B1
        go_wp2_with fail
        refine (H4.out _).mono ?_
        rintro e w2 ⟨rfl, B2⟩
        have HB2 := Lib.hid (below_call HB1.out B2)
        clear B2 a1 a2 b1 b2 c1 c2 d1 d2
        go_wp2
        go_ret
        exact ⟨ret_bool HV.out, HB2.out⟩
      · have HV := Lib.hid (show false = decide (smV a b c d) from (decide_eq_false fun h => k3 h.2.1).symm)
        rw [decide_eq_false k3] at H3
        generalize decide (smV a b c d) = rr at *
        clear k1 k2 k3
        go_enter Tryd.func84, Tryd.ntmps84
        go_wp2_with fail
        refine (H1.out _).mono ?_
        rintro e w' ⟨rfl, rfl⟩
        go_wp2_with fail
        refine (H2.out _).mono ?_
        rintro e w' ⟨rfl, rfl⟩
        go_wp2_with fail
        refine (H3.out _).mono ?_
        rintro e w1 ⟨rfl, B1⟩
        have HB1 := Lib.hid (below_call HB.out B1)
        clear B1
        go_wp2
        go_ret
        exact ⟨ret_bool HV.out, HB1.out⟩
    · have HV := Lib.hid (show false = decide (smV a b c d) from (decide_eq_false fun h => k2 h.1.2).symm)
      rw [decide_eq_false k2] at H2
      generalize decide (smV a b c d) = rr at *
      clear k1 k2
      go_enter Tryd.func84, Tryd.ntmps84
      go_wp2_with fail
      refine (H1.out _).mono ?_
      rintro e w' ⟨rfl, rfl⟩
      go_wp2_with fail
      refine (H2.out _).mono ?_
      rintro e w' ⟨rfl, rfl⟩
      go_wp2
      go_ret
      exact ⟨ret_bool HV.out, HB.out⟩
  · have HV := Lib.hid (show false = decide (smV a b c d) from (decide_eq_false fun h => k1 h.1.1).symm)
    rw [decide_eq_false k1] at H1
    generalize decide (smV a b c d) = rr at *
    clear k1
    go_enter Tryd.func84, Tryd.ntmps84
    go_wp2_with fail
    refine (H1.out _).mono ?_
    rintro e w' ⟨rfl, rfl⟩
    go_wp2
    go_ret
    exact ⟨ret_bool HV.out, HB.out⟩
end Go.Proofs.YtcifokihellcdaaDoor
