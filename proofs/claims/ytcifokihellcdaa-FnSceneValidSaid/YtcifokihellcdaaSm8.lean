/- The program's test of two segments. -/
import Derived.Test.YtcifokihellcdaaCon8
import Derived.BigQuiet
namespace Go.Proofs.Ytcifokihellcdaa
set_option maxRecDepth 100000
open Go.RowKit
attribute [local go_sem ↓] Go.wp_at_zero Go.wp_at_succ
/-- The program's words, for whatever points. -/
def smV (a b c d : P2) : Prop := (spans a.1 b.1 c.1 d.1 ∧ spans a.2 b.2 c.2 d.2) ∧ ori a b c * ori a b d ≤ 0 ∧ ori c d a * ori c d b ≤ 0
instance (a b c d : P2) : Decidable (smV a b c d) := by unfold smV; infer_instance
def conV (ps : List P2) (p : P2) : Prop := ∀ k, k < ps.length → 0 ≤ ori (cor ps k) (cor ps (nx ps k)) p
noncomputable instance (ps : List P2) (p : P2) : Decidable (conV ps p) := Classical.propDecidable _
def hitV (ps : List P2) (p q : P2) : Prop := conV ps p ∨ ∃ k, k < ps.length ∧ smV p q (cor ps k) (cor ps (nx ps k))
noncomputable instance (ps : List P2) (p q : P2) : Decidable (hitV ps p q) := Classical.propDecidable _
def metV (ps qs : List P2) : Prop := (∃ k, k < ps.length ∧ hitV qs (cor ps k) (cor ps (nx ps k))) ∨ conV ps (cor qs 0)
noncomputable instance (ps qs : List P2) : Decidable (metV ps qs) := Classical.propDecidable _
/-- What the searches seek at an edge. -/
def outE (p : P2) (x : EP) : Prop := ori x.1 x.2 p < 0
def segE (p q : P2) (x : EP) : Prop := smV p q x.1 x.2
def hitE (qs : List P2) (x : EP) : Prop := hitV qs x.1 x.2
theorem ori_nonneg {a b c : P2} (ha : okQ a) (hb : okQ b) (hc : okQ c) : 0 ≤ ori a b c ↔ 0 ≤ cr a b c := by
  rw [ori_ok ⟨ha, hb, hc⟩]
  rcases sgn_cases (cr a b c) with ⟨k, e⟩ | ⟨k, e⟩ | ⟨k, e⟩ <;> rw [e] <;> omega
theorem smV_iff {a b c d : P2} (ha : okQ a) (hb : okQ b) (hc : okQ c) (hd : okQ d) : smV a b c d ↔ Meet a b c d := by
  rw [← sm_iff]
  unfold smV SM parts
  rw [ori_ok ⟨ha, hb, hc⟩, ori_ok ⟨ha, hb, hd⟩, ori_ok ⟨hc, hd, ha⟩, ori_ok ⟨hc, hd, hb⟩]
  exact ⟨fun ⟨⟨h1, h2⟩, h3, h4⟩ => ⟨h1, h2, h3, h4⟩, fun ⟨h1, h2, h3, h4⟩ => ⟨⟨h1, h2⟩, h3, h4⟩⟩
theorem conV_iff {ps : List P2} {p : P2} (hp : okPts ps) (hq : okQ p) : conV ps p ↔ Ins ps p := by
  constructor
  · intro h k hk; exact (ori_nonneg (hp.cor hk) (hp.cor (nx_lt hk)) hq).1 (h k hk)
  · intro h k hk; exact (ori_nonneg (hp.cor hk) (hp.cor (nx_lt hk)) hq).2 (h k hk)
/-- The document's word for a segment and a polygon. -/
def Hit (ps : List P2) (p q : P2) : Prop := (Ins ps p ∨ Ins ps q) ∨ ∃ k, k < ps.length ∧ Meet p q (cor ps k) (cor ps (nx ps k))
noncomputable instance (ps : List P2) (p q : P2) : Decidable (Hit ps p q) := Classical.propDecidable _
theorem hitV_iff {ps : List P2} {p q : P2} (hp : okCvx ps) (h1 : okQ p) (h2 : okQ q) : hitV ps p q ↔ Hit ps p q := by
  unfold hitV
  rw [conV_iff hp.2.2.1 h1]
  have e : (∃ k, k < ps.length ∧ smV p q (cor ps k) (cor ps (nx ps k))) ↔ ∃ k, k < ps.length ∧ Meet p q (cor ps k) (cor ps (nx ps k)) :=
    ⟨fun ⟨k, hk, h⟩ => ⟨k, hk, (smV_iff h1 h2 (hp.2.2.1.cor hk) (hp.2.2.1.cor (nx_lt hk))).1 h⟩, fun ⟨k, hk, h⟩ => ⟨k, hk, (smV_iff h1 h2 (hp.2.2.1.cor hk) (hp.2.2.1.cor (nx_lt hk))).2 h⟩⟩
  rw [e]
  constructor
  · rintro (h | h)
    · exact .inl (.inl h)
    · exact .inr h
  · rintro ((h | h) | h)
    · exact .inl h
    · by_cases hi : Ins ps p
      · exact .inl hi
      · obtain ⟨j, hj, hm⟩ := leaves hp.ccw hp.1 h hi
        exact .inr ⟨j, hj, hm.swap⟩
    · exact .inr h
theorem metV_iff {ps qs : List P2} (hp : okCvx ps) (hq : okCvx qs) : metV ps qs ↔ CMeet ps qs := by
  unfold metV
  have h0 : 0 < qs.length := by have := hq.1; omega
  rw [conV_iff hp.2.2.1 (hq.2.2.1.cor h0)]
  unfold CMeet
  constructor
  · rintro (⟨k, hk, h⟩ | h)
    · exact .inl ⟨k, hk, (hitV_iff hq (hp.2.2.1.cor hk) (hp.2.2.1.cor (nx_lt hk))).1 h⟩
    · exact .inr h
  · rintro (⟨k, hk, h⟩ | h)
    · exact .inl ⟨k, hk, (hitV_iff hq (hp.2.2.1.cor hk) (hp.2.2.1.cor (nx_lt hk))).2 h⟩
    · exact .inr h
theorem box4 (w : World) (a b c d : P2) : let w0 := (((w.alloc (.cells #[.int .i64 a.1, .int .i64 a.2] 51)).alloc (.cells #[.int .i64 b.1, .int .i64 b.2] 51)).alloc (.cells #[.int .i64 c.1, .int .i64 c.2] 51)).alloc (.cells #[.int .i64 d.1, .int .i64 d.2] 51)
    AtP w0 w.heap.size a.1 a.2 ∧ AtP w0 (w.heap.size + 1) b.1 b.2 ∧ AtP w0 (w.heap.size + 1 + 1) c.1 c.2 ∧ AtP w0 (w.heap.size + 1 + 1 + 1) d.1 d.2 := by
  have k1 := AtP.box w a.1 a.2 51
  have k2 := AtP.box (w.alloc (.cells #[.int .i64 a.1, .int .i64 a.2] 51)) b.1 b.2 51
  have k3 := AtP.box ((w.alloc (.cells #[.int .i64 a.1, .int .i64 a.2] 51)).alloc (.cells #[.int .i64 b.1, .int .i64 b.2] 51)) c.1 c.2 51
  have k4 := AtP.box (((w.alloc (.cells #[.int .i64 a.1, .int .i64 a.2] 51)).alloc (.cells #[.int .i64 b.1, .int .i64 b.2] 51)).alloc (.cells #[.int .i64 c.1, .int .i64 c.2] 51)) d.1 d.2 51
  simp only [World.size_alloc] at k2 k3 k4
  exact ⟨((k1.next (below_box _ _)).next (below_box _ _)).next (below_box _ _), (k2.next (below_box _ _)).next (below_box _ _), k3.next (below_box _ _), k4⟩
theorem ori_sm (a b c : P2) : -1 ≤ ori a b c ∧ ori a b c ≤ 1 := by
  unfold ori oriV
  split
  · rcases sgn_cases (crossV a.1 a.2 b.1 b.2 c.1 c.2) with ⟨_, e⟩ | ⟨_, e⟩ | ⟨_, e⟩ <;> rw [e] <;> omega
  · omega
theorem prod_sm {p q : Int} (h1 : -1 ≤ p) (h2 : p ≤ 1) (h3 : -1 ≤ q) (h4 : q ≤ 1) : -1 ≤ p * q ∧ p * q ≤ 1 := by
  obtain rfl | rfl | rfl : p = -1 ∨ p = 0 ∨ p = 1 := by omega
  all_goals omega
end Go.Proofs.Ytcifokihellcdaa
