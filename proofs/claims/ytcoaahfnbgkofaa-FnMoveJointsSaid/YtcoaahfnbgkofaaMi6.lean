/- MoveJoints of the program. -/
import Derived.Test.YtcoaahfnbgkofaaMr6
import Derived.Test.YtcoaahfnbgkofaaAp5
namespace Go.Proofs.Ytcoaahfnbgkofaa
set_option maxRecDepth 100000
open Go.RowKit
attribute [local go_sem ↓] Go.wp_at_zero Go.wp_at_succ
theorem OwnRows.rows {w : World} {B : Nat} {v : Value} {fs ts ps : List Int} {d : Int} (h : OwnRows w B v fs.length ps.length (flatC fs ts ps d fs.length)) : ∃ s : Sl, v = .slice s.a s.len s.cap ∧ s.len = ps.length ∧ RowsAt w s.a s.len (rowsA fs ts ps d) := by
  rcases h with ⟨hn, rfl⟩ | ⟨g, b, cap, rfl, hgb, h3, h4⟩
  · refine ⟨⟨none, 0, 0⟩, rfl, hn.symm, by rw [rowsA_len, hn], .inl ?_⟩
    unfold rowsA; rw [hn]; rfl
  · refine ⟨⟨some ⟨b, 0, none⟩, ps.length, cap⟩, rfl, rfl, by rw [rowsA_len], .inr ⟨b, rfl, (World.ownsRow.lt h4 b rfl).2, fun i hi => ?_⟩⟩
    rw [rowsA_len] at hi
    have c1 := h4.cellAt i (by omega)
    rw [rowVs_at g fs.length ps.length i hi] at c1
    refine ⟨⟨some ⟨g, i * fs.length, none⟩, fs.length, fs.length⟩, c1, ?_⟩
    rw [rowsA_at fs ts ps d i hi]
    refine ⟨by rw [rowA_len], .inr ⟨g, i * fs.length, rfl, (World.ownsRow.lt h3 g rfl).2, fun j hj => ?_⟩⟩
    rw [rowA_len] at hj
    have hb : i * fs.length + j < ps.length * fs.length := by
      have h2 := Nat.mul_le_mul_right fs.length (show i + 1 ≤ ps.length by omega)
      rw [Nat.add_mul, Nat.one_mul] at h2; omega
    have c2 := h3.cellAt (i * fs.length + j) (by omega)
    rw [cpart_at _ _ _ _ _ hb, if_pos hb, flatC_at fs ts ps d fs.length i j hj] at c2
    rw [rowA_at fs ts _ d j hj]
    exact c2
theorem okBoth.ps {ls lo hi fs ts : List Int} {t r : Int} (h : okBoth ls lo hi fs ts) :
    (∀ k, k < (profV (mostV fs ts) t r).length → 1 ≤ (profV (mostV fs ts) t r).getD k 0 ∧ (profV (mostV fs ts) t r).getD k 0 ≤ 200) ∧ (∀ k, k ≤ (profV (mostV fs ts) t r).length → 0 ≤ partS (profV (mostV fs ts) t r) k ∧ partS (profV (mostV fs ts) t r) k ≤ mostV fs ts) ∧
    (1 ≤ (profV (mostV fs ts) t r).length → 0 < mostV fs ts) ∧ (profV (mostV fs ts) t r).length ≤ 360 ∧ moveV ls lo hi fs ts t r = rowsA fs ts (profV (mostV fs ts) t r) (mostV fs ts) := by
  have hm := h.most
  by_cases q : okMv ls lo hi fs ts t r
  · have s := spd_of q
    exact ⟨fun k hk => ⟨(s.one k hk).1, by have := (s.one k hk).2; have := q.2.1.2; omega⟩, s.sum, s.pos, by have := s.len; omega, moveV_in q⟩
  · have e : profV (mostV fs ts) t r = [] := profV_out fun k => q ⟨h, k.2⟩
    rw [e]
    refine ⟨fun k hk => by simp at hk, fun k hk => ?_, fun k => by simp at k, by simp, ?_⟩
    · have : k = 0 := by simpa using hk
      subst this; rw [partS_zero]; exact ⟨Int.le_refl _, hm.1⟩
    · rw [moveV_out q]; rfl
/-- What the program's MoveJoints says: rows of the call's own, in one backing block. -/
def MovedI (ls lo hi fs ts : List Int) (t r : Int) (w : World) (e : Ending) (w' : World) : Prop :=
  ∃ s : Sl, e = .returned (.slice s.a s.len s.cap) ∧ s.len = (moveV ls lo hi fs ts t r).length ∧ OwnRows w' w.heap.size (.slice s.a s.len s.cap) fs.length s.len (flatC fs ts (profV (mostV fs ts) t r) (mostV fs ts) fs.length) ∧ RowsAt w' s.a s.len (moveV ls lo hi fs ts t r) ∧ Below w.heap.size w w'
set_option maxHeartbeats 2000000 in
theorem implMoveJoints (x y z a b : Sl) (ls lo hi fs ts : List Int) (t r : Int) (w : World) (hx : IntsAt w x.a x.len ls) (hy : IntsAt w y.a y.len lo) (hz : IntsAt w z.a z.len hi) (ha : IntsAt w a.a a.len fs) (hb : IntsAt w b.a b.len ts) (bx : x.len ≤ 9223372036854775807) (b_y : y.len ≤ 9223372036854775807) (bz : z.len ≤ 9223372036854775807) (ba : a.len ≤ 9223372036854775807) (bb : b.len ≤ 9223372036854775807) :
    Calls Try.prog 10 #[av x y z, .slice a.a a.len a.cap, .slice b.a b.len b.cap, .int .i64 t, .int .i64 r] w (MovedI ls lo hi fs ts t r w) := by
  have HB := Lib.hid (below_box w (.cells #[.slice x.a x.len x.cap, .slice y.a y.len y.cap, .slice z.a z.len z.cap] 25))
  go_enter Try.func10, Try.ntmps10
  go_wp2_with fail
  refine (chainOf x y z ls lo hi _ (hx.next HB.out) (hy.next HB.out) (hz.next HB.out) bx b_y bz).mono ?_
  rintro e w1 ⟨B1, ⟨hok, cb, rfl, _, hc⟩ | ⟨hok, rfl⟩⟩
  · have HB1 := Lib.hid (below_call HB.out B1)
    clear B1 hx hy hz
    go_wp2_with fail
    refine (allows cb _ a ls lo hi fs _ hc hok (ha.next HB1.out) ba).mono ?_
    rintro e w2 ⟨rfl, B2⟩
    replace HB1 := Lib.hid (below_call HB1.out B2)
    replace hc := hc.next B2
    clear B2
    by_cases hf : okJoints ls lo hi fs
    · rw [decide_eq_true hf]
      go_wp2_with fail
      refine (allows cb _ b ls lo hi ts _ hc hok (hb.next HB1.out) bb).mono ?_
      rintro e w3 ⟨rfl, B3⟩
      replace HB1 := Lib.hid (below_call HB1.out B3)
      clear B3 hc
      by_cases ht : okJoints ls lo hi ts
      · rw [decide_eq_true ht]
        have HY := Lib.hid (show okBoth ls lo hi fs ts from ⟨hf, ht⟩)
        have HLN := Lib.hid HY.out.len
        have HPS := Lib.hid (HY.out.ps (t := t) (r := r))
        have HHF := Lib.hid (And.intro hf.half ht.half)
        go_wp2_with fail
        refine (greatestTurn a b fs ts _ (ha.next HB1.out) (hb.next HB1.out) (by have := HLN.out; omega) (by have := HLN.out; omega) (by have := HLN.out; omega) HHF.out.1 HHF.out.2).mono ?_
        rintro e w4 ⟨rfl, B4⟩
        replace HB1 := Lib.hid (below_call HB1.out B4)
        clear B4 hf ht hok
        go_wp2_with fail
        refine (implMotionProfile (mostV fs ts) t r _).mono ?_
        rintro e w5 ⟨s, rfl, l5, O5, B5⟩
        replace HB1 := Lib.hid (below_call HB1.out B5)
        replace l5 := Lib.hid l5
        clear B5
        go_wp2_with fail
        refine (moveRows a b s fs ts (profV (mostV fs ts) t r) (mostV fs ts) _ (ha.next HB1.out) (hb.next HB1.out) O5.ints (by have := HLN.out; omega) (by have := HLN.out; omega) (by have := HLN.out; omega) HHF.out.1 HHF.out.2 rfl HPS.out.1 HPS.out.2.1 HPS.out.2.2.1 HY.out.most.2 HPS.out.2.2.2.1).mono ?_
        rintro e w6 ⟨v, rfl, O6, B6⟩
        have HB6 := Lib.hid (below_call HB1.out B6)
        have HSZ := Lib.hid HB1.out.size
        obtain ⟨⟨ra, rl, rc⟩, rfl, hl6, R6⟩ := O6.rows
        have HF6 : Hid (MovedI ls lo hi fs ts t r w (.returned (.slice ra rl rc)) w6) := Lib.hid (by
          simp only at hl6 R6
          refine ⟨⟨ra, rl, rc⟩, rfl, by rw [HPS.out.2.2.2.2, rowsA_len]; exact hl6, ?_, by rw [HPS.out.2.2.2.2]; exact R6, HB6.out⟩
          rw [hl6]
          rcases O6 with q | ⟨g, b, cap, h1, h2, h3, h4⟩
          · exact .inl (by rw [hl6] at q; exact q)
          · exact .inr ⟨g, b, cap, by rw [hl6] at h1; exact h1, h2, World.ownsRow_down h3 HSZ.out, by rw [hl6] at h4; exact World.ownsRow_down h4 HSZ.out⟩)
        clear O6 R6 hl6 B6 HB1 O5
        go_wp2
        go_ret
        exact HF6.out
      · rw [decide_eq_false ht]
        have HN := Lib.hid (show ¬ okBoth ls lo hi fs ts from fun k => ht k.2)
        clear ht hf hok
        have HZ := Lib.hid (moveV_out (ls := ls) (lo := lo) (hi := hi) (fs := fs) (ts := ts) (t := t) (r := r) fun k => HN.out k.1)
        go_wp2
        go_ret
        exact ⟨⟨none, 0, 0⟩, rfl, by rw [HZ.out]; rfl, .inl ⟨rfl, rfl⟩, by rw [HZ.out]; exact ⟨rfl, .inl rfl⟩, HB1.out⟩
    · rw [decide_eq_false hf]
      have HN := Lib.hid (show ¬ okBoth ls lo hi fs ts from fun k => hf k.1)
      clear hf hok hc
      have HZ := Lib.hid (moveV_out (ls := ls) (lo := lo) (hi := hi) (fs := fs) (ts := ts) (t := t) (r := r) fun k => HN.out k.1)
      go_wp2
      go_ret
      exact ⟨⟨none, 0, 0⟩, rfl, by rw [HZ.out]; rfl, .inl ⟨rfl, rfl⟩, by rw [HZ.out]; exact ⟨rfl, .inl rfl⟩, HB1.out⟩
  · have HN := Lib.hid (show ¬ okBoth ls lo hi fs ts from fun k => hok k.1.1)
    have HB1 := Lib.hid (below_call HB.out B1)
    clear B1 hx hy hz hok
    go_wp2_with fail
    refine (allowsNil a _).mono ?_
    rintro e w' ⟨rfl, rfl⟩
    have HZ := Lib.hid (moveV_out (ls := ls) (lo := lo) (hi := hi) (fs := fs) (ts := ts) (t := t) (r := r) fun k => HN.out k.1)
    go_wp2
    go_ret
    exact ⟨⟨none, 0, 0⟩, rfl, by rw [HZ.out]; rfl, .inl ⟨rfl, rfl⟩, by rw [HZ.out]; exact ⟨rfl, .inl rfl⟩, HB1.out⟩
end Go.Proofs.Ytcoaahfnbgkofaa
