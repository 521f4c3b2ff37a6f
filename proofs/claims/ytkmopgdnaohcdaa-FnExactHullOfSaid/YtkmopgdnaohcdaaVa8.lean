/- slices.Values and slices.Collect at points. -/
import Derived.Test.YtkmopgdnaohcdaaEd8
namespace Go.Proofs.Ytkmopgdnaohcdaa
set_option maxRecDepth 100000
open Go.RowKit Go.Shelf
attribute [local go_sem] Oper.semAt_some
abbrev encP8 (x : P2) : Array Value := #[pt x.1 x.2]
/-- What the iterator reads. -/
structure VaAt (w : World) (Bp : Nat) (a : Option Addr) (len cap : Nat) (ps : List P2) : Prop where
  box : Cells8 w Bp #[.slice a len cap] 23
  pts : PL w a len ps
theorem VaAt.next {w w' : World} {Bp : Nat} {a : Option Addr} {len cap : Nat} {ps : List P2} (h : VaAt w Bp a len cap ps) (hb : Below w.heap.size w w') : VaAt w' Bp a len cap ps := ⟨h.box.next hb, h.pts.next hb⟩
theorem VaAt.keepB {w w' : World} {Bp : Nat} {a : Option Addr} {len cap : Nat} {ps : List P2} {W : World} (h0 : VaAt w Bp a len cap ps) (h : VaAt W Bp a len cap ps) (hk : Below w.heap.size W w') : VaAt w' Bp a len cap ps := by
  refine ⟨(hk.block _ h0.box.lt).trans h.box, ?_⟩
  by_cases hz : 1 ≤ len
  · obtain ⟨b, o, e2, lt, _⟩ := h0.pts.somes hz
    have q := h.pts
    rw [e2] at q ⊢
    exact q.keep hk.size (hk.block _ lt)
  · exact ⟨h.pts.1, .inl (by omega)⟩
theorem valuesC (a : Option Addr) (len cap : Nat) (ps : List P2) (w : World) (hp : PL w a len ps) :
    Calls Try.prog 95 #[.slice a len cap] w fun e w' => ∃ Bp, e = .returned (.func (.func 104) #[] #[.pointer (some ⟨Bp, 0, none⟩)]) ∧ VaAt w' Bp a len cap ps ∧ Below w.heap.size w w' := by
  have hmf : ∀ (fn : Fn) (first cap : Array Value) (w : World), (Instr.makeFunc fn first cap).run Try.prog w = .ok (.func fn first cap) w := fun _ _ _ _ => rfl
  have HB := Lib.hid (below_box w (.cells #[.slice a len cap] 23))
  have HS := Lib.hid (show VaAt (w.alloc (.cells #[.slice a len cap] 23)) w.heap.size a len cap ps from ⟨Cells8.new w _ _, hp.next HB.out⟩)
  clear hp
  go_enter Try.func95, Try.ntmps95
  go_wp2
  go_ret
  exact ⟨w.heap.size, rfl, HS.out, HB.out⟩
set_option maxHeartbeats 2000000 in
theorem valuesStops (Bp : Nat) (a : Option Addr) (len cap : Nat) (ps : List P2) (w : World) (hS : VaAt w Bp a len cap ps) (hl : len ≤ 1000) (n : Nat) :
    SeqStopsK Fence.wide n Try.prog 104 #[.pointer (some ⟨Bp, 0, none⟩)] encP8 (Below w.heap.size) (fun ys => ys = ps) (fun _ => True) ps.length w := by
  intro l J Jx W hW hJ _ hY h0
  have HY := Lib.hid hY
  have HJ := Lib.hid (fun s A B (hs : J s A) (hb : Below A.heap.size A B) => abides8 hJ hs hb)
  have HW0 := Lib.hid (hS.next hW)
  have HS0 := Lib.hid hS
  have HWW := Lib.hid hW
  have H00 := Lib.hid (show J (ps.take 0) W by rw [List.take_zero]; exact h0)
  have HLE := Lib.hid hS.pts.1
  clear hY hJ hS hW h0
  refine callsIn_of_wp Try.func104 rfl trivial ?_ rfl
  simp only [Try.ntmps104, List.size_toArray, List.length_cons, List.length_nil, Nat.reduceAdd, Nat.reduceSub, Array.replicate_succ, Array.replicate_zero, List.push_toArray, List.append_toArray, List.nil_append, List.cons_append]
  have s0 := HW0.out.box.cell (i := 0) rfl
  gi_wp2
  clear s0
  gi_loopw [7] (fun i wr => ∃ j : Nat, j ≤ len ∧ i = .int .i64 (j : Int) ∧ Hid (J (ps.take j) wr) ∧ Hid (VaAt wr Bp a len cap ps)) (fun i _ => len - (intOf i).toNat)
  case atStart => exact ⟨0, Nat.zero_le _, rfl, H00, HW0⟩
  case round =>
    obtain ⟨j, hj, rfl, HJ1, HW1⟩ := hrel
    clear H00 HW0
    by_cases hlt : j < len
    · have j1 : (0 : Int) ≤ (j : Int) := by omega
      have j2 : (j : Int) < (len : Int) := by omega
      obtain ⟨b, o, rfl, lt, hc⟩ := HW1.out.pts.somes (by omega)
      have d1 := (hc j hlt).1
      have d2 := (hc j hlt).2
      have HNX := Lib.hid (show ps.take (j + 1) = ps.take j ++ [cor ps j] by
        rw [List.take_add_one, List.getElem?_eq_getElem (by rw [← HLE.out]; exact hlt)]
        unfold cor
        rw [List.getD_eq_getElem?_getD, List.getElem?_eq_getElem (by rw [← HLE.out]; exact hlt)]; rfl)
      have HLL := Lib.hid (show (ps.take j).length < ps.length by have := HLE.out; rw [List.length_take]; omega)
      clear hc lt
      have HWb := Lib.hid (HW1.out.next (below_box wr (.cells #[.int .i64 (cor ps j).1, .int .i64 (cor ps j).2] 28)))
      have HJb := Lib.hid (HJ.out _ _ _ HJ1.out (below_box wr (.cells #[.int .i64 (cor ps j).1, .int .i64 (cor ps j).2] 28)))
      obtain ⟨fn, tmps, assign, body, hy, hR⟩ := HY.out _ (cor ps j) (wr.alloc (.cells #[.int .i64 (cor ps j).1, .int .i64 (cor ps j).2] 28)) HJb.out HLL.out
      generalize cor ps j = c at *
      gi_wp2
      refine ⟨(by intro h; cases h), ?_⟩
      refine (said8 hR).mono ?_
      rintro e w6 ⟨bb, rfl, S6⟩
      cases bb with
      | true =>
        have HS6 : Hid (J (ps.take (j + 1)) w6 ∧ Below w.heap.size (wr.alloc (.cells #[.int .i64 c.1, .int .i64 c.2] 28)) w6) := Lib.hid (by
          rw [HNX.out]
          rcases S6.out with ⟨_, h1, h2⟩ | ⟨h1, _⟩
          · exact ⟨h1, h2⟩
          · cases h1)
        have HW6 := Lib.hid (HS0.out.keepB HWb.out HS6.out.2)
        clear S6 hy hR d1 d2
        gi_wp2
        go_roundw
        case rel => exact ⟨j + 1, by omega, by congr 1, Lib.hid HS6.out.1, HW6⟩
        case measure => simp [intOf]; omega
      | false =>
        have HS6 : Hid (Jx (ps.take j ++ [c]) w6) := Lib.hid (by
          rcases S6.out with ⟨h1, _⟩ | ⟨_, h1⟩
          · cases h1
          · exact h1)
        clear S6 hy hR d1 d2
        gi_wp2
        refine bodyPost_ret (results_none rfl _ _ _) rfl ?_
        exact ⟨⟨_, rfl⟩, .inr ⟨_, trivial, HS6.out⟩⟩
    · obtain rfl : j = len := by omega
      have HE := Lib.hid (show ps.take j = ps from List.take_of_length_le (by rw [← HLE.out]; omega))
      gi_wp2
      go_end0
      exact ⟨⟨_, rfl⟩, .inl ⟨_, rfl, by have := HJ1.out; rw [HE.out] at this; exact this⟩⟩
theorem seqTypes8 : (23 : Nat) ≠ 28 := by decide
/-- What collecting keeps between two rounds: the box with a slice of the call's own that reads as what has come. -/
def ApP (sz : Nat) (pre : List P2) (W : World) : Prop := ∃ v, Boxed W sz 23 v ∧ W.ownsRow sz 28 2 v pre.length (pvals pre) ∧ True
theorem apP_own (sz : Nat) : Own (ApP sz) := holdsRow_own sz sz 23 28 2 (fun pre : List P2 => pre.length) (fun pre => pvals pre) (fun _ _ => True)
theorem ApP.start (w : World) : ApP w.heap.size [] (w.alloc (.cells #[.slice none 0 0] 23)) := ⟨_, Boxed.new w _ _, World.ownsRow_nil _ _ _ _, trivial⟩
/-- A row of points of the call's own. -/
def RowP (ps : List P2) (w : World) (e : Ending) (w' : World) : Prop := ∃ s : Sl, e = .returned (.slice s.a s.len s.cap) ∧ s.len = ps.length ∧ OwnPt w' w.heap.size (.slice s.a s.len s.cap) ps ∧ Below w.heap.size w w'
set_option maxHeartbeats 2000000 in
theorem appendSeqP (gf : Nat) (lb : Array Value) (ps : List P2) (w : World) (hx : ps.length ≤ 5000) (eg : ∀ args w, (callFunc gf args).run Try.prog w = .ok (.enter gf args) w)
    (hseq : ∀ n, SeqStopsK Fence.wide n Try.prog gf lb encP8 (Below w.heap.size) (fun ys => ys = ps) (fun _ => True) ps.length w) :
    Calls Try.prog 107 #[.slice none 0 0, .func (.func gf) #[] lb] w (RowP ps w) := by
  obtain ⟨i0, hi0, hz0, hz1, hz2⟩ := info_parts infoPt6
  refine (callsIn_wide (n := 9)).1 ?_
  refine callsIn_of_wp_marks Try.func107 rfl trivial ?_ rfl
  simp only [Try.ntmps107, List.size_toArray, List.length_cons, List.length_nil, Nat.reduceAdd, Nat.reduceSub, Array.replicate_succ, Array.replicate_zero, List.push_toArray, List.append_toArray, List.nil_append, List.cons_append]
  gi_wp2
  have L0 := ApP.start w
  have hB0 : Below w.heap.size w (w.alloc (.cells #[.slice none 0 0] 23)) := below_box w _
  have hsz : (w.alloc (.cells #[.slice none 0 0] 23)).heap.size = w.heap.size + 1 := by simp
  generalize w.alloc (.cells #[.slice none 0 0] 23) = W0 at *
  refine wpIn_rangeFunc_ownH rfl (by omega) (gf := gf) (lb := lb) rfl trivial eg (hseq 8) belowK_t (belowK_b (by omega)) hB0 (fun _ => rfl)
    (fun pre W => ApP w.heap.size pre W ∧ Below w.heap.size w W)
    (fun _ _ _ => False)
    (OwnFrom.and (Own.from (apP_own _) _) (ownFrom_below (Nat.le_refl _) (by omega)))
    (fun _ _ _ _ _ hs _ _ => hs)
    ⟨L0, hB0⟩
    (fun x a' W => ∃ B1, w.heap.size + 1 ≤ B1 ∧ Cells8 W B1 #[.int .i64 x.1, .int .i64 x.2] 28 ∧ a' = { tmps := #[.slice none 0 0, .func (.func gf) #[] lb, .pointer (some ⟨w.heap.size, 0, none⟩), undef, .slice none 0 0, .pointer (some ⟨B1, 0, none⟩), .func (.func gf) #[] lb, pt x.1 x.2, undef, undef, undef, undef, undef], defers := [] })
    (fun x a' _ X Y row hs hg hr => by obtain ⟨B1, h0, h1, h2⟩ := hs; exact ⟨B1, h0, cells8_own B1 _ (fun (_ : Unit) => _) () X Y row h1 hg (fun r e => (hr r e).2), h2⟩)
    ?assign ?body ?done ?stop
  case assign =>
    rintro l pre x W K ⟨⟨v, hv, hrow, _⟩, hB1⟩ hK
    have hlt := hv.lt
    have HK := Lib.hid (hK _ _ ((KeepsOthers.alloc W (.cells #[.int .i64 x.1, .int .i64 x.2] 28)).from _) ((below_box W (.cells #[.int .i64 x.1, .int .i64 x.2] 28)).mono hB1.size) ⟨⟨v, hv.alloc _, hrow.alloc _, trivial⟩, hB1.alloc hB1.size _⟩ ⟨W.heap.size, by omega, Cells8.new W _ _, rfl⟩)
    clear hK hv hrow hB1
    gi_wp2
    exact HK.out
  case body =>
    rintro l pre x a' W hl ⟨r, hr⟩ ⟨⟨v, hv, hrow, _⟩, hB1⟩ ⟨B1, hB1l, hX, rfl⟩ hlen
    have HV := Lib.hid hv
    have HR := Lib.hid hrow
    have HB1 := Lib.hid hB1
    have HL := Lib.hid (show pre.length + 1 ≤ 5000 by omega)
    have c0 := hv.cell
    have x0 := hX.cell (i := 0) rfl
    have x1 := hX.cell (i := 1) rfl
    have HRa := Lib.hid (hrow.alloc (.cells #[.int .i64 x.1, .int .i64 x.2] 28))
    have HN := Lib.hid (two_new6 W (.int .i64 x.1) (.int .i64 x.2) 28)
    have HH := Lib.hid (show w.heap.size ≤ (W.alloc (.cells #[.int .i64 x.1, .int .i64 x.2] 28)).heap.size by have := hB1.size; simp; omega)
    have HPS := Lib.hid (pvals_snoc6 pre x)
    clear hv hrow hB1 hlen hr
    gi_wp2_with (gi_at_builtin; refine wpListIn_append_own _ rfl _ _ 23 rfl w.heap.size 28 i0 (pt 0 0) 2 16 Try.underlying23 hi0 hz0 hz1 hz2 rfl (by decide) v pre.length (pvals pre) rfl HRa.out ⟨W.heap.size, 0, none⟩ 1 1 [.int .i64 x.1, .int .i64 x.2] rfl rfl HN.out (by intro u hu; simp at hu; rcases hu with rfl | rfl <;> rfl) (by have := HL.out; unfold maxLen; omega) (by have := HL.out; omega) HH.out ?_; intro v' w3 own3 grow3 _; have HA := Lib.hid (Boxed.appended HV.out seqTypes8 HR.out HB1.out.size (Nat.le_refl _) own3 grow3); obtain ⟨g, cap, rfl⟩ := ownsRow_succ own3; have c1 := HA.out.1.cell; have f1 := HA.out.1.frozen; clear own3 grow3)
    refine ⟨HA.out.2.2.2.1.from _, HA.out.2.2.2.2, ⟨_, HA.out.2.1, ?_, trivial⟩, HB1.out.trans HA.out.2.2.2.2⟩
    rw [HPS.out, show (pre ++ [x]).length = pre.length + 1 by simp]
    exact HA.out.2.2.1
  case done =>
    rintro D ys W hD rfl ⟨⟨v, hv, hrow, _⟩, hB⟩ hK
    have HO := Lib.hid (show OwnPt W w.heap.size v ys from hrow)
    have c0 := hv.cell
    have HK := Lib.hid hK
    have HBW := Lib.hid hB
    have HD := Lib.hid hD
    clear hv hrow hB hK hD
    obtain ⟨s, rfl, hs⟩ : ∃ s : Sl, v = .slice s.a s.len s.cap ∧ s.len = ys.length := by
      rcases HO.out.2 with ⟨hv, hn⟩ | ⟨g, c, cur, hv, _⟩
      · exact ⟨⟨none, 0, 0⟩, hv, hn.symm⟩
      · exact ⟨⟨some ⟨g, 0, none⟩, ys.length, c⟩, hv, rfl⟩
    have HSL := Lib.hid hs
    clear hs
    gi_wp2
    refine ⟨by simp, .inl ⟨_, _, rfl, run_takeDeferred HK.out, ?_⟩⟩
    refine ⟨.slice s.a s.len s.cap, by simp [results, Try.results107, go_sem], s, rfl, HSL.out, ownsRow_putObj HO.out _ HK.out rfl, HBW.out.trans (belowK_b (w := w) (Nat.le_refl _) _ D _ _ (by have := HD.out; omega) HK.out rfl rfl)⟩
  case stop =>
    rintro D c pre W _ _ h _
    exact h.elim
theorem collectP (gf : Nat) (lb : Array Value) (ps : List P2) (w : World) (hx : ps.length ≤ 5000) (eg : ∀ args w, (callFunc gf args).run Try.prog w = .ok (.enter gf args) w)
    (hseq : ∀ n, SeqStopsK Fence.wide n Try.prog gf lb encP8 (Below w.heap.size) (fun ys => ys = ps) (fun _ => True) ps.length w) :
    Calls Try.prog 102 #[.func (.func gf) #[] lb] w (RowP ps w) := by
  have HC := Lib.hid (appendSeqP gf lb ps w hx eg hseq)
  clear hseq eg
  go_enter Try.func102, Try.ntmps102
  go_wp2_with fail
  refine HC.out.mono ?_
  rintro e w1 ⟨s, rfl, hs, O, B⟩
  replace hs := Lib.hid hs
  go_wp2
  go_ret
  exact ⟨s, rfl, hs.out, O, B⟩
end Go.Proofs.Ytkmopgdnaohcdaa
