/- Collecting what an iterator over whole numbers yields; the program's MotionProfile and ProfileTime. -/
import Derived.Test.YtcoaahfnbgkofaaIt5
namespace Go.Proofs.Ytcoaahfnbgkofaa
set_option maxRecDepth 100000
open Go.RowKit Go.Shelf
attribute [local go_sem] Oper.semAt_some
theorem seqTypes : (23 : Nat) ≠ 3 := by decide
/-- What collecting keeps between two rounds: the box with a slice of the call's own that reads as what has come. -/
def ApI (sz : Nat) (pre : List Int) (W : World) : Prop := ∃ v, Boxed W sz 23 v ∧ W.ownsRow sz 3 1 v pre.length (vals pre) ∧ True
theorem apI_own (sz : Nat) : Own (ApI sz) := holdsRow_own sz sz 23 3 1 (fun pre : List Int => pre.length) (fun pre => vals pre) (fun _ _ => True)
theorem ApI.start (w : World) : ApI w.heap.size [] (w.alloc (.cells #[.slice none 0 0] 23)) := ⟨_, Boxed.new w _ _, World.ownsRow_nil _ _ _ _, trivial⟩
theorem cell_one_newM (w : World) (v : Value) (t : Nat) : ∀ (j : Nat) u, [v][j]? = some u → (w.alloc (.cells #[v] t)).cell? ((⟨w.heap.size, 0, none⟩ : Addr).add j) = some u := cell_one_new' w v t
set_option maxHeartbeats 2000000 in
theorem appendSeqC (gf : Nat) (lb : Array Value) (xs : List Int) (w : World) (hx : xs.length ≤ 5000) (eg : ∀ args w, (callFunc gf args).run Try.prog w = .ok (.enter gf args) w)
    (hseq : ∀ n, SeqStopsK Fence.wide n Try.prog gf lb (fun x : Int => #[.int .i64 x]) (Below w.heap.size) (fun ys => ys = xs) (fun _ => True) xs.length w) :
    Calls Try.prog 81 #[.slice none 0 0, .func (.func gf) #[] lb] w (RowOf xs w) := by
  obtain ⟨i0, hi0, hz0, hz1, hz2⟩ := info_parts infoInt
  refine (callsIn_wide (n := 9)).1 ?_
  refine callsIn_of_wp_marks Try.func81 rfl trivial ?_ rfl
  simp only [Try.ntmps81, List.size_toArray, List.length_cons, List.length_nil, Nat.reduceAdd, Nat.reduceSub, Array.replicate_succ, Array.replicate_zero, List.push_toArray, List.append_toArray, List.nil_append, List.cons_append]
  gi_wp2
  have L0 := ApI.start w
  have hB0 : Below w.heap.size w (w.alloc (.cells #[.slice none 0 0] 23)) := below_box w _
  have hsz : (w.alloc (.cells #[.slice none 0 0] 23)).heap.size = w.heap.size + 1 := by simp
  generalize w.alloc (.cells #[.slice none 0 0] 23) = W0 at *
  refine wpIn_rangeFunc_ownH rfl (by omega) (gf := gf) (lb := lb) rfl trivial eg (hseq 8) belowK_t (belowK_b (by omega)) hB0 (fun _ => rfl)
    (fun pre W => ApI w.heap.size pre W ∧ Below w.heap.size w W)
    (fun _ _ _ => False)
    (OwnFrom.and (Own.from (apI_own _) _) (ownFrom_below (Nat.le_refl _) (by omega)))
    (fun _ _ _ _ _ hs _ _ => hs)
    ⟨L0, hB0⟩
    (fun x a' _ => a' = { tmps := #[.slice none 0 0, .func (.func gf) #[] lb, .pointer (some ⟨w.heap.size, 0, none⟩), undef, .slice none 0 0, .int .i64 x, .func (.func gf) #[] lb, .int .i64 x, undef, undef, undef, undef, undef], defers := [] })
    (fun x a' _ X Y row hs hg hr => hs)
    ?assign ?body ?done ?stop
  case assign =>
    rintro l pre x W K ⟨hL, hB1⟩ hK
    gi_wp2
    exact hK _ _ (KeepsFrom.refl _ _) (Below.refl _ _) ⟨hL, hB1⟩ rfl
  case body =>
    rintro l pre x a' W hl ⟨r, hr⟩ ⟨⟨v, hv, hrow, _⟩, hB1⟩ rfl hlen
    have HV := Lib.hid hv
    have HR := Lib.hid hrow
    have HB1 := Lib.hid hB1
    have HL := Lib.hid (show pre.length + 1 ≤ 5000 by omega)
    have c0 := hv.cell
    have HRa := Lib.hid (hrow.alloc (.cells #[.int .i64 x] 3))
    have HN := Lib.hid (cell_one_newM W (.int .i64 x) 3)
    have HH := Lib.hid (show w.heap.size ≤ (W.alloc (.cells #[.int .i64 x] 3)).heap.size by have := hB1.size; simp; omega)
    clear hv hrow hB1 hlen hr
    gi_wp2_with (gi_at_builtin; refine wpListIn_append_own _ rfl _ _ 23 rfl w.heap.size 3 i0 (.int .i64 0) 1 8 Try.underlying23 hi0 hz0 hz1 hz2 rfl (by decide) v pre.length (vals pre) rfl HRa.out ⟨W.heap.size, 0, none⟩ 1 1 [.int .i64 x] rfl rfl HN.out (by intro u hu; simp at hu; subst hu; rfl) (by have := HL.out; unfold maxLen; omega) (by have := HL.out; omega) HH.out ?_; intro v' w3 own3 grow3 _; have HA := Lib.hid (Boxed.appended HV.out seqTypes HR.out HB1.out.size (Nat.le_refl _) own3 grow3); obtain ⟨g, cap, rfl⟩ := ownsRow_succ own3; have c1 := HA.out.1.cell; have f1 := HA.out.1.frozen; clear own3 grow3)
    refine ⟨HA.out.2.2.2.1.from _, HA.out.2.2.2.2, ⟨_, HA.out.2.1, ?_, trivial⟩, HB1.out.trans HA.out.2.2.2.2⟩
    rw [vals_snoc, show (pre ++ [x]).length = pre.length + 1 by simp]
    exact HA.out.2.2.1
  case done =>
    rintro D ys W hD rfl ⟨⟨v, hv, hrow, _⟩, hB⟩ hK
    have HO := Lib.hid (show OwnI W w.heap.size v ys from hrow)
    obtain ⟨s, rfl, hs, _⟩ := HO.out.slv
    have c0 := hv.cell
    have HK := Lib.hid hK
    have HBW := Lib.hid hB
    have HD := Lib.hid hD
    have HSL := Lib.hid hs
    clear hv hrow hB hK hD hs
    gi_wp2
    refine ⟨by simp, .inl ⟨_, _, rfl, run_takeDeferred HK.out, ?_⟩⟩
    refine ⟨.slice s.a s.len s.cap, by simp [results, Try.results81, go_sem], s, rfl, HSL.out, ownsRow_putObj HO.out _ HK.out rfl, HBW.out.trans (belowK_b (w := w) (Nat.le_refl _) _ D _ _ (by have := HD.out; omega) HK.out rfl rfl)⟩
  case stop =>
    rintro D c pre W _ _ h _
    exact h.elim
theorem collectC (gf : Nat) (lb : Array Value) (xs : List Int) (w : World) (hx : xs.length ≤ 5000) (eg : ∀ args w, (callFunc gf args).run Try.prog w = .ok (.enter gf args) w)
    (hseq : ∀ n, SeqStopsK Fence.wide n Try.prog gf lb (fun x : Int => #[.int .i64 x]) (Below w.heap.size) (fun ys => ys = xs) (fun _ => True) xs.length w) :
    Calls Try.prog 73 #[.func (.func gf) #[] lb] w (RowOf xs w) := by
  have HC := Lib.hid (appendSeqC gf lb xs w hx eg hseq)
  clear hseq eg
  go_enter Try.func73, Try.ntmps73
  go_wp2_with fail
  refine HC.out.mono ?_
  rintro e w1 ⟨s, rfl, hs, O, B⟩
  replace hs := Lib.hid hs
  go_wp2
  go_ret
  exact ⟨s, rfl, hs.out, O, B⟩
theorem RowOf.mono {zs : List Int} {w w1 : World} {e : Ending} {w' : World} (h : RowOf zs w1 e w') (hb : Below w.heap.size w w1) : RowOf zs w e w' := by
  obtain ⟨s, he, hs, O, B⟩ := h
  exact ⟨s, he, hs, O.mono hb.size, below_call hb B⟩
theorem RowOf.nil (w w1 : World) (hb : Below w.heap.size w w1) : RowOf [] w (.returned (.slice none 0 0)) w1 := ⟨⟨none, 0, 0⟩, rfl, rfl, World.ownsRow_nil _ _ _ _, hb⟩
theorem implMotionProfile (d t r : Int) (w : World) :
    Calls Try.prog 47 #[.int .i64 d, .int .i64 t, .int .i64 r] w (RowOf (profV d t r) w) := by
  by_cases h3 : (1 ≤ t ∧ t ≤ 200) ∧ (1 ≤ r ∧ r ≤ 50)
  · by_cases h1 : 0 ≤ d ∧ d ≤ 5000
    · have HM := Lib.hid (show okMove d t r from ⟨h1, h3⟩)
      have HL := Lib.hid (show (profL t r 0 d).length ≤ 5000 by rw [← profV_in HM.out]; exact profV_len d t r)
      rw [profV_in HM.out]
      go_enter Try.func47, Try.ntmps47
      go_wp2_with fail
      refine (driveYes t r _ h3.1.1 h3.1.2 h3.2.1 h3.2.2).mono ?_
      rintro e w1 ⟨rfl, D1, B1⟩
      have HB := Lib.hid B1
      have HD := Lib.hid D1
      clear D1 B1
      go_wp2_with fail
      refine (dist_yes d _ h1.1 h1.2).mono ?_
      rintro e w' ⟨rfl, rfl⟩
      go_wp2_with fail
      refine (speedsC _ d t r _ HD.out).mono ?_
      rintro e w2 ⟨Bd, Bp, rfl, S2, B2, _, _⟩
      have HB2 := Lib.hid (below_call HB.out B2)
      have HS2 := Lib.hid S2
      clear S2 B2 HB HD
      go_wp2_with fail
      refine (collectC _ _ (profL t r 0 d) _ HL.out (fun args w => by kernel_rfl) (fun n => speedsStops Bd Bp _ d t r _ HS2.out HM.out n)).mono ?_
      rintro e w3 ⟨s, rfl, hs, O, B⟩
      have HF := Lib.hid (show RowOf (profL t r 0 d) w (.returned (.slice s.a s.len s.cap)) w3 from RowOf.mono ⟨s, rfl, hs, O, B⟩ HB2.out)
      clear hs O B
      go_wp2
      go_ret
      exact HF.out
    · rw [profV_out (fun k => h1 k.1)]
      go_enter Try.func47, Try.ntmps47
      go_wp2_with fail
      refine (driveYes t r _ h3.1.1 h3.1.2 h3.2.1 h3.2.2).mono ?_
      rintro e w1 ⟨rfl, D1, B1⟩
      have HB := Lib.hid B1
      clear D1 B1
      go_wp2_with fail
      refine (dist_no d _ h1).mono ?_
      rintro e w' ⟨rfl, rfl⟩
      go_wp2
      go_ret
      exact RowOf.nil _ _ HB.out
  · rw [profV_out (fun k => h3 k.2)]
    go_enter Try.func47, Try.ntmps47
    go_wp2_with fail
    refine (driveNo t r _ h3).mono ?_
    rintro e w1 ⟨rfl, rfl⟩
    go_wp2
    go_ret
    exact RowOf.nil _ _ (Below.refl _ _)
end Go.Proofs.Ytcoaahfnbgkofaa
