/- The program's ProfileTime: counting what the iterator yields. -/
import Derived.Test.YtcoaahfnbgkofaaAp5
namespace Go.Proofs.Ytcoaahfnbgkofaa
set_option maxRecDepth 100000
open Go.RowKit Go.Shelf
attribute [local go_sem] Oper.semAt_some
/-- What lay below n lies as it lay, but for block B. -/
def KeepBut (n B : Nat) (W W' : World) : Prop := W.heap.size ≤ W'.heap.size ∧ ∀ k, k < n → k ≠ B → W'.heap[k]? = W.heap[k]?
theorem KeepBut.trans {n B : Nat} {X Y Z : World} (h : KeepBut n B X Y) (k : KeepBut n B Y Z) : KeepBut n B X Z := ⟨Nat.le_trans h.1 k.1, fun i hi hne => (k.2 i hi hne).trans (h.2 i hi hne)⟩
theorem KeepBut.refl (n B : Nat) (W : World) : KeepBut n B W W := ⟨Nat.le_refl _, fun _ _ _ => rfl⟩
theorem KeepBut.set (n B : Nat) (W : World) (v : Value) : KeepBut n B W (W.setCell ⟨B, 0, none⟩ v) := ⟨(KeepsOthers.setCell W _ v).size, fun k _ hne => Below.heap_setCell W ⟨B, 0, none⟩ v k hne⟩
theorem KeepBut.put {n B : Nat} (W : World) (l : Nat) (o o' : Obj) (hl : n ≤ l) (_h : W.heap[l]? = some o) : KeepBut n B W (W.putObj l o') := ⟨by simp, fun k hk _ => World.putObj_heap_other (by omega)⟩
theorem cntI_own (B : Nat) : Own (fun (pre : List Int) W => Boxed W B 3 (.int .i64 (pre.length : Int))) := boxed_own B 3 (fun pre : List Int => .int .i64 (pre.length : Int))
set_option maxHeartbeats 2000000 in
theorem profileTimeIn (d t r : Int) (w : World) (hm : okMove d t r) :
    Calls Try.prog 54 #[.int .i64 d, .int .i64 t, .int .i64 r] w fun e w' => e = .returned (.int .i64 ((profL t r 0 d).length : Int)) ∧ Below w.heap.size w w' := by
  refine (callsIn_wide (n := 9)).1 ?_
  have HM := Lib.hid hm
  have HL := Lib.hid (show (profL t r 0 d).length ≤ 5000 by rw [← profV_in hm]; exact profV_len d t r)
  obtain ⟨h1, h3⟩ := hm
  refine callsIn_of_wp_marks Try.func54 rfl trivial ?_ rfl
  simp only [Try.ntmps54, List.size_toArray, List.length_cons, List.length_nil, Nat.reduceAdd, Nat.reduceSub, Array.replicate_succ, Array.replicate_zero, List.push_toArray, List.append_toArray, List.nil_append, List.cons_append]
  gi_wp2
  refine ⟨trivial, ?_⟩
  refine (callsIn_wide.2 (driveYes t r _ h3.1.1 h3.1.2 h3.2.1 h3.2.2)).mono ?_
  rintro e w1 ⟨rfl, D1, B1⟩
  have HB := Lib.hid B1
  have HD := Lib.hid D1
  clear D1 B1
  gi_wp2
  refine ⟨trivial, ?_⟩
  refine (callsIn_wide.2 (dist_yes d _ h1.1 h1.2)).mono ?_
  rintro e w' ⟨rfl, rfl⟩
  gi_wp2
  have HDa := Lib.hid (HD.out.next (below_box w1 (.cells #[.int .i64 0] 3)))
  have HBa := Lib.hid (below_call HB.out (below_box w1 (.cells #[.int .i64 0] 3)))
  have HXa := Lib.hid (Boxed.new w1 3 (.int .i64 0))
  have hb1 : w.heap.size < w1.heap.size := HD.out.lt
  have hb2 := HB.out.size
  have hza : (w1.alloc (.cells #[.int .i64 0] 3)).heap.size = w1.heap.size + 1 := by simp
  generalize w1.alloc (.cells #[.int .i64 0] 3) = w2 at *
  obtain ⟨Bs, hBs⟩ : ∃ Bs, w1.heap.size = Bs := ⟨_, rfl⟩
  rw [hBs] at HXa hza hb1 ⊢
  clear HB HD hb2 hBs
  refine ⟨trivial, ?_⟩
  refine (callsIn_wide.2 (speedsC _ d t r _ HDa.out)).mono ?_
  rintro e w3 ⟨Bd, Bp, rfl, S3, B3, k1, k2⟩
  have HS3 := Lib.hid S3
  have hB0 : Below w.heap.size w w3 := below_call HBa.out B3
  have L0 : Boxed w3 Bs 3 (.int .i64 (([] : List Int).length : Int)) := (B3.block Bs HXa.out.lt).trans HXa.out
  have hs3 := B3.size
  have e1 : Bd ≠ Bs := by omega
  have e2 : Bp ≠ Bs := by omega
  have e3 : w.heap.size ≠ Bs := by omega
  clear S3 B3 k1 k2 HBa HXa HDa
  gi_wp2
  refine wpIn_rangeFunc_ownH rfl (by omega) (gf := 82) (lb := #[.pointer (some ⟨Bd, 0, none⟩), .pointer (some ⟨Bp, 0, none⟩)]) rfl trivial (fun args w => by kernel_rfl)
    (speedsStopsK (KeepBut w3.heap.size Bs) Bd Bp w.heap.size d t r w3 (fun _ _ hk h => h.keep hk.1 (hk.2 _ HS3.out.ltd e1) (hk.2 _ HS3.out.ltp e2) (hk.2 _ HS3.out.dr.lt e3)) HS3.out HM.out 8)
    KeepBut.trans (fun W l o o' hl h _ _ => KeepBut.put W l o o' hl h) (Below.refl _ _) (fun _ => rfl)
    (fun pre W => Boxed W Bs 3 (.int .i64 (pre.length : Int)) ∧ Below w.heap.size w W)
    (fun _ _ _ => False)
    (OwnFrom.and (Own.from (cntI_own _) _) (ownFrom_below (Nat.le_refl _) (by omega)))
    (fun _ _ _ _ _ hs _ _ => hs)
    ⟨L0, hB0⟩
    (fun x a' _ => a' = { tmps := #[.int .i64 d, .int .i64 t, .int .i64 r, undef, undef, undef, .int .i64 0, .pointer (some ⟨w.heap.size, 0, none⟩), .pointer (some ⟨Bs, 0, none⟩), .int .i64 t, .int .i64 r, .pointer (some ⟨w.heap.size, 0, none⟩), .pointer (some ⟨w.heap.size, 0, none⟩), .bool false, .bool false, .int .i64 d, .bool true, .bool false, .bool false, .pointer (some ⟨w.heap.size, 0, none⟩), .int .i64 d, .func (.func 82) #[] #[.pointer (some ⟨Bd, 0, none⟩), .pointer (some ⟨Bp, 0, none⟩)], .int .i64 x, undef, undef, undef], defers := [] })
    (fun x a' _ X Y row hs hg hr => hs)
    ?assign ?body ?done ?stop
  case assign =>
    rintro l pre x W K ⟨hL, hB1⟩ hK
    gi_wp2
    exact hK _ _ (KeepsFrom.refl _ _) (KeepBut.refl _ _ _) ⟨hL, hB1⟩ (by first | kernel_rfl | simp)
  case body =>
    rintro l pre x a' W hl ⟨r', hr⟩ ⟨hv, hB1⟩ rfl hlen
    have HV := Lib.hid hv
    have HB1 := Lib.hid hB1
    have c0 := hv.cell
    have f0 := hv.frozen
    have hlen2 : pre.length < 5000 := by have := HL.out; omega
    clear hv hB1 hlen hr
    gi_wp2
    refine ⟨(KeepsOthers.setCell _ _ _).from _, KeepBut.set _ _ _ _, ?_, HB1.out.setCell (p := ⟨Bs, 0, none⟩) (by show w.heap.size ≤ Bs; omega) _⟩
    rw [show ((pre ++ [x]).length : Int) = (pre.length : Int) + 1 by simp]
    exact HV.out.set _
  case done =>
    rintro D ys W hD rfl ⟨hv, hB⟩ hK
    have c0 := hv.cell
    have HK := Lib.hid hK
    have HBW := Lib.hid hB
    have HD := Lib.hid hD
    clear hv hB hK hD
    gi_wp2
    refine ⟨by simp, .inl ⟨_, _, rfl, run_takeDeferred HK.out, ?_⟩⟩
    refine ⟨.int .i64 ((profL t r 0 d).length : Int), by simp [results, Try.results54, go_sem], rfl, HBW.out.trans (belowK_b (w := w) (Nat.le_refl _) _ D _ _ (by have := HD.out; omega) HK.out rfl rfl)⟩
  case stop =>
    rintro D c pre W _ _ h _
    exact h.elim
theorem implProfileTime (d t r : Int) (w : World) :
    Calls Try.prog 54 #[.int .i64 d, .int .i64 t, .int .i64 r] w fun e w' => e = .returned (.int .i64 (timeV d t r)) ∧ Below w.heap.size w w' := by
  by_cases h3 : (1 ≤ t ∧ t ≤ 200) ∧ (1 ≤ r ∧ r ≤ 50)
  · by_cases h1 : 0 ≤ d ∧ d ≤ 5000
    · rw [timeV_in ⟨h1, h3⟩]
      exact profileTimeIn d t r w ⟨h1, h3⟩
    · have HE := Lib.hid (timeV_out (d := d) (t := t) (r := r) (fun k => h1 k.1))
      go_enter Try.func54, Try.ntmps54
      go_wp2_with fail
      refine (driveYes t r _ h3.1.1 h3.1.2 h3.2.1 h3.2.2).mono ?_
      rintro e w1 ⟨rfl, D1, B1⟩
      have HB := Lib.hid B1
      clear D1 B1
      go_wp2_with fail
      refine (dist_no d _ h1).mono ?_
      rintro e w' ⟨rfl, rfl⟩
      go_wp2
      go_ret
      exact ⟨ret_int HE.out.symm, HB.out⟩
  · have HE := Lib.hid (timeV_out (d := d) (t := t) (r := r) (fun k => h3 k.2))
    go_enter Try.func54, Try.ntmps54
    go_wp2_with fail
    refine (driveNo t r _ h3).mono ?_
    rintro e w1 ⟨rfl, rfl⟩
    go_wp2
    go_ret
    exact ⟨ret_int HE.out.symm, Below.refl _ _⟩
end Go.Proofs.Ytcoaahfnbgkofaa
