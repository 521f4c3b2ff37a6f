/- The program's generic minimum over an iterator that reads boxes of its own between two rounds. -/
import Derived.Test.YtolkihibjabmhaaDoorIm6
namespace Go.Proofs.YtolkihibjabmhaaDoor
set_option maxRecDepth 100000
open Go.RowKit Go.Shelf
attribute [local go_sem] Oper.semAt_some
/-- What lay below n lies as it lay, and so do the cells that lay at or above T. -/
structure KeepC (n T : Nat) (W W' : World) : Prop where
  low : Below n W W'
  cells : ∀ k o, T ≤ k → W.heap[k]? = some o → o.isCells = true → W'.heap[k]? = some o
theorem KeepC.trans {n T : Nat} {A B C : World} (h : KeepC n T A B) (k : KeepC n T B C) : KeepC n T A C :=
  ⟨h.low.trans k.low, fun i o hi ho hc => k.cells i o hi (h.cells i o hi ho hc) hc⟩
theorem KeepC.of {n T : Nat} {W W' : World} (h : Below W.heap.size W W') (hn : n ≤ W.heap.size) : KeepC n T W W' :=
  ⟨h.mono hn, fun k _ _ ho _ => (h.block k (Array.getElem?_eq_some_iff.1 ho).1).trans ho⟩
theorem KeepC.set {n T b : Nat} (W : World) (hn : n ≤ b) (hT : b < T) (j : Nat) (v : Value) : KeepC n T W (W.setCell ⟨b, j, none⟩ v) :=
  ⟨(Below.refl n W).setCell (p := ⟨b, j, none⟩) hn v, fun k _ hk ho _ => (Below.heap_setCell W ⟨b, j, none⟩ v k (by show k ≠ b; omega)).trans ho⟩
theorem keepC6 {n T b : Nat} (W : World) (hn : n ≤ b) (hT : b < T) (c : Cand) : KeepC n T W (set6 W b c) :=
  (((((KeepC.set W hn hT 0 _).trans (KeepC.set _ hn hT 1 _)).trans (KeepC.set _ hn hT 2 _)).trans (KeepC.set _ hn hT 3 _)).trans (KeepC.set _ hn hT 4 _)).trans (KeepC.set _ hn hT 5 _)
theorem keepC_b {n T : Nat} {w : World} (hn : n ≤ w.heap.size) (W : World) (l : Nat) (o o' : Obj) (hl : w.heap.size ≤ l) (h : W.heap[l]? = some o) (hc : o.isCells = false) (hw : o.isWalk = false) : KeepC n T W (W.putObj l o') :=
  ⟨belowK_b hn W l o o' hl h hc hw, fun k u _ hu huc => (World.putObj_heap_other (by rintro rfl; rw [h] at hu; cases hu; rw [hc] at huc; cases huc)).trans hu⟩
set_option maxHeartbeats 4000000 in
theorem leastK (gf : Nat) (lb : Array Value) (xs : List Cand) (w : World) (eg : ∀ args w, (callFunc gf args).run Tryd.prog w = .ok (.enter gf args) w)
    (hseq : ∀ n (W0 : World), Below w.heap.size w W0 → W0.heap.size = w.heap.size + 4 → SeqStopsK Fence.wide n Tryd.prog gf lb (fun c : Cand => #[cv c]) (KeepC w.heap.size (w.heap.size + 4)) (fun ys => ys = xs) (fun _ => True) xs.length W0) :
    Calls Tryd.prog 74 #[.func (.func gf) #[] lb, .func (.func 76) #[] #[]] w fun e w' => e = .returned (cv (bestC xs)) ∧ Below w.heap.size w w' := by
  refine (callsIn_wide (n := 9)).1 ?_
  refine callsIn_of_wp_marks Tryd.func74 rfl trivial ?_ rfl
  simp only [Tryd.ntmps74, List.size_toArray, List.length_cons, List.length_nil, Nat.reduceAdd, Nat.reduceSub, Array.replicate_succ, Array.replicate_zero, List.push_toArray, List.append_toArray, List.nil_append, List.cons_append]
  gi_wp2
  have C0 := ((((Cells.new w #[.func (.func 76) #[] #[]] 98).alloc (ccells ⟨0, 0, 0, 0, 0, 0⟩)).alloc (ccells ⟨0, 0, 0, 0, 0, 0⟩)).alloc (.cells #[.bool false] 4))
  have C1 := (((Cells.new (w.alloc (.cells #[.func (.func 76) #[] #[]] 98)) (carr ⟨0, 0, 0, 0, 0, 0⟩) 93).alloc (ccells ⟨0, 0, 0, 0, 0, 0⟩)).alloc (.cells #[.bool false] 4))
  have C2 := ((Cells.new ((w.alloc (.cells #[.func (.func 76) #[] #[]] 98)).alloc (ccells ⟨0, 0, 0, 0, 0, 0⟩)) (carr ⟨0, 0, 0, 0, 0, 0⟩) 93).alloc (.cells #[.bool false] 4))
  have C3 := (Cells.new (((w.alloc (.cells #[.func (.func 76) #[] #[]] 98)).alloc (ccells ⟨0, 0, 0, 0, 0, 0⟩)).alloc (ccells ⟨0, 0, 0, 0, 0, 0⟩)) #[.bool false] 4)
  simp only [World.size_alloc] at C1 C2 C3
  have hB0 : Below w.heap.size w ((((w.alloc (.cells #[.func (.func 76) #[] #[]] 98)).alloc (ccells ⟨0, 0, 0, 0, 0, 0⟩)).alloc (ccells ⟨0, 0, 0, 0, 0, 0⟩)).alloc (.cells #[.bool false] 4)) := below_box4 w _ _ _ _
  have hsz : ((((w.alloc (.cells #[.func (.func 76) #[] #[]] 98)).alloc (ccells ⟨0, 0, 0, 0, 0, 0⟩)).alloc (ccells ⟨0, 0, 0, 0, 0, 0⟩)).alloc (.cells #[.bool false] 4)).heap.size = w.heap.size + 1 + 1 + 1 + 1 := by simp
  have L0 : LeastI w.heap.size [] _ := ⟨C2, C3, C0, C1⟩
  obtain ⟨W0, hW0⟩ : ∃ W0, (((w.alloc (.cells #[.func (.func 76) #[] #[]] 98)).alloc (ccells ⟨0, 0, 0, 0, 0, 0⟩)).alloc (ccells ⟨0, 0, 0, 0, 0, 0⟩)).alloc (.cells #[.bool false] 4) = W0 := ⟨_, rfl⟩
  rw [hW0] at L0 hB0 hsz ⊢
  clear hW0 C0 C1 C2 C3
  refine wpIn_rangeFunc_ownH rfl (by omega) (gf := gf) (lb := lb) rfl trivial eg (hseq 8 W0 hB0 (by omega)) KeepC.trans (keepC_b (by omega)) (Below.refl _ _) (fun _ => rfl)
    (fun pre W => LeastI w.heap.size pre W ∧ Below w.heap.size w W)
    (fun _ _ _ => False)
    (OwnFrom.and (Own.from (leastI_own _) _) (ownFrom_below (Nat.le_refl _) (by omega)))
    (fun _ _ _ _ _ hs _ _ => hs)
    ⟨L0, hB0⟩
    (fun x a' W => ∃ Bx, w.heap.size + 1 + 1 + 1 < Bx ∧ Cells W Bx (carr x) 93 ∧ a' = { tmps := #[.func (.func gf) #[] lb, .func (.func 76) #[] #[], undef, .pointer (some ⟨w.heap.size, 0, none⟩), .pointer (some ⟨w.heap.size + 1, 0, none⟩), .pointer (some ⟨w.heap.size + 1 + 1, 0, none⟩), .pointer (some ⟨w.heap.size + 1 + 1 + 1, 0, none⟩), .pointer (some ⟨Bx, 0, none⟩), .func (.func gf) #[] lb, cv x, undef, undef, undef, undef, undef, undef, undef, undef, undef, undef, undef], defers := [] })
    (fun x a' _ X Y row hs hg hr => by obtain ⟨Bx, h1, h2, h3⟩ := hs; exact ⟨Bx, h1, cells_own Bx _ (fun (_ : Unit) => carr x) () X Y row h2 hg (fun r e => (hr r e).2), h3⟩)
    ?assign ?body ?done ?stop
  case assign =>
    rintro l pre x W K ⟨hL, hB1⟩ hK
    gi_wp2
    exact hK _ _ ((KeepsOthers.alloc _ _).from _) (KeepC.of (below_box W _) hB1.size) ⟨hL.next (below_box _ _), hB1.alloc hB1.size _⟩ ⟨W.heap.size, hL.found.lt, Cells.new W _ _, rfl⟩
  case body =>
    rintro l pre x a' W hl ⟨r, hr⟩ ⟨hL, hB1⟩ ⟨Bx, hBx, hX, rfl⟩ hlen
    have HL := Lib.hid hL
    have HX := Lib.hid hX
    have x0 := hX.cell (i := 0) rfl
    have x1 := hX.cell (i := 1) rfl
    have x2 := hX.cell (i := 2) rfl
    have x3 := hX.cell (i := 3) rfl
    have x4 := hX.cell (i := 4) rfl
    have x5 := hX.cell (i := 5) rfl
    have b0 := hL.best.cell (i := 0) rfl
    have b1 := hL.best.cell (i := 1) rfl
    have b2 := hL.best.cell (i := 2) rfl
    have b3 := hL.best.cell (i := 3) rfl
    have b4 := hL.best.cell (i := 4) rfl
    have b5 := hL.best.cell (i := 5) rfl
    have f0 := hL.found.cell (i := 0) rfl
    have c0 := hL.cmp.cell (i := 0) rfl
    have z0 := hL.best.frozen (i := 0)
    have z1 := hL.best.frozen (i := 1)
    have z2 := hL.best.frozen (i := 2)
    have z3 := hL.best.frozen (i := 3)
    have z4 := hL.best.frozen (i := 4)
    have z5 := hL.best.frozen (i := 5)
    have z6 := hL.found.frozen (i := 0)
    have ne1 : w.heap.size + 1 + 1 ≠ w.heap.size + 1 + 1 + 1 := by omega
    have HB1 := Lib.hid hB1
    have HHL := Lib.hid hlen
    clear hL hX hlen hr hB1
    cases pre with
    | nil =>
      simp only [List.isEmpty_nil, Bool.not_true] at f0
      gi_wp2
      refine ⟨fun _ h => (by cases h), ?_⟩
      gi_wp2
      exact ⟨((keeps6 W _ x).trans (KeepsOthers.setCell _ _ _)).from _, (keepC6 W (by omega) (by omega) x).trans (KeepC.set _ (by omega) (by omega) 0 _), HL.out.taken (bestC_one x), (below6 HB1.out (by omega) x).setCell (p := ⟨w.heap.size + 1 + 1 + 1, 0, none⟩) (by simp <;> omega) _⟩
    | cons y ys =>
      simp only [List.isEmpty_cons, Bool.not_false] at f0
      have HCC := Lib.hid (fun u => compareCands x (bestC (y :: ys)) u)
      by_cases hc : cmpC x (bestC (y :: ys)) < 0
      · have HT := Lib.hid (bestC_take (by simp) hc : bestC (y :: ys ++ [x]) = x)
        have hd : decide (cmpC x (bestC (y :: ys)) < 0) = true := decide_eq_true hc
        clear hc
        gi_wp2_with (refine ⟨trivial, ?_⟩; gi_at_call 76; refine (CallsIn.inRound l (callsIn_wide.2 (HCC.out _))).mono ?_; rintro e w2 ⟨rfl, B2⟩; have HL2 := Lib.hid (HL.out.next B2); have HX2 := Lib.hid (HX.out.next B2); have HB2 := Lib.hid B2; have y0 := HX2.out.cell (i := 0) rfl; have y1 := HX2.out.cell (i := 1) rfl; have y2 := HX2.out.cell (i := 2) rfl; have y3 := HX2.out.cell (i := 3) rfl; have y4 := HX2.out.cell (i := 4) rfl; have y5 := HX2.out.cell (i := 5) rfl; have t0 := HL2.out.best.cell (i := 0) rfl; have t1 := HL2.out.best.cell (i := 1) rfl; have t2 := HL2.out.best.cell (i := 2) rfl; have t3 := HL2.out.best.cell (i := 3) rfl; have t4 := HL2.out.best.cell (i := 4) rfl; have t5 := HL2.out.best.cell (i := 5) rfl; have g0 := HL2.out.found.cell (i := 0) rfl; have v0 := HL2.out.best.frozen (i := 0); have v1 := HL2.out.best.frozen (i := 1); have v2 := HL2.out.best.frozen (i := 2); have v3 := HL2.out.best.frozen (i := 3); have v4 := HL2.out.best.frozen (i := 4); have v5 := HL2.out.best.frozen (i := 5); have v6 := HL2.out.found.frozen (i := 0); clear B2)
        exact ⟨(((keepsBelow HB2.out).trans (keeps6 _ _ x)).trans (KeepsOthers.setCell _ _ _)).from _, ((KeepC.of HB2.out HB1.out.size).trans (keepC6 _ (by omega) (by omega) x)).trans (KeepC.set _ (by omega) (by omega) 0 _), HL2.out.taken HT.out, (below6 (below_call HB1.out HB2.out) (by omega) x).setCell (p := ⟨w.heap.size + 1 + 1 + 1, 0, none⟩) (by simp <;> omega) _⟩
      · have HT := Lib.hid (bestC_keep (by simp) hc : bestC (y :: ys ++ [x]) = bestC (y :: ys))
        have hd : decide (cmpC x (bestC (y :: ys)) < 0) = false := decide_eq_false hc
        clear hc
        gi_wp2_with (refine ⟨trivial, ?_⟩; gi_at_call 76; refine (CallsIn.inRound l (callsIn_wide.2 (HCC.out _))).mono ?_; rintro e w2 ⟨rfl, B2⟩; have HL2 := Lib.hid (HL.out.next B2); have HB2 := Lib.hid B2; clear B2)
        exact ⟨(keepsBelow HB2.out).from _, KeepC.of HB2.out HB1.out.size, HL2.out.kept (by simp) HT.out, below_call HB1.out HB2.out⟩
  case done =>
    rintro D ys W hD rfl ⟨hL, hB⟩ hK
    have HL := Lib.hid hL
    have HBW := Lib.hid hB
    have HKK := Lib.hid hK
    have t0 := hL.best.cell (i := 0) rfl
    have t1 := hL.best.cell (i := 1) rfl
    have t2 := hL.best.cell (i := 2) rfl
    have t3 := hL.best.cell (i := 3) rfl
    have t4 := hL.best.cell (i := 4) rfl
    have t5 := hL.best.cell (i := 5) rfl
    have r0 := hL.res.cell (i := 0) rfl
    have r1 := hL.res.cell (i := 1) rfl
    have r2 := hL.res.cell (i := 2) rfl
    have r3 := hL.res.cell (i := 3) rfl
    have r4 := hL.res.cell (i := 4) rfl
    have r5 := hL.res.cell (i := 5) rfl
    have v0 := hL.res.frozen (i := 0)
    have v1 := hL.res.frozen (i := 1)
    have v2 := hL.res.frozen (i := 2)
    have v3 := hL.res.frozen (i := 3)
    have v4 := hL.res.frozen (i := 4)
    have v5 := hL.res.frozen (i := 5)
    have HD := Lib.hid hD
    clear hL hB hK hD
    gi_wp2
    have hK6 := (keeps6 W (w.heap.size + 1) (bestC ys)).same D _ HKK.out rfl
    refine ⟨by simp, .inl ⟨_, _, rfl, run_takeDeferred hK6, ?_⟩⟩
    have q := (HL.out.res.set6 (bestC ys)).put (.deferred none) hK6 rfl
    have q0 := q.cell (i := 0) rfl
    have q1 := q.cell (i := 1) rfl
    have q2 := q.cell (i := 2) rfl
    have q3 := q.cell (i := 3) rfl
    have q4 := q.cell (i := 4) rfl
    have q5 := q.cell (i := 5) rfl
    refine ⟨cv (bestC ys), by simp [results, Tryd.results74, go_sem, q0, q1, q2, q3, q4, q5], rfl, (below6 HBW.out (by omega) (bestC ys)).trans (belowK_b (w := w) (Nat.le_refl _) _ D _ _ (by have := HD.out; omega) hK6 rfl rfl)⟩
  case stop =>
    rintro D c pre W _ _ h _
    exact h.elim
end Go.Proofs.YtolkihibjabmhaaDoor
