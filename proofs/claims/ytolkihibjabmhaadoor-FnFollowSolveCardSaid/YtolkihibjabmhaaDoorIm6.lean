/- The program's generic minimum over what an iterator yields. -/
import Derived.RangeFuncNested
import Derived.RangeFuncBound
import Derived.RangeFuncCalls
import Derived.RangeFuncLeaves
import Derived.Shelf.Abstract
import Derived.Shelf.RegionOpen
import Derived.WalkKit
import Derived.OwnWalkIn
import Derived.TacticsInMore
import Derived.LoopNIn
import Derived.LoopIn
import Derived.Test.YtolkihibjabmhaaDoorIm5
namespace Go.Proofs.YtolkihibjabmhaaDoor
set_option maxRecDepth 100000
open Go.RowKit Go.Shelf
attribute [local go_sem] Oper.semAt_some
/-- Block b holds these cells. -/
def Cells (W : World) (b : Nat) (cs : Array Value) (t : TypeId) : Prop := W.heap[b]? = some (.cells cs t (0, 0))
theorem Cells.lt {W : World} {b : Nat} {cs : Array Value} {t : TypeId} (h : Cells W b cs t) : b < W.heap.size := (Array.getElem?_eq_some_iff.1 h).1
theorem Cells.cell {W : World} {b i : Nat} {cs : Array Value} {t : TypeId} {v : Value} (h : Cells W b cs t) (hv : cs[i]? = some v) : W.cell? ⟨b, i, none⟩ = some v := by
  simp [World.cell?, show W.heap[b]? = _ from h, hv]
theorem Cells.frozen {W : World} {b i : Nat} {cs : Array Value} {t : TypeId} (h : Cells W b cs t) : W.frozen? ⟨b, i, none⟩ = false := by
  simp [World.frozen?, show W.heap[b]? = _ from h]
theorem Cells.new (W : World) (cs : Array Value) (t : TypeId) : Cells (W.alloc (.cells cs t)) W.heap.size cs t := World.alloc_heap_new W _
theorem Cells.next {W W' : World} {b : Nat} {cs : Array Value} {t : TypeId} (h : Cells W b cs t) (hb : Below W.heap.size W W') : Cells W' b cs t := (hb.block b h.lt).trans h
theorem Cells.alloc {W : World} {b : Nat} {cs : Array Value} {t : TypeId} (h : Cells W b cs t) (o : Obj) : Cells (W.alloc o) b cs t := h.next (below_box W o)
theorem Cells.set {W : World} {b : Nat} {cs : Array Value} {t : TypeId} (h : Cells W b cs t) (i : Nat) (v : Value) : Cells (W.setCell ⟨b, i, none⟩ v) b (cs.setIfInBounds i v) t := by
  obtain ⟨hlt, hk⟩ := Array.getElem?_eq_some_iff.1 h
  show (W.heap.modify b _)[b]? = _
  rw [Array.getElem?_eq_getElem (by rw [Array.size_modify]; exact hlt), Array.getElem_modify_self, hk]
  rfl
theorem Cells.other {W : World} {b c i : Nat} {cs : Array Value} {t : TypeId} (h : Cells W b cs t) (hne : b ≠ c) (v : Value) : Cells (W.setCell ⟨c, i, none⟩ v) b cs t :=
  (Below.heap_setCell W ⟨c, i, none⟩ v b hne).trans h
theorem Cells.put {W : World} {l b : Nat} {cs : Array Value} {t : TypeId} {o : Obj} (h : Cells W b cs t) (o' : Obj) (hl : W.heap[l]? = some o) (ho : o.isCells = false) : Cells (W.putObj l o') b cs t := by
  refine (World.putObj_heap_other (fun e => ?_)).trans h
  subst e
  rw [show W.heap[_]? = _ from h] at hl
  cases hl
  cases ho
theorem cells_own {β : Type} (b : Nat) (t : TypeId) (f : β → Array Value) : Own (fun s W => Cells W b (f s) t) := fun s X Y row hs hg hrow =>
  (hg.block b hs.lt (fun e' => by obtain ⟨o, ho, hc⟩ := hrow b e'.symm; rw [show X.heap[b]? = _ from hs] at ho; cases ho; cases hc)).trans hs
abbrev carr (c : Cand) : Array Value := #[.int .i64 c.p0, .int .i64 c.p1, .int .i64 c.p2, .int .i64 c.p3, .int .i64 c.d, .int .i64 c.e]
/-- A store of six cells. -/
abbrev set6 (W : World) (b : Nat) (c : Cand) : World := (((((W.setCell ⟨b, 0, none⟩ (.int .i64 c.p0)).setCell ⟨b, 1, none⟩ (.int .i64 c.p1)).setCell ⟨b, 2, none⟩ (.int .i64 c.p2)).setCell ⟨b, 3, none⟩ (.int .i64 c.p3)).setCell ⟨b, 4, none⟩ (.int .i64 c.d)).setCell ⟨b, 5, none⟩ (.int .i64 c.e)
theorem Cells.set6 {W : World} {b : Nat} {x : Cand} {t : TypeId} (h : Cells W b (carr x) t) (c : Cand) : Cells (set6 W b c) b (carr c) t :=
  (((((h.set 0 _).set 1 _).set 2 _).set 3 _).set 4 _).set 5 _
theorem Cells.other6 {W : World} {b d : Nat} {cs : Array Value} {t : TypeId} (h : Cells W b cs t) (hne : b ≠ d) (c : Cand) : Cells (Go.Proofs.YtolkihibjabmhaaDoor.set6 W d c) b cs t :=
  (((((h.other hne _).other hne _).other hne _).other hne _).other hne _).other hne _
theorem below6 {W W' : World} {B b : Nat} (h : Below B W W') (hb : B ≤ b) (c : Cand) : Below B W (set6 W' b c) :=
  (((((h.setCell (p := ⟨b, 0, none⟩) hb _).setCell (p := ⟨b, 1, none⟩) hb _).setCell (p := ⟨b, 2, none⟩) hb _).setCell (p := ⟨b, 3, none⟩) hb _).setCell (p := ⟨b, 4, none⟩) hb _).setCell (p := ⟨b, 5, none⟩) hb _
theorem keeps6 (W : World) (b : Nat) (c : Cand) : KeepsOthers W (set6 W b c) :=
  (((((KeepsOthers.setCell W _ _).trans (KeepsOthers.setCell _ _ _)).trans (KeepsOthers.setCell _ _ _)).trans (KeepsOthers.setCell _ _ _)).trans (KeepsOthers.setCell _ _ _)).trans (KeepsOthers.setCell _ _ _)
theorem keepsBelow {W W' : World} (hb : Below W.heap.size W W') : KeepsOthers W W' := ⟨hb.size, fun k _ hk _ => (hb.block k (Array.getElem?_eq_some_iff.1 hk).1).trans hk⟩
/-- The first of the least; zeros if there is none. -/
def bestC (xs : List Cand) : Cand := (bestL Cand.d Cand.e xs).getD ⟨0, 0, 0, 0, 0, 0⟩
theorem bestC_one (x : Cand) : bestC ([] ++ [x]) = x := rfl
theorem bestC_take {pre : List Cand} {x : Cand} (h0 : pre ≠ []) (h : cmpC x (bestC pre) < 0) : bestC (pre ++ [x]) = x := by
  obtain ⟨c, hc, _, _⟩ := bestL_is Cand.d Cand.e pre h0
  have e : bestC pre = c := by unfold bestC; rw [hc]; rfl
  rw [e] at h
  unfold bestC
  rw [bestL_snoc, hc, bstep_take ((cmpC_neg _ _).1 h)]; rfl
theorem bestC_keep {pre : List Cand} {x : Cand} (h0 : pre ≠ []) (h : ¬ cmpC x (bestC pre) < 0) : bestC (pre ++ [x]) = bestC pre := by
  obtain ⟨c, hc, _, _⟩ := bestL_is Cand.d Cand.e pre h0
  have e : bestC pre = c := by unfold bestC; rw [hc]; rfl
  rw [e] at h
  rw [e]
  unfold bestC
  rw [bestL_snoc, hc, bstep_keep (fun k => h ((cmpC_neg _ _).2 k))]; rfl
theorem bestC_nil : bestC [] = ⟨0, 0, 0, 0, 0, 0⟩ := rfl
/-- What the minimum keeps between two rounds: the best so far, whether there is one, the comparison, the result's place. -/
structure LeastI (sz : Nat) (pre : List Cand) (W : World) : Prop where
  best : Cells W (sz + 1 + 1) (carr (bestC pre)) 93
  found : Cells W (sz + 1 + 1 + 1) #[.bool (!pre.isEmpty)] 4
  cmp : Cells W sz #[.func (.func 76) #[] #[]] 98
  res : Cells W (sz + 1) (carr ⟨0, 0, 0, 0, 0, 0⟩) 93
theorem LeastI.next {sz : Nat} {pre : List Cand} {W W' : World} (h : LeastI sz pre W) (hb : Below W.heap.size W W') : LeastI sz pre W' := ⟨h.best.next hb, h.found.next hb, h.cmp.next hb, h.res.next hb⟩
theorem leastI_own (sz : Nat) : Own (LeastI sz) := fun s X Y row hs hg hr =>
  ⟨cells_own _ _ (fun pre => carr (bestC pre)) s X Y row hs.best hg hr, cells_own _ _ (fun pre : List Cand => #[.bool (!pre.isEmpty)]) s X Y row hs.found hg hr, cells_own _ _ (fun _ : List Cand => #[.func (.func 76) #[] #[]]) s X Y row hs.cmp hg hr, cells_own _ _ (fun _ : List Cand => carr ⟨0, 0, 0, 0, 0, 0⟩) s X Y row hs.res hg hr⟩
theorem LeastI.taken {sz : Nat} {pre : List Cand} {W : World} {x : Cand} (h : LeastI sz pre W) (e : bestC (pre ++ [x]) = x) : LeastI sz (pre ++ [x]) ((set6 W (sz + 1 + 1) x).setCell ⟨sz + 1 + 1 + 1, 0, none⟩ (.bool true)) :=
  ⟨by rw [e]; exact (h.best.set6 x).other (by omega) _, by rw [show (!(pre ++ [x]).isEmpty) = true by simp]; exact (h.found.other6 (by omega) x).set 0 _, (h.cmp.other6 (by omega) x).other (by omega) _, (h.res.other6 (by omega) x).other (by omega) _⟩
theorem LeastI.kept {sz : Nat} {pre : List Cand} {W : World} {x : Cand} (h : LeastI sz pre W) (h0 : pre ≠ []) (e : bestC (pre ++ [x]) = bestC pre) : LeastI sz (pre ++ [x]) W :=
  ⟨by rw [e]; exact h.best, by have := h.found; rw [show (!pre.isEmpty) = true by cases pre <;> simp_all] at this; rw [show (!(pre ++ [x]).isEmpty) = true by simp]; exact this, h.cmp, h.res⟩
set_option maxHeartbeats 4000000 in
theorem leastC (gf : Nat) (lb : Array Value) (xs : List Cand) (w : World) (eg : ∀ args w, (callFunc gf args).run Tryd.prog w = .ok (.enter gf args) w)
    (hseq : ∀ n, SeqStopsK Fence.wide n Tryd.prog gf lb (fun c : Cand => #[cv c]) (Below w.heap.size) (fun ys => ys = xs) (fun _ => True) xs.length w) :
    Calls Tryd.prog 74 #[.func (.func gf) #[] lb, .func (.func 76) #[] #[]] w fun e w' => e = .returned (cv (bestC xs)) ∧ Below w.heap.size w w' := by
  refine (callsIn_wide (n := 9)).1 ?_
  refine callsIn_of_wp_marks Tryd.func74 rfl trivial ?_ rfl
  simp only [Tryd.ntmps74, List.size_toArray, List.length_cons, List.length_nil, Nat.reduceAdd, Nat.reduceSub, Array.replicate_succ, Array.replicate_zero, List.push_toArray, List.append_toArray, List.nil_append, List.cons_append]
  gi_wp2
  have C0 := ((((Cells.new w #[.func (.func 76) #[] #[]] 98).alloc (ccells ⟨0, 0, 0, 0, 0, 0⟩)).alloc (ccells ⟨0, 0, 0, 0, 0, 0⟩)).alloc (.cells #[.bool false] 4))
  have C1 := (((Cells.new (w.alloc (.cells #[.func (.func 76) #[] #[]] 98)) (carr ⟨0, 0, 0, 0, 0, 0⟩) 93).alloc (ccells ⟨0, 0, 0, 0, 0, 0⟩)).alloc (.cells #[.bool false] 4))
  have C2 := ((Cells.new ((w.alloc (.cells #[.func (.func 76) #[] #[]] 98)).alloc (ccells ⟨0, 0, 0, 0, 0, 0⟩)) (carr ⟨0, 0, 0, 0, 0, 0⟩) 93).alloc (.cells #[.bool false] 4))
  have C3 := (Cells.new (((w.alloc (.cells #[.func (.func 76) #[] #[]] 98)).alloc (ccells ⟨0, 0, 0, 0, 0, 0⟩)).alloc (ccells ⟨0, 0, 0, 0, 0, 0⟩)) #[.bool false] 4)
  simp only [World.size_alloc] at C1 C2 C3
  have hB0 : Below w.heap.size w ((((w.alloc (.cells #[.func (.func 76) #[] #[]] 98)).alloc (ccells ⟨0, 0, 0, 0, 0, 0⟩)).alloc (ccells ⟨0, 0, 0, 0, 0, 0⟩)).alloc (.cells #[.bool false] 4)) := below_box4 w _ _ _ _
  have hsz : ((((w.alloc (.cells #[.func (.func 76) #[] #[]] 98)).alloc (ccells ⟨0, 0, 0, 0, 0, 0⟩)).alloc (ccells ⟨0, 0, 0, 0, 0, 0⟩)).alloc (.cells #[.bool false] 4)).heap.size = w.heap.size + 1 + 1 + 1 + 1 := by simp
  have L0 : LeastI w.heap.size [] _ := ⟨C2, C3, C0, C1⟩
  obtain ⟨W0, hW0⟩ : ∃ W0, (((w.alloc (.cells #[.func (.func 76) #[] #[]] 98)).alloc (ccells ⟨0, 0, 0, 0, 0, 0⟩)).alloc (ccells ⟨0, 0, 0, 0, 0, 0⟩)).alloc (.cells #[.bool false] 4) = W0 := ⟨_, rfl⟩
  rw [hW0] at L0 hB0 hsz ⊢
  clear hW0 C0 C1 C2 C3
  refine wpIn_rangeFunc_ownH rfl (by omega) (gf := gf) (lb := lb) rfl trivial eg (hseq 8) belowK_t (belowK_b (by omega)) hB0 (fun _ => rfl)
    (fun pre W => LeastI w.heap.size pre W ∧ Below w.heap.size w W)
    (fun _ _ _ => False)
    (OwnFrom.and (Own.from (leastI_own _) _) (ownFrom_below (Nat.le_refl _) (by omega)))
    (fun _ _ _ _ _ hs _ _ => hs)
    ⟨L0, hB0⟩
    (fun x a' W => ∃ Bx, w.heap.size + 1 + 1 + 1 < Bx ∧ Cells W Bx (carr x) 93 ∧ a' = { tmps := #[.func (.func gf) #[] lb, .func (.func 76) #[] #[], undef, .pointer (some ⟨w.heap.size, 0, none⟩), .pointer (some ⟨w.heap.size + 1, 0, none⟩), .pointer (some ⟨w.heap.size + 1 + 1, 0, none⟩), .pointer (some ⟨w.heap.size + 1 + 1 + 1, 0, none⟩), .pointer (some ⟨Bx, 0, none⟩), .func (.func gf) #[] lb, cv x, undef, undef, undef, undef, undef, undef, undef, undef, undef, undef, undef], defers := [] })
    (fun x a' _ X Y row hs hg hr => by obtain ⟨Bx, h1, h2, h3⟩ := hs; exact ⟨Bx, h1, cells_own Bx _ (fun (_ : Unit) => carr x) () X Y row h2 hg (fun r e => (hr r e).2), h3⟩)
    ?assign ?body ?done ?stop
  case assign =>
    rintro l pre x W K ⟨hL, hB1⟩ hK
    gi_wp2
    exact hK _ _ ((KeepsOthers.alloc _ _).from _) ((Below.refl _ W).alloc hB1.size _) ⟨hL.next (below_box _ _), hB1.alloc hB1.size _⟩ ⟨W.heap.size, hL.found.lt, Cells.new W _ _, rfl⟩
  case body =>
    rintro l pre x a' W hl ⟨r, hr⟩ ⟨hL, hB1⟩ ⟨Bx, hBx, hX, rfl⟩ hlen
    have HL := Lib.hid hL
    have HX := Lib.hid hX
    have x0 := hX.cell (i := 0) rfl
    have x1 := hX.cell (i := 1) rfl
    have x2 := hX.cell (i := 2) rfl
    have x3 := hX.cell (i := 3) rfl
    have x4 := hX.cell (i := 4) rfl
    have x5 := hX.cell (i := 5) rfl
    have b0 := hL.best.cell (i := 0) rfl
    have b1 := hL.best.cell (i := 1) rfl
    have b2 := hL.best.cell (i := 2) rfl
    have b3 := hL.best.cell (i := 3) rfl
    have b4 := hL.best.cell (i := 4) rfl
    have b5 := hL.best.cell (i := 5) rfl
    have f0 := hL.found.cell (i := 0) rfl
    have c0 := hL.cmp.cell (i := 0) rfl
    have z0 := hL.best.frozen (i := 0)
    have z1 := hL.best.frozen (i := 1)
    have z2 := hL.best.frozen (i := 2)
    have z3 := hL.best.frozen (i := 3)
    have z4 := hL.best.frozen (i := 4)
    have z5 := hL.best.frozen (i := 5)
    have z6 := hL.found.frozen (i := 0)
    have ne1 : w.heap.size + 1 + 1 ≠ w.heap.size + 1 + 1 + 1 := by omega
    have HB1 := Lib.hid hB1
    have HHL := Lib.hid hlen
    clear hL hX hlen hr hB1
    cases pre with
    | nil =>
      simp only [List.isEmpty_nil, Bool.not_true] at f0
      gi_wp2
      refine ⟨fun _ h => (by cases h), ?_⟩
      gi_wp2
      exact ⟨((keeps6 W _ x).trans (KeepsOthers.setCell _ _ _)).from _, (below6 (Below.refl _ W) (by omega) x).setCell (p := ⟨w.heap.size + 1 + 1 + 1, 0, none⟩) (by simp <;> omega) _, HL.out.taken (bestC_one x), (below6 HB1.out (by omega) x).setCell (p := ⟨w.heap.size + 1 + 1 + 1, 0, none⟩) (by simp <;> omega) _⟩
    | cons y ys =>
      simp only [List.isEmpty_cons, Bool.not_false] at f0
      have HCC := Lib.hid (fun u => compareCands x (bestC (y :: ys)) u)
      by_cases hc : cmpC x (bestC (y :: ys)) < 0
      · have HT := Lib.hid (bestC_take (by simp) hc : bestC (y :: ys ++ [x]) = x)
        have hd : decide (cmpC x (bestC (y :: ys)) < 0) = true := decide_eq_true hc
        clear hc
        gi_wp2_with (refine ⟨trivial, ?_⟩; gi_at_call 76; refine (CallsIn.inRound l (callsIn_wide.2 (HCC.out _))).mono ?_; rintro e w2 ⟨rfl, B2⟩; have HL2 := Lib.hid (HL.out.next B2); have HX2 := Lib.hid (HX.out.next B2); have HB2 := Lib.hid B2; have y0 := HX2.out.cell (i := 0) rfl; have y1 := HX2.out.cell (i := 1) rfl; have y2 := HX2.out.cell (i := 2) rfl; have y3 := HX2.out.cell (i := 3) rfl; have y4 := HX2.out.cell (i := 4) rfl; have y5 := HX2.out.cell (i := 5) rfl; have t0 := HL2.out.best.cell (i := 0) rfl; have t1 := HL2.out.best.cell (i := 1) rfl; have t2 := HL2.out.best.cell (i := 2) rfl; have t3 := HL2.out.best.cell (i := 3) rfl; have t4 := HL2.out.best.cell (i := 4) rfl; have t5 := HL2.out.best.cell (i := 5) rfl; have g0 := HL2.out.found.cell (i := 0) rfl; have v0 := HL2.out.best.frozen (i := 0); have v1 := HL2.out.best.frozen (i := 1); have v2 := HL2.out.best.frozen (i := 2); have v3 := HL2.out.best.frozen (i := 3); have v4 := HL2.out.best.frozen (i := 4); have v5 := HL2.out.best.frozen (i := 5); have v6 := HL2.out.found.frozen (i := 0); clear B2)
        exact ⟨(((keepsBelow HB2.out).trans (keeps6 _ _ x)).trans (KeepsOthers.setCell _ _ _)).from _, (below6 (HB2.out.mono HB1.out.size) (by omega) x).setCell (p := ⟨w.heap.size + 1 + 1 + 1, 0, none⟩) (by simp <;> omega) _, HL2.out.taken HT.out, (below6 (below_call HB1.out HB2.out) (by omega) x).setCell (p := ⟨w.heap.size + 1 + 1 + 1, 0, none⟩) (by simp <;> omega) _⟩
      · have HT := Lib.hid (bestC_keep (by simp) hc : bestC (y :: ys ++ [x]) = bestC (y :: ys))
        have hd : decide (cmpC x (bestC (y :: ys)) < 0) = false := decide_eq_false hc
        clear hc
        gi_wp2_with (refine ⟨trivial, ?_⟩; gi_at_call 76; refine (CallsIn.inRound l (callsIn_wide.2 (HCC.out _))).mono ?_; rintro e w2 ⟨rfl, B2⟩; have HL2 := Lib.hid (HL.out.next B2); have HB2 := Lib.hid B2; clear B2)
        exact ⟨(keepsBelow HB2.out).from _, HB2.out.mono HB1.out.size, HL2.out.kept (by simp) HT.out, below_call HB1.out HB2.out⟩
  case done =>
    rintro D ys W hD rfl ⟨hL, hB⟩ hK
    have HL := Lib.hid hL
    have HBW := Lib.hid hB
    have HKK := Lib.hid hK
    have t0 := hL.best.cell (i := 0) rfl
    have t1 := hL.best.cell (i := 1) rfl
    have t2 := hL.best.cell (i := 2) rfl
    have t3 := hL.best.cell (i := 3) rfl
    have t4 := hL.best.cell (i := 4) rfl
    have t5 := hL.best.cell (i := 5) rfl
    have r0 := hL.res.cell (i := 0) rfl
    have r1 := hL.res.cell (i := 1) rfl
    have r2 := hL.res.cell (i := 2) rfl
    have r3 := hL.res.cell (i := 3) rfl
    have r4 := hL.res.cell (i := 4) rfl
    have r5 := hL.res.cell (i := 5) rfl
    have v0 := hL.res.frozen (i := 0)
    have v1 := hL.res.frozen (i := 1)
    have v2 := hL.res.frozen (i := 2)
    have v3 := hL.res.frozen (i := 3)
    have v4 := hL.res.frozen (i := 4)
    have v5 := hL.res.frozen (i := 5)
    have HD := Lib.hid hD
    clear hL hB hK hD
    gi_wp2
    have hK6 := (keeps6 W (w.heap.size + 1) (bestC ys)).same D _ HKK.out rfl
    refine ⟨by simp, .inl ⟨_, _, rfl, run_takeDeferred hK6, ?_⟩⟩
    have q := (HL.out.res.set6 (bestC ys)).put (.deferred none) hK6 rfl
    have q0 := q.cell (i := 0) rfl
    have q1 := q.cell (i := 1) rfl
    have q2 := q.cell (i := 2) rfl
    have q3 := q.cell (i := 3) rfl
    have q4 := q.cell (i := 4) rfl
    have q5 := q.cell (i := 5) rfl
    refine ⟨cv (bestC ys), by simp [results, Tryd.results74, go_sem, q0, q1, q2, q3, q4, q5], rfl, (below6 HBW.out (by omega) (bestC ys)).trans (belowK_b (w := w) (Nat.le_refl _) _ D _ _ (by have := HD.out; omega) hK6 rfl rfl)⟩
  case stop =>
    rintro D c pre W _ _ h _
    exact h.elim
end Go.Proofs.YtolkihibjabmhaaDoor
