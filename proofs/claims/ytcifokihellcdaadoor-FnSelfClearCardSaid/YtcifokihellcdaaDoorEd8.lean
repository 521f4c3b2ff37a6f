/- The program's iterator over the edges of a polygon. -/
import Derived.RangeFuncNested
import Derived.RangeFuncBound
import Derived.RangeFuncCalls
import Derived.RangeFuncLeaves
import Derived.Shelf.Abstract
import Derived.Shelf.RegionOpen
import Derived.WalkKit
import Derived.OwnWalkIn
import Derived.TacticsInMore
import Derived.LoopNIn
import Derived.LoopIn
import Derived.Test.YtcifokihellcdaaDoorPl8
import Derived.Test.YtcifokihellcdaaDoorZbKt
namespace Go.Proofs.YtcifokihellcdaaDoor
set_option maxRecDepth 100000
open Go.RowKit Go.Shelf
attribute [local go_sem] Oper.semAt_some
/-- Block b holds these cells. -/
def Cells8 (W : World) (b : Nat) (cs : Array Value) (t : TypeId) : Prop := W.heap[b]? = some (.cells cs t (0, 0))
theorem Cells8.lt {W : World} {b : Nat} {cs : Array Value} {t : TypeId} (h : Cells8 W b cs t) : b < W.heap.size := (Array.getElem?_eq_some_iff.1 h).1
theorem Cells8.cell {W : World} {b i : Nat} {cs : Array Value} {t : TypeId} {v : Value} (h : Cells8 W b cs t) (hv : cs[i]? = some v) : W.cell? ⟨b, i, none⟩ = some v := by
  simp [World.cell?, show W.heap[b]? = _ from h, hv]
theorem Cells8.frozen {W : World} {b i : Nat} {cs : Array Value} {t : TypeId} (h : Cells8 W b cs t) : W.frozen? ⟨b, i, none⟩ = false := by
  simp [World.frozen?, show W.heap[b]? = _ from h]
theorem Cells8.new (W : World) (cs : Array Value) (t : TypeId) : Cells8 (W.alloc (.cells cs t)) W.heap.size cs t := World.alloc_heap_new W _
theorem Cells8.next {W W' : World} {b : Nat} {cs : Array Value} {t : TypeId} (h : Cells8 W b cs t) (hb : Below W.heap.size W W') : Cells8 W' b cs t := (hb.block b h.lt).trans h
theorem Cells8.alloc {W : World} {b : Nat} {cs : Array Value} {t : TypeId} (h : Cells8 W b cs t) (o : Obj) : Cells8 (W.alloc o) b cs t := h.next (below_box W o)
theorem Cells8.set {W : World} {b : Nat} {cs : Array Value} {t : TypeId} (h : Cells8 W b cs t) (i : Nat) (v : Value) : Cells8 (W.setCell ⟨b, i, none⟩ v) b (cs.setIfInBounds i v) t := by
  obtain ⟨hlt, hk⟩ := Array.getElem?_eq_some_iff.1 h
  show (W.heap.modify b _)[b]? = _
  rw [Array.getElem?_eq_getElem (by rw [Array.size_modify]; exact hlt), Array.getElem_modify_self, hk]
  rfl
theorem Cells8.other {W : World} {b c i : Nat} {cs : Array Value} {t : TypeId} (h : Cells8 W b cs t) (hne : b ≠ c) (v : Value) : Cells8 (W.setCell ⟨c, i, none⟩ v) b cs t :=
  (Below.heap_setCell W ⟨c, i, none⟩ v b hne).trans h
theorem cells8_own {β : Type} (b : Nat) (t : TypeId) (f : β → Array Value) : Own (fun s W => Cells8 W b (f s) t) := fun s X Y row hs hg hrow =>
  (hg.block b hs.lt (fun e' => by obtain ⟨o, ho, hc⟩ := hrow b e'.symm; rw [show X.heap[b]? = _ from hs] at ho; cases ho; cases hc)).trans hs
/-- An edge: a corner and the next one. -/
abbrev EP := P2 × P2
abbrev encE (x : EP) : Array Value := #[pt x.1.1 x.1.2, pt x.2.1 x.2.2]
def edgeL (ps : List P2) (k : Nat) : List EP := (List.range k).map fun i => (cor ps i, cor ps (nx ps i))
theorem edgeL_succ (ps : List P2) (k : Nat) : edgeL ps (k + 1) = edgeL ps k ++ [(cor ps k, cor ps (nx ps k))] := by unfold edgeL; rw [List.range_succ, List.map_append]; rfl
theorem edgeL_len (ps : List P2) (k : Nat) : (edgeL ps k).length = k := by simp [edgeL]
/-- What the iterator reads. -/
structure EdAt (w : World) (Bp : Nat) (a : Option Addr) (len cap : Nat) (ps : List P2) : Prop where
  box : Cells8 w Bp #[.slice a len cap] 107
  pts : PL w a len ps
theorem EdAt.next {w w' : World} {Bp : Nat} {a : Option Addr} {len cap : Nat} {ps : List P2} (h : EdAt w Bp a len cap ps) (hb : Below w.heap.size w w') : EdAt w' Bp a len cap ps := ⟨h.box.next hb, h.pts.next hb⟩
theorem EdAt.keep {w w' : World} {Bp : Nat} {a : Option Addr} {len cap : Nat} {ps : List P2} (h : EdAt w Bp a len cap ps) (hs : w.heap.size ≤ w'.heap.size) (kb : w'.heap[Bp]? = w.heap[Bp]?) (kp : 1 ≤ len → ∀ b o, a = some ⟨b, o, none⟩ → w'.heap[b]? = w.heap[b]?) : EdAt w' Bp a len cap ps := by
  refine ⟨kb.trans h.box, ?_⟩
  have q := h.pts
  by_cases hl : 1 ≤ len
  · obtain ⟨b, o, rfl, _⟩ := q.somes hl
    exact q.keep hs (kp hl b o rfl)
  · exact ⟨q.1, .inl (by omega)⟩
theorem abides8 {β : Type} {B : Nat} {J : β → World → Prop} (h : AbidesFrom B J) {s : β} {W W' : World} (hs : J s W) (hb : Below W.heap.size W W') : J s W' :=
  h s W W' none hs ⟨hb.os, hb.tape, hb.output, hb.size, fun k hk _ => hb.block k hk⟩ (fun r e => by cases e)
/-- A round's answer under one name. -/
def Said8 {α : Type} (J Jx : List α → World → Prop) (xs : List α) (Kp : World → World → Prop) (W : World) (b : Bool) (W' : World) : Prop := (b = true ∧ J xs W' ∧ Kp W W') ∨ (b = false ∧ Jx xs W')
theorem said8 {F : Fence} {n : Nat} {P : Program} {l : Nat} {f : FuncId} {tmps : Array Value} {assign body : Go.Code} {W : World} {α : Type} {J Jx : List α → World → Prop} {xs : List α} {Kp : World → World → Prop}
    (h : RoundIn F n P l f tmps assign body W fun e W' => (e = .returned (.bool true) ∧ J xs W' ∧ Kp W W') ∨ (e = .returned (.bool false) ∧ Jx xs W')) :
    RoundIn F n P l f tmps assign body W fun e W' => ∃ b : Bool, e = .returned (.bool b) ∧ Hid (Said8 J Jx xs Kp W b W') :=
  h.mono fun e W' hh => by
    rcases hh with ⟨rfl, h1, h2⟩ | ⟨rfl, h1⟩
    · exact ⟨true, rfl, Lib.hid (.inl ⟨rfl, h1, h2⟩)⟩
    · exact ⟨false, rfl, Lib.hid (.inr ⟨rfl, h1⟩)⟩
theorem edgesC (a : Option Addr) (len cap : Nat) (ps : List P2) (w : World) (hp : PL w a len ps) :
    Calls Tryd.prog 90 #[.slice a len cap] w fun e w' => ∃ Bp, e = .returned (.func (.func 99) #[] #[.pointer (some ⟨Bp, 0, none⟩)]) ∧ EdAt w' Bp a len cap ps ∧ Below w.heap.size w w' ∧ w.heap.size ≤ Bp := by
  have hmf : ∀ (fn : Fn) (first cap : Array Value) (w : World), (Instr.makeFunc fn first cap).run Tryd.prog w = .ok (.func fn first cap) w := fun _ _ _ _ => rfl
  have HB := Lib.hid (below_box w (.cells #[.slice a len cap] 107))
  have HS := Lib.hid (show EdAt (w.alloc (.cells #[.slice a len cap] 107)) w.heap.size a len cap ps from ⟨Cells8.new w _ _, hp.next HB.out⟩)
  clear hp
  go_enter Tryd.func90, Tryd.ntmps90
  go_wp2
  go_ret
  exact ⟨w.heap.size, rfl, HS.out, HB.out, Nat.le_refl _⟩
set_option maxHeartbeats 2000000 in
theorem edgesStopsG {α : Type} (enc : α → Array Value) (f : Nat → α) (Kp : World → World → Prop) (Bp : Nat) (a : Option Addr) (len cap : Nat) (ps : List P2) (w : World) (hK : ∀ W W', Kp W W' → EdAt W Bp a len cap ps → EdAt W' Bp a len cap ps) (hS : EdAt w Bp a len cap ps) (hl : len ≤ 1000) (hf : ∀ i, i < ps.length → enc (f i) = #[pt (cor ps i).1 (cor ps i).2, pt (cor ps (nx ps i)).1 (cor ps (nx ps i)).2]) (n : Nat) :
    SeqStopsK Fence.wide n Tryd.prog 99 #[.pointer (some ⟨Bp, 0, none⟩)] enc Kp (fun ys => ys = (List.range ps.length).map f) (fun ys => ∃ k, k ≤ ps.length ∧ ys = (List.range k).map f) ps.length w := by
  intro l J Jx W hW hJ _ hY h0
  have HY := Lib.hid hY
  have HJ := Lib.hid (fun s A B (hs : J s A) (hb : Below A.heap.size A B) => abides8 hJ hs hb)
  have HW0 := Lib.hid (hS.next hW)
  have HKP := Lib.hid hK
  have H00 := Lib.hid h0
  have HLE := Lib.hid hS.pts.1
  clear hY hJ hS hW h0 hK
  refine callsIn_of_wp Tryd.func99 rfl trivial ?_ rfl
  simp only [Tryd.ntmps99, List.size_toArray, List.length_cons, List.length_nil, Nat.reduceAdd, Nat.reduceSub, Array.replicate_succ, Array.replicate_zero, List.push_toArray, List.append_toArray, List.nil_append, List.cons_append]
  have s0 := HW0.out.box.cell (i := 0) rfl
  gi_wp2
  clear s0
  gi_loopw [7] (fun i wr => ∃ j : Nat, j ≤ len ∧ i = .int .i64 (j : Int) ∧ Hid (J ((List.range j).map f) wr) ∧ Hid (EdAt wr Bp a len cap ps)) (fun i _ => len - (intOf i).toNat)
  case atStart => exact ⟨0, Nat.zero_le _, rfl, H00, HW0⟩
  case round =>
    obtain ⟨j, hj, rfl, HJ1, HW1⟩ := hrel
    clear H00 HW0
    by_cases hlt : j < len
    · have j1 : (0 : Int) ≤ (j : Int) := by omega
      have j2 : (j : Int) < (len : Int) := by omega
      obtain ⟨b, o, rfl, lt, hc⟩ := HW1.out.pts.somes (by omega)
      have HLT := Lib.hid lt
      have HC := Lib.hid hc
      have d1 := (hc j hlt).1
      have d2 := (hc j hlt).2
      have HNX := Lib.hid (show (List.range (j + 1)).map f = (List.range j).map f ++ [f j] by rw [List.range_succ, List.map_append]; rfl)
      have HF := Lib.hid (hf j (by rw [← HLE.out]; exact hlt))
      have HLL := Lib.hid (show ((List.range j).map f).length < ps.length by rw [List.length_map, List.length_range, ← HLE.out]; exact hlt)
      have HMD := Lib.hid (show ((j : Int) + 1).tmod (len : Int) = (nx ps j : Nat) ∧ nx ps j < len by
        rw [HLE.out] at hlt ⊢; exact ⟨tmod_nx ps j, nx_lt hlt⟩)
      have HM := Lib.hid (hc (nx ps j) HMD.out.2)
      clear hc lt
      generalize nx ps j = m at *
      have HWb := Lib.hid (HW1.out.next (below_box wr (.cells #[.int .i64 (cor ps j).1, .int .i64 (cor ps j).2] 34)))
      have HJb := Lib.hid (HJ.out _ _ _ HJ1.out (below_box wr (.cells #[.int .i64 (cor ps j).1, .int .i64 (cor ps j).2] 34)))
      have HMb := Lib.hid (And.intro (((below_box wr (.cells #[.int .i64 (cor ps j).1, .int .i64 (cor ps j).2] 34)).cell (p := ⟨b, o + m * 2, none⟩) HLT.out).trans HM.out.1) (((below_box wr (.cells #[.int .i64 (cor ps j).1, .int .i64 (cor ps j).2] 34)).cell (p := ⟨b, o + m * 2 + 1, none⟩) HLT.out).trans HM.out.2))
      have HLb := Lib.hid (show b < (wr.alloc (.cells #[.int .i64 (cor ps j).1, .int .i64 (cor ps j).2] 34)).heap.size by have := HLT.out; simp; omega)
      have Q := AtP.box wr (cor ps j).1 (cor ps j).2 34
      gi_wp2
      clear d1 d2
      generalize wr.alloc (.cells #[.int .i64 (cor ps j).1, .int .i64 (cor ps j).2] 34) = w3 at *
      obtain ⟨u0, u1⟩ := Q.kepts
      have u2 : ∀ q : Kept w3, q.u.cell? ⟨Bp, 0, none⟩ = some (.slice (some ⟨b, o, none⟩) len cap) := keptCell HWb.out.box.lt (HWb.out.box.cell (i := 0) rfl)
      have u3 := keptCell (b := b) (o := o + m * 2) HLb.out HMb.out.1
      have u4 := keptCell (b := b) (o := o + m * 2 + 1) HLb.out HMb.out.2
      have hmd := HMD.out.1
      have m1 : (0 : Int) ≤ (m : Int) := by omega
      have m2 : (m : Int) < (len : Int) := by have := HMD.out.2; omega
      have hne : ¬ len = 0 := by omega
      have hne2 : ¬ (len : Int) = 0 := by omega
      refine wpIn_region_tail 10 (by kernel_rfl) (by kernel_rfl) ?_
      simp only [List.take_succ_cons, List.take_zero, List.drop_succ_cons, List.drop_zero]
      repeat (go_big_quiet_want; go_big_quiet_op; go_big_quiet_on)
      refine wpQuiet_nil ?_
      rintro w5 ⟨⟨_, K5⟩, rfl⟩
      obtain ⟨fn, tmps, assign, body, hy, hR⟩ := HY.out _ (f j) w5 (HJ.out _ _ _ HJb.out K5) HLL.out
      rw [HF.out] at hy
      have HW5 := Lib.hid (HWb.out.next K5)
      clear u0 u1 u2 u3 u4
      gi_wp2
      refine ⟨(by intro h; cases h), ?_⟩
      refine (said8 hR).mono ?_
      rintro e w6 ⟨bb, rfl, S6⟩
      cases bb with
      | true =>
        have HS6 : Hid (J ((List.range (j + 1)).map f) w6 ∧ Kp w5 w6) := Lib.hid (by
          rw [HNX.out]
          rcases S6.out with ⟨_, h1, h2⟩ | ⟨h1, _⟩
          · exact ⟨h1, h2⟩
          · cases h1)
        have HW6 := Lib.hid (HKP.out _ _ HS6.out.2 HW5.out)
        clear S6 hy hR
        gi_wp2
        go_roundw
        case rel => exact ⟨j + 1, by omega, by congr 1, Lib.hid HS6.out.1, HW6⟩
        case measure => simp [intOf]; omega
      | false =>
        have HS6 : Hid (Jx ((List.range j).map f ++ [f j]) w6) := Lib.hid (by
          rcases S6.out with ⟨h1, _⟩ | ⟨_, h1⟩
          · cases h1
          · exact h1)
        clear S6 hy hR
        gi_wp2
        refine bodyPost_ret (results_none rfl _ _ _) rfl ?_
        exact ⟨⟨_, rfl⟩, .inr ⟨(List.range (j + 1)).map f, ⟨j + 1, by have := HLE.out; omega, rfl⟩, by rw [HNX.out]; exact HS6.out⟩⟩
    · obtain rfl : j = len := by omega
      have HE := Lib.hid HLE.out
      gi_wp2
      go_end0
      exact ⟨⟨_, rfl⟩, .inl ⟨_, rfl, by rw [← HE.out]; exact HJ1.out⟩⟩
theorem edgesStopsK (Kp : World → World → Prop) (Bp : Nat) (a : Option Addr) (len cap : Nat) (ps : List P2) (w : World) (hK : ∀ W W', Kp W W' → EdAt W Bp a len cap ps → EdAt W' Bp a len cap ps) (hS : EdAt w Bp a len cap ps) (hl : len ≤ 1000) (n : Nat) :
    SeqStopsK Fence.wide n Tryd.prog 99 #[.pointer (some ⟨Bp, 0, none⟩)] encE Kp (fun ys => ys = edgeL ps ps.length) (fun ys => ∃ k, k ≤ ps.length ∧ ys = edgeL ps k) ps.length w :=
  edgesStopsG encE (fun i => (cor ps i, cor ps (nx ps i))) Kp Bp a len cap ps w hK hS hl (fun _ _ => rfl) n
theorem edge_mem {ps : List P2} {k : Nat} (hk : k ≤ ps.length) {x : EP} (h : x ∈ edgeL ps k) : ∃ i, i < ps.length ∧ x = (cor ps i, cor ps (nx ps i)) := by
  unfold edgeL at h
  obtain ⟨i, hi, e⟩ := List.mem_map.1 h
  exact ⟨i, by have := List.mem_range.1 hi; omega, e.symm⟩
theorem mem_edge {ps : List P2} {i : Nat} (hi : i < ps.length) : (cor ps i, cor ps (nx ps i)) ∈ edgeL ps ps.length := by
  unfold edgeL; exact List.mem_map.2 ⟨i, List.mem_range.2 hi, rfl⟩
theorem all_edges {ps : List P2} {C : EP → Prop} (h : ∀ x ∈ edgeL ps ps.length, C x) : ∀ i, i < ps.length → C (cor ps i, cor ps (nx ps i)) := fun _ hi => h _ (mem_edge hi)
theorem ex_edge {ps : List P2} {k : Nat} (hk : k ≤ ps.length) {C : EP → Prop} (h : ∃ x ∈ edgeL ps k, C x) : ∃ i, i < ps.length ∧ C (cor ps i, cor ps (nx ps i)) := by
  obtain ⟨x, hx, hc⟩ := h
  obtain ⟨i, hi, rfl⟩ := edge_mem hk hx
  exact ⟨i, hi, hc⟩
theorem all_snoc {C : EP → Prop} {pre : List EP} {x : EP} (h : ∀ y ∈ pre, C y) (hx : C x) : ∀ y ∈ pre ++ [x], C y := fun y hy => by
  rcases List.mem_append.1 hy with q | q
  · exact h y q
  · rw [List.mem_singleton.1 q]; exact hx
theorem ex_snoc {C : EP → Prop} {pre : List EP} {x : EP} (hx : C x) : ∃ y ∈ pre ++ [x], C y := ⟨x, by simp, hx⟩
theorem EdAt.keepB {w w' : World} {Bp : Nat} {a : Option Addr} {len cap : Nat} {ps : List P2} {W : World} (h0 : EdAt w Bp a len cap ps) (h : EdAt W Bp a len cap ps) (hk : Below w.heap.size W w') : EdAt w' Bp a len cap ps :=
  h.keep hk.size (hk.block _ h0.box.lt) (fun hz b o e => by
    have := h0.pts; rw [e] at this
    obtain ⟨b', o', e2, lt, _⟩ := this.somes hz
    simp only [Option.some.injEq, Addr.mk.injEq, and_true] at e2
    rw [e2.1]; exact hk.block _ lt)
/-- What a search over the edges keeps between two rounds: none so far has what is sought; what lay before lies there. -/
def Seek (C : EP → Prop) (w3 : World) (pre : List EP) (W : World) : Prop := (∀ x ∈ pre, ¬ C x) ∧ Below w3.heap.size w3 W
/-- .. and when it has left. -/
def Found (C : EP → Prop) (w : World) (R : Nat) (v : Value) (c : Go.Code) (pre : List EP) (W : World) : Prop := c = .ret ∧ (∃ x ∈ pre, C x) ∧ Cells8 W R #[v] 4 ∧ Below w.heap.size w W
theorem seek_own {C : EP → Prop} {w3 : World} : OwnFrom w3.heap.size (Seek C w3) :=
  OwnFrom.and (ownFrom_pure _ (fun pre => ∀ x ∈ pre, ¬ C x)) (ownFrom_below (Nat.le_refl _) (Nat.le_refl _))
theorem found_own {C : EP → Prop} {w : World} {R : Nat} {v : Value} {B : Nat} (hB : w.heap.size ≤ B) (c : Go.Code) : OwnFrom B (Found C w R v c) :=
  OwnFrom.and (ownFrom_pure B (fun _ => c = .ret)) (OwnFrom.and (ownFrom_pure B (fun pre => ∃ x ∈ pre, C x)) (OwnFrom.and (Own.from (cells8_own R _ (fun _ => #[v])) _) (ownFrom_below (Nat.le_refl _) hB)))
/-- The two boxes of a round. -/
structure Ends (W : World) (lo : Nat) (x : EP) (B1 B2 : Nat) : Prop where
  h1 : lo ≤ B1
  h2 : lo ≤ B2
  c1 : Cells8 W B1 #[.int .i64 x.1.1, .int .i64 x.1.2] 34
  c2 : Cells8 W B2 #[.int .i64 x.2.1, .int .i64 x.2.2] 34
theorem ends_own {lo : Nat} {x : EP} {B1 B2 : Nat} {B : Nat} : OwnFrom B (fun (_ : Unit) W => Ends W lo x B1 B2) := fun _ X Y row hs hg hr =>
  ⟨hs.h1, hs.h2, cells8_own B1 _ (fun (_ : Unit) => _) () X Y row hs.c1 hg (fun r e => (hr r e).2), cells8_own B2 _ (fun (_ : Unit) => _) () X Y row hs.c2 hg (fun r e => (hr r e).2)⟩
theorem Ends.new (W : World) {lo : Nat} (hl : lo ≤ W.heap.size) (x : EP) : Ends ((W.alloc (.cells #[.int .i64 x.1.1, .int .i64 x.1.2] 34)).alloc (.cells #[.int .i64 x.2.1, .int .i64 x.2.2] 34)) lo x W.heap.size (W.heap.size + 1) :=
  ⟨hl, by omega, (Cells8.new W _ _).alloc _, by have := Cells8.new (W.alloc (.cells #[.int .i64 x.1.1, .int .i64 x.1.2] 34)) #[.int .i64 x.2.1, .int .i64 x.2.2] 34; rwa [World.size_alloc] at this⟩
theorem Ends.next {W W' : World} {lo : Nat} {x : EP} {B1 B2 : Nat} (h : Ends W lo x B1 B2) (hb : Below W.heap.size W W') : Ends W' lo x B1 B2 := ⟨h.h1, h.h2, h.c1.next hb, h.c2.next hb⟩
theorem Ends.p1 {W : World} {lo : Nat} {x : EP} {B1 B2 : Nat} (h : Ends W lo x B1 B2) : AtP W B1 x.1.1 x.1.2 := ⟨h.c1.lt, h.c1.cell rfl, h.c1.cell rfl⟩
theorem Ends.p2 {W : World} {lo : Nat} {x : EP} {B1 B2 : Nat} (h : Ends W lo x B1 B2) : AtP W B2 x.2.1 x.2.2 := ⟨h.c2.lt, h.c2.cell rfl, h.c2.cell rfl⟩
theorem keepsBelow8 {W W' : World} (hb : Below W.heap.size W W') : KeepsOthers W W' := ⟨hb.size, fun k _ hk _ => (hb.block k (Array.getElem?_eq_some_iff.1 hk).1).trans hk⟩
end Go.Proofs.YtcifokihellcdaaDoor
