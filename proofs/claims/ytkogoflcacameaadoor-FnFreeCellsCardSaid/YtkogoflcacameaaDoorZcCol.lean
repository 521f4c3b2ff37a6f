/- Several of my texts in one: Pl8, Cs8, Ed8, Con8, Sm8, Do8. -/
import Derived.Outline
import Derived.Deep.Cut
import Derived.Deep.DeepCutAuto
import Derived.Test.YtkogoflcacameaaDoorZbKt
import Derived.Test.YtkogoflcacameaaDoorZbRow
import Derived.Test.YtkogoflcacameaaDoorZbNum
import Derived.Test.YtkogoflcacameaaDoorZbGeo
import Derived.Test.YtkogoflcacameaaDoorZcPts
import Derived.WalkKit
import Derived.RangeFuncNested
import Derived.RangeFuncBound
import Derived.RangeFuncCalls
import Derived.RangeFuncLeaves
import Derived.Shelf.Abstract
import Derived.Shelf.RegionOpen
import Derived.OwnWalkIn
import Derived.TacticsInMore
import Derived.LoopNIn
import Derived.LoopIn
import Derived.BigQuiet
namespace Go.Proofs.YtkogoflcacameaaDoor
set_option maxRecDepth 100000
open Go.RowKit
attribute [local go_sem ↓] Go.wp_at_zero Go.wp_at_succ
/-- The slice reads as ps. -/
def PL (w : World) (a : Option Addr) (len : Nat) (ps : List P2) : Prop :=
  len = ps.length ∧ (len = 0 ∨ ∃ b o, a = some ⟨b, o, none⟩ ∧ b < w.heap.size ∧ ∀ i, i < len → w.cell? ⟨b, o + i * 2, none⟩ = some (.int .i64 (cor ps i).1) ∧ w.cell? ⟨b, o + i * 2 + 1, none⟩ = some (.int .i64 (cor ps i).2))
theorem PL.next {w w' : World} {a : Option Addr} {len : Nat} {ps : List P2} (h : PL w a len ps) (hb : Below w.heap.size w w') : PL w' a len ps :=
  ⟨h.1, h.2.imp id fun ⟨b, o, h1, h2, h3⟩ => ⟨b, o, h1, Nat.lt_of_lt_of_le h2 hb.size, fun i hi => ⟨(hb.cell (p := ⟨b, o + i * 2, none⟩) h2).trans (h3 i hi).1, (hb.cell (p := ⟨b, o + i * 2 + 1, none⟩) h2).trans (h3 i hi).2⟩⟩⟩
theorem PL.somes {w : World} {a : Option Addr} {len : Nat} {ps : List P2} (h : PL w a len ps) (hl : 1 ≤ len) : ∃ b o, a = some ⟨b, o, none⟩ ∧ b < w.heap.size ∧ ∀ i, i < len → w.cell? ⟨b, o + i * 2, none⟩ = some (.int .i64 (cor ps i).1) ∧ w.cell? ⟨b, o + i * 2 + 1, none⟩ = some (.int .i64 (cor ps i).2) := by
  rcases h.2 with h2 | h2
  · omega
  · exact h2
theorem PL.keep {w w' : World} {b o len : Nat} {ps : List P2} (h : PL w (some ⟨b, o, none⟩) len ps) (hs : w.heap.size ≤ w'.heap.size) (kb : w'.heap[b]? = w.heap[b]?) : PL w' (some ⟨b, o, none⟩) len ps := by
  refine ⟨h.1, h.2.imp id ?_⟩
  rintro ⟨b', o', h1, h2, h3⟩
  simp only [Option.some.injEq, Addr.mk.injEq, and_true] at h1
  obtain ⟨rfl, rfl⟩ := h1
  have hc : ∀ k : Nat, w'.cell? ⟨b, k, none⟩ = w.cell? ⟨b, k, none⟩ := fun k => World.cell?_of_block (a := ⟨b, k, none⟩) kb
  exact ⟨b, o, rfl, Nat.lt_of_lt_of_le h2 hs, fun i hi => ⟨(hc _).trans (h3 i hi).1, (hc _).trans (h3 i hi).2⟩⟩
theorem PtsAt.pl {w : World} {a : Option Addr} {len : Nat} {ps : List P2} (h : PtsAt w a len ps) : PL w a len ps := by
  refine ⟨h.1, ?_⟩
  rcases h.2 with h2 | ⟨b, h1, h2, h3⟩
  · left; rw [h.1, h2]; rfl
  · right; exact ⟨b, 0, h1, h2, fun i hi => by rw [Nat.zero_add]; exact h3 i (by rw [← h.1]; exact hi)⟩
theorem cor_drop (ps : List P2) (k i : Nat) : cor (ps.drop k) i = cor ps (k + i) := by
  unfold cor; rw [List.getD_eq_getElem?_getD, List.getD_eq_getElem?_getD, List.getElem?_drop]
theorem cor_take {ps : List P2} {k i : Nat} (h : i < k) : cor (ps.take k) i = cor ps i := by
  unfold cor; rw [List.getD_eq_getElem?_getD, List.getD_eq_getElem?_getD, List.getElem?_take, if_pos h]
/-- A part of the slice. -/
theorem PL.sub {w : World} {b o len : Nat} {ps : List P2} (h : PL w (some ⟨b, o, none⟩) len ps) {i j : Nat} (hij : i ≤ j) (hj : j ≤ len) : PL w (some ⟨b, o + i * 2, none⟩) (j - i) ((ps.take j).drop i) := by
  have hl := h.1
  refine ⟨by simp; omega, ?_⟩
  rcases h.2 with h2 | ⟨b', o', h1, h2, h3⟩
  · left; omega
  · simp only [Option.some.injEq, Addr.mk.injEq, and_true] at h1
    obtain ⟨rfl, rfl⟩ := h1
    right
    refine ⟨b, o + i * 2, rfl, h2, fun k hk => ?_⟩
    have := h3 (i + k) (by omega)
    rw [cor_drop, cor_take (by omega), show o + i * 2 + k * 2 = o + (i + k) * 2 by omega]
    exact this
/-- The corner behind. -/
theorem tmod_nx (ps : List P2) (j : Nat) : ((j : Int) + 1).tmod (ps.length : Int) = (nx ps j : Nat) := by
  unfold nx
  rw [show ((j : Int) + 1) = ((j + 1 : Nat) : Int) by omega]
  exact Int.ofNat_tmod _ _
end Go.Proofs.YtkogoflcacameaaDoor
namespace Go.Proofs.YtkogoflcacameaaDoor
set_option maxRecDepth 100000
open Go.RowKit
/-- Block b holds these cells. -/
def Cells8 (W : World) (b : Nat) (cs : Array Value) (t : TypeId) : Prop := W.heap[b]? = some (.cells cs t (0, 0))
theorem Cells8.lt {W : World} {b : Nat} {cs : Array Value} {t : TypeId} (h : Cells8 W b cs t) : b < W.heap.size := (Array.getElem?_eq_some_iff.1 h).1
theorem Cells8.cell {W : World} {b i : Nat} {cs : Array Value} {t : TypeId} {v : Value} (h : Cells8 W b cs t) (hv : cs[i]? = some v) : W.cell? ⟨b, i, none⟩ = some v := by
  simp [World.cell?, show W.heap[b]? = _ from h, hv]
theorem Cells8.frozen {W : World} {b i : Nat} {cs : Array Value} {t : TypeId} (h : Cells8 W b cs t) : W.frozen? ⟨b, i, none⟩ = false := by
  simp [World.frozen?, show W.heap[b]? = _ from h]
theorem Cells8.new (W : World) (cs : Array Value) (t : TypeId) : Cells8 (W.alloc (.cells cs t)) W.heap.size cs t := by
  show (W.heap.push _)[W.heap.size]? = _
  simp
theorem Cells8.next {W W' : World} {b : Nat} {cs : Array Value} {t : TypeId} (h : Cells8 W b cs t) (hb : Below W.heap.size W W') : Cells8 W' b cs t := (hb.block b h.lt).trans h
theorem Cells8.alloc {W : World} {b : Nat} {cs : Array Value} {t : TypeId} (h : Cells8 W b cs t) (o : Obj) : Cells8 (W.alloc o) b cs t := h.next (below_box W o)
theorem Cells8.set {W : World} {b : Nat} {cs : Array Value} {t : TypeId} (h : Cells8 W b cs t) (i : Nat) (v : Value) : Cells8 (W.setCell ⟨b, i, none⟩ v) b (cs.setIfInBounds i v) t := by
  obtain ⟨hlt, hk⟩ := Array.getElem?_eq_some_iff.1 h
  show (W.heap.modify b _)[b]? = _
  rw [Array.getElem?_eq_getElem (by rw [Array.size_modify]; exact hlt), Array.getElem_modify_self, hk]
  rfl
theorem Cells8.other {W : World} {b c i : Nat} {cs : Array Value} {t : TypeId} (h : Cells8 W b cs t) (hne : b ≠ c) (v : Value) : Cells8 (W.setCell ⟨c, i, none⟩ v) b cs t :=
  (Below.heap_setCell W ⟨c, i, none⟩ v b hne).trans h
end Go.Proofs.YtkogoflcacameaaDoor
namespace Go.Proofs.YtkogoflcacameaaDoor
set_option maxRecDepth 100000
open Go.RowKit Go.Shelf
attribute [local go_sem] Oper.semAt_some
theorem cells8_own {β : Type} (b : Nat) (t : TypeId) (f : β → Array Value) : Own (fun s W => Cells8 W b (f s) t) := fun s X Y row hs hg hrow =>
  (hg.block b hs.lt (fun e' => by obtain ⟨o, ho, hc⟩ := hrow b e'.symm; rw [show X.heap[b]? = _ from hs] at ho; cases ho; cases hc)).trans hs
/-- An edge: a corner and the next one. -/
abbrev EP := P2 × P2
abbrev encE (x : EP) : Array Value := #[pt x.1.1 x.1.2, pt x.2.1 x.2.2]
def edgeL (ps : List P2) (k : Nat) : List EP := (List.range k).map fun i => (cor ps i, cor ps (nx ps i))
theorem edgeL_succ (ps : List P2) (k : Nat) : edgeL ps (k + 1) = edgeL ps k ++ [(cor ps k, cor ps (nx ps k))] := by unfold edgeL; rw [List.range_succ, List.map_append]; rfl
theorem edgeL_len (ps : List P2) (k : Nat) : (edgeL ps k).length = k := by simp [edgeL]
/-- What the iterator reads. -/
structure EdAt (w : World) (Bp : Nat) (a : Option Addr) (len cap : Nat) (ps : List P2) : Prop where
  box : Cells8 w Bp #[.slice a len cap] 106
  pts : PL w a len ps
theorem EdAt.next {w w' : World} {Bp : Nat} {a : Option Addr} {len cap : Nat} {ps : List P2} (h : EdAt w Bp a len cap ps) (hb : Below w.heap.size w w') : EdAt w' Bp a len cap ps := ⟨h.box.next hb, h.pts.next hb⟩
theorem EdAt.keep {w w' : World} {Bp : Nat} {a : Option Addr} {len cap : Nat} {ps : List P2} (h : EdAt w Bp a len cap ps) (hs : w.heap.size ≤ w'.heap.size) (kb : w'.heap[Bp]? = w.heap[Bp]?) (kp : 1 ≤ len → ∀ b o, a = some ⟨b, o, none⟩ → w'.heap[b]? = w.heap[b]?) : EdAt w' Bp a len cap ps := by
  refine ⟨kb.trans h.box, ?_⟩
  have q := h.pts
  by_cases hl : 1 ≤ len
  · obtain ⟨b, o, rfl, _⟩ := q.somes hl
    exact q.keep hs (kp hl b o rfl)
  · exact ⟨q.1, .inl (by omega)⟩
theorem abides8 {β : Type} {B : Nat} {J : β → World → Prop} (h : AbidesFrom B J) {s : β} {W W' : World} (hs : J s W) (hb : Below W.heap.size W W') : J s W' :=
  h s W W' none hs ⟨hb.os, hb.tape, hb.output, hb.size, fun k hk _ => hb.block k hk⟩ (fun r e => by cases e)
/-- A round's answer under one name. -/
def Said8 {α : Type} (J Jx : List α → World → Prop) (xs : List α) (Kp : World → World → Prop) (W : World) (b : Bool) (W' : World) : Prop := (b = true ∧ J xs W' ∧ Kp W W') ∨ (b = false ∧ Jx xs W')
theorem said8 {F : Fence} {n : Nat} {P : Program} {l : Nat} {f : FuncId} {tmps : Array Value} {assign body : Go.Code} {W : World} {α : Type} {J Jx : List α → World → Prop} {xs : List α} {Kp : World → World → Prop}
    (h : RoundIn F n P l f tmps assign body W fun e W' => (e = .returned (.bool true) ∧ J xs W' ∧ Kp W W') ∨ (e = .returned (.bool false) ∧ Jx xs W')) :
    RoundIn F n P l f tmps assign body W fun e W' => ∃ b : Bool, e = .returned (.bool b) ∧ Hid (Said8 J Jx xs Kp W b W') :=
  h.mono fun e W' hh => by
    rcases hh with ⟨rfl, h1, h2⟩ | ⟨rfl, h1⟩
    · exact ⟨true, rfl, Lib.hid (.inl ⟨rfl, h1, h2⟩)⟩
    · exact ⟨false, rfl, Lib.hid (.inr ⟨rfl, h1⟩)⟩
theorem edgesC (a : Option Addr) (len cap : Nat) (ps : List P2) (w : World) (hp : PL w a len ps) :
    Calls Tryd.prog 80 #[.slice a len cap] w fun e w' => ∃ Bp, e = .returned (.func (.func 91) #[] #[.pointer (some ⟨Bp, 0, none⟩)]) ∧ EdAt w' Bp a len cap ps ∧ Below w.heap.size w w' ∧ w.heap.size ≤ Bp := by
  have hmf : ∀ (fn : Fn) (first cap : Array Value) (w : World), (Instr.makeFunc fn first cap).run Tryd.prog w = .ok (.func fn first cap) w := fun _ _ _ _ => rfl
  have HB := Lib.hid (below_box w (.cells #[.slice a len cap] 106))
  have HS := Lib.hid (show EdAt (w.alloc (.cells #[.slice a len cap] 106)) w.heap.size a len cap ps from ⟨Cells8.new w _ _, hp.next HB.out⟩)
  clear hp
  go_enter Tryd.func80, Tryd.ntmps80
  go_wp2
  go_ret
  exact ⟨w.heap.size, rfl, HS.out, HB.out, Nat.le_refl _⟩
set_option maxHeartbeats 2000000 in
theorem edgesStopsG {α : Type} (enc : α → Array Value) (f : Nat → α) (Kp : World → World → Prop) (Bp : Nat) (a : Option Addr) (len cap : Nat) (ps : List P2) (w : World) (hK : ∀ W W', Kp W W' → EdAt W Bp a len cap ps → EdAt W' Bp a len cap ps) (hS : EdAt w Bp a len cap ps) (hl : len ≤ 1000) (hf : ∀ i, i < ps.length → enc (f i) = #[pt (cor ps i).1 (cor ps i).2, pt (cor ps (nx ps i)).1 (cor ps (nx ps i)).2]) (n : Nat) :
    SeqStopsK Fence.wide n Tryd.prog 91 #[.pointer (some ⟨Bp, 0, none⟩)] enc Kp (fun ys => ys = (List.range ps.length).map f) (fun ys => ∃ k, k ≤ ps.length ∧ ys = (List.range k).map f) ps.length w := by
  intro l J Jx W hW hJ _ hY h0
  have HY := Lib.hid hY
  have HJ := Lib.hid (fun s A B (hs : J s A) (hb : Below A.heap.size A B) => abides8 hJ hs hb)
  have HW0 := Lib.hid (hS.next hW)
  have HKP := Lib.hid hK
  have H00 := Lib.hid h0
  have HLE := Lib.hid hS.pts.1
  clear hY hJ hS hW h0 hK
  refine callsIn_of_wp Tryd.func91 rfl trivial ?_ rfl
  simp only [Tryd.ntmps91, List.size_toArray, List.length_cons, List.length_nil, Nat.reduceAdd, Nat.reduceSub, Array.replicate_succ, Array.replicate_zero, List.push_toArray, List.append_toArray, List.nil_append, List.cons_append]
  have s0 := HW0.out.box.cell (i := 0) rfl
  gi_wp2
  clear s0
  gi_loopw [7] (fun i wr => ∃ j : Nat, j ≤ len ∧ i = .int .i64 (j : Int) ∧ Hid (J ((List.range j).map f) wr) ∧ Hid (EdAt wr Bp a len cap ps)) (fun i _ => len - (intOf i).toNat)
  case atStart => exact ⟨0, Nat.zero_le _, rfl, H00, HW0⟩
  case round =>
    obtain ⟨j, hj, rfl, HJ1, HW1⟩ := hrel
    clear H00 HW0
    by_cases hlt : j < len
    · have j1 : (0 : Int) ≤ (j : Int) := by omega
      have j2 : (j : Int) < (len : Int) := by omega
      obtain ⟨b, o, rfl, lt, hc⟩ := HW1.out.pts.somes (by omega)
      have HLT := Lib.hid lt
      have HC := Lib.hid hc
      have d1 := (hc j hlt).1
      have d2 := (hc j hlt).2
      have HNX := Lib.hid (show (List.range (j + 1)).map f = (List.range j).map f ++ [f j] by rw [List.range_succ, List.map_append]; rfl)
      have HF := Lib.hid (hf j (by rw [← HLE.out]; exact hlt))
      have HLL := Lib.hid (show ((List.range j).map f).length < ps.length by rw [List.length_map, List.length_range, ← HLE.out]; exact hlt)
      have HMD := Lib.hid (show ((j : Int) + 1).tmod (len : Int) = (nx ps j : Nat) ∧ nx ps j < len by
        rw [HLE.out] at hlt ⊢; exact ⟨tmod_nx ps j, nx_lt hlt⟩)
      have HM := Lib.hid (hc (nx ps j) HMD.out.2)
      clear hc lt
      generalize nx ps j = m at *
      have HWb := Lib.hid (HW1.out.next (below_box wr (.cells #[.int .i64 (cor ps j).1, .int .i64 (cor ps j).2] 89)))
      have HJb := Lib.hid (HJ.out _ _ _ HJ1.out (below_box wr (.cells #[.int .i64 (cor ps j).1, .int .i64 (cor ps j).2] 89)))
      have HMb := Lib.hid (And.intro (((below_box wr (.cells #[.int .i64 (cor ps j).1, .int .i64 (cor ps j).2] 89)).cell (p := ⟨b, o + m * 2, none⟩) HLT.out).trans HM.out.1) (((below_box wr (.cells #[.int .i64 (cor ps j).1, .int .i64 (cor ps j).2] 89)).cell (p := ⟨b, o + m * 2 + 1, none⟩) HLT.out).trans HM.out.2))
      have HLb := Lib.hid (show b < (wr.alloc (.cells #[.int .i64 (cor ps j).1, .int .i64 (cor ps j).2] 89)).heap.size by have := HLT.out; simp; omega)
      have Q := AtP.box wr (cor ps j).1 (cor ps j).2 89
      gi_wp2
      clear d1 d2
      generalize wr.alloc (.cells #[.int .i64 (cor ps j).1, .int .i64 (cor ps j).2] 89) = w3 at *
      obtain ⟨u0, u1⟩ := Q.kepts
      have u2 : ∀ q : Kept w3, q.u.cell? ⟨Bp, 0, none⟩ = some (.slice (some ⟨b, o, none⟩) len cap) := keptCell HWb.out.box.lt (HWb.out.box.cell (i := 0) rfl)
      have u3 := keptCell (b := b) (o := o + m * 2) HLb.out HMb.out.1
      have u4 := keptCell (b := b) (o := o + m * 2 + 1) HLb.out HMb.out.2
      have hmd := HMD.out.1
      have m1 : (0 : Int) ≤ (m : Int) := by omega
      have m2 : (m : Int) < (len : Int) := by have := HMD.out.2; omega
      have hne : ¬ len = 0 := by omega
      have hne2 : ¬ (len : Int) = 0 := by omega
      refine wpIn_region_tail 10 (by kernel_rfl) (by kernel_rfl) ?_
      simp only [List.take_succ_cons, List.take_zero, List.drop_succ_cons, List.drop_zero]
      repeat (go_big_quiet_want; go_big_quiet_op; go_big_quiet_on)
      refine wpQuiet_nil ?_
      rintro w5 ⟨⟨_, K5⟩, rfl⟩
      obtain ⟨fn, tmps, assign, body, hy, hR⟩ := HY.out _ (f j) w5 (HJ.out _ _ _ HJb.out K5) HLL.out
      rw [HF.out] at hy
      have HW5 := Lib.hid (HWb.out.next K5)
      clear u0 u1 u2 u3 u4
      gi_wp2
      refine ⟨(by intro h; cases h), ?_⟩
      refine (said8 hR).mono ?_
      rintro e w6 ⟨bb, rfl, S6⟩
      cases bb with
      | true =>
        have HS6 : Hid (J ((List.range (j + 1)).map f) w6 ∧ Kp w5 w6) := Lib.hid (by
          rw [HNX.out]
          rcases S6.out with ⟨_, h1, h2⟩ | ⟨h1, _⟩
          · exact ⟨h1, h2⟩
          · cases h1)
        have HW6 := Lib.hid (HKP.out _ _ HS6.out.2 HW5.out)
        clear S6 hy hR
        gi_wp2
        go_roundw
        case rel => exact ⟨j + 1, by omega, by congr 1, Lib.hid HS6.out.1, HW6⟩
        case measure => simp [intOf]; omega
      | false =>
        have HS6 : Hid (Jx ((List.range j).map f ++ [f j]) w6) := Lib.hid (by
          rcases S6.out with ⟨h1, _⟩ | ⟨_, h1⟩
          · cases h1
          · exact h1)
        clear S6 hy hR
        gi_wp2
        refine bodyPost_ret (results_none rfl _ _ _) rfl ?_
        exact ⟨⟨_, rfl⟩, .inr ⟨(List.range (j + 1)).map f, ⟨j + 1, by have := HLE.out; omega, rfl⟩, by rw [HNX.out]; exact HS6.out⟩⟩
    · obtain rfl : j = len := by omega
      have HE := Lib.hid HLE.out
      gi_wp2
      go_end0
      exact ⟨⟨_, rfl⟩, .inl ⟨_, rfl, by rw [← HE.out]; exact HJ1.out⟩⟩
theorem edgesStopsK (Kp : World → World → Prop) (Bp : Nat) (a : Option Addr) (len cap : Nat) (ps : List P2) (w : World) (hK : ∀ W W', Kp W W' → EdAt W Bp a len cap ps → EdAt W' Bp a len cap ps) (hS : EdAt w Bp a len cap ps) (hl : len ≤ 1000) (n : Nat) :
    SeqStopsK Fence.wide n Tryd.prog 91 #[.pointer (some ⟨Bp, 0, none⟩)] encE Kp (fun ys => ys = edgeL ps ps.length) (fun ys => ∃ k, k ≤ ps.length ∧ ys = edgeL ps k) ps.length w :=
  edgesStopsG encE (fun i => (cor ps i, cor ps (nx ps i))) Kp Bp a len cap ps w hK hS hl (fun _ _ => rfl) n
theorem edge_mem {ps : List P2} {k : Nat} (hk : k ≤ ps.length) {x : EP} (h : x ∈ edgeL ps k) : ∃ i, i < ps.length ∧ x = (cor ps i, cor ps (nx ps i)) := by
  unfold edgeL at h
  obtain ⟨i, hi, e⟩ := List.mem_map.1 h
  exact ⟨i, by have := List.mem_range.1 hi; omega, e.symm⟩
theorem mem_edge {ps : List P2} {i : Nat} (hi : i < ps.length) : (cor ps i, cor ps (nx ps i)) ∈ edgeL ps ps.length := by
  unfold edgeL; exact List.mem_map.2 ⟨i, List.mem_range.2 hi, rfl⟩
theorem all_edges {ps : List P2} {C : EP → Prop} (h : ∀ x ∈ edgeL ps ps.length, C x) : ∀ i, i < ps.length → C (cor ps i, cor ps (nx ps i)) := fun _ hi => h _ (mem_edge hi)
theorem ex_edge {ps : List P2} {k : Nat} (hk : k ≤ ps.length) {C : EP → Prop} (h : ∃ x ∈ edgeL ps k, C x) : ∃ i, i < ps.length ∧ C (cor ps i, cor ps (nx ps i)) := by
  obtain ⟨x, hx, hc⟩ := h
  obtain ⟨i, hi, rfl⟩ := edge_mem hk hx
  exact ⟨i, hi, hc⟩
theorem all_snoc {C : EP → Prop} {pre : List EP} {x : EP} (h : ∀ y ∈ pre, C y) (hx : C x) : ∀ y ∈ pre ++ [x], C y := fun y hy => by
  rcases List.mem_append.1 hy with q | q
  · exact h y q
  · rw [List.mem_singleton.1 q]; exact hx
theorem ex_snoc {C : EP → Prop} {pre : List EP} {x : EP} (hx : C x) : ∃ y ∈ pre ++ [x], C y := ⟨x, by simp, hx⟩
theorem EdAt.keepB {w w' : World} {Bp : Nat} {a : Option Addr} {len cap : Nat} {ps : List P2} {W : World} (h0 : EdAt w Bp a len cap ps) (h : EdAt W Bp a len cap ps) (hk : Below w.heap.size W w') : EdAt w' Bp a len cap ps :=
  h.keep hk.size (hk.block _ h0.box.lt) (fun hz b o e => by
    have := h0.pts; rw [e] at this
    obtain ⟨b', o', e2, lt, _⟩ := this.somes hz
    simp only [Option.some.injEq, Addr.mk.injEq, and_true] at e2
    rw [e2.1]; exact hk.block _ lt)
/-- What a search over the edges keeps between two rounds: none so far has what is sought; what lay before lies there. -/
def Seek (C : EP → Prop) (w3 : World) (pre : List EP) (W : World) : Prop := (∀ x ∈ pre, ¬ C x) ∧ Below w3.heap.size w3 W
/-- .. and when it has left. -/
def Found (C : EP → Prop) (w : World) (R : Nat) (v : Value) (c : Go.Code) (pre : List EP) (W : World) : Prop := c = .ret ∧ (∃ x ∈ pre, C x) ∧ Cells8 W R #[v] 4 ∧ Below w.heap.size w W
theorem seek_own {C : EP → Prop} {w3 : World} : OwnFrom w3.heap.size (Seek C w3) :=
  OwnFrom.and (ownFrom_pure _ (fun pre => ∀ x ∈ pre, ¬ C x)) (ownFrom_below (Nat.le_refl _) (Nat.le_refl _))
theorem found_own {C : EP → Prop} {w : World} {R : Nat} {v : Value} {B : Nat} (hB : w.heap.size ≤ B) (c : Go.Code) : OwnFrom B (Found C w R v c) :=
  OwnFrom.and (ownFrom_pure B (fun _ => c = .ret)) (OwnFrom.and (ownFrom_pure B (fun pre => ∃ x ∈ pre, C x)) (OwnFrom.and (Own.from (cells8_own R _ (fun _ => #[v])) _) (ownFrom_below (Nat.le_refl _) hB)))
/-- The two boxes of a round. -/
structure Ends (W : World) (lo : Nat) (x : EP) (B1 B2 : Nat) : Prop where
  h1 : lo ≤ B1
  h2 : lo ≤ B2
  c1 : Cells8 W B1 #[.int .i64 x.1.1, .int .i64 x.1.2] 89
  c2 : Cells8 W B2 #[.int .i64 x.2.1, .int .i64 x.2.2] 89
theorem ends_own {lo : Nat} {x : EP} {B1 B2 : Nat} {B : Nat} : OwnFrom B (fun (_ : Unit) W => Ends W lo x B1 B2) := fun _ X Y row hs hg hr =>
  ⟨hs.h1, hs.h2, cells8_own B1 _ (fun (_ : Unit) => _) () X Y row hs.c1 hg (fun r e => (hr r e).2), cells8_own B2 _ (fun (_ : Unit) => _) () X Y row hs.c2 hg (fun r e => (hr r e).2)⟩
theorem Ends.new (W : World) {lo : Nat} (hl : lo ≤ W.heap.size) (x : EP) : Ends ((W.alloc (.cells #[.int .i64 x.1.1, .int .i64 x.1.2] 89)).alloc (.cells #[.int .i64 x.2.1, .int .i64 x.2.2] 89)) lo x W.heap.size (W.heap.size + 1) :=
  ⟨hl, by omega, (Cells8.new W _ _).alloc _, by have := Cells8.new (W.alloc (.cells #[.int .i64 x.1.1, .int .i64 x.1.2] 89)) #[.int .i64 x.2.1, .int .i64 x.2.2] 89; rwa [World.size_alloc] at this⟩
theorem Ends.next {W W' : World} {lo : Nat} {x : EP} {B1 B2 : Nat} (h : Ends W lo x B1 B2) (hb : Below W.heap.size W W') : Ends W' lo x B1 B2 := ⟨h.h1, h.h2, h.c1.next hb, h.c2.next hb⟩
theorem Ends.p1 {W : World} {lo : Nat} {x : EP} {B1 B2 : Nat} (h : Ends W lo x B1 B2) : AtP W B1 x.1.1 x.1.2 := ⟨h.c1.lt, h.c1.cell rfl, h.c1.cell rfl⟩
theorem Ends.p2 {W : World} {lo : Nat} {x : EP} {B1 B2 : Nat} (h : Ends W lo x B1 B2) : AtP W B2 x.2.1 x.2.2 := ⟨h.c2.lt, h.c2.cell rfl, h.c2.cell rfl⟩
theorem keepsBelow8 {W W' : World} (hb : Below W.heap.size W W') : KeepsOthers W W' := ⟨hb.size, fun k _ hk _ => (hb.block k (Array.getElem?_eq_some_iff.1 hk).1).trans hk⟩
end Go.Proofs.YtkogoflcacameaaDoor
namespace Go.Proofs.YtkogoflcacameaaDoor
set_option maxRecDepth 100000
open Go.RowKit Go.Shelf
attribute [local go_sem] Oper.semAt_some
theorem oriC (a b c : P2) (w : World) : Calls Tryd.prog 92 #[pt a.1 a.2, pt b.1 b.2, pt c.1 c.2] w fun e w' => e = .returned (.int .i64 (ori a b c)) ∧ Below w.heap.size w w' :=
  implOrientation a.1 a.2 b.1 b.2 c.1 c.2 w
set_option maxHeartbeats 1000000 in
theorem cornersLeft (a : Option Addr) (len cap : Nat) (ps : List P2) (p q : P2) (w : World) (hp : PL w a len ps) (hl : len ≤ 1000) :
    Calls Tryd.prog 81 #[.slice a len cap, pt p.1 p.2, pt q.1 q.2] w fun e w' => e = .returned (.int .i64 (leftN ps p q ps.length : Nat)) ∧ Below w.heap.size w w' := by
  have HLE := Lib.hid hp.1
  have HB := Lib.hid (below_box2 w (.cells #[.int .i64 p.1, .int .i64 p.2] 89) (.cells #[.int .i64 q.1, .int .i64 q.2] 89))
  have HP := Lib.hid (hp.next HB.out)
  have HQ := Lib.hid (And.intro ((AtP.box w p.1 p.2 89).next (below_box _ (.cells #[.int .i64 q.1, .int .i64 q.2] 89))) (AtP.box (w.alloc (.cells #[.int .i64 p.1, .int .i64 p.2] 89)) q.1 q.2 89))
  clear hp
  go_enter Tryd.func81, Tryd.ntmps81
  go_wp2
  generalize (w.alloc (.cells #[.int .i64 p.1, .int .i64 p.2] 89)).alloc (.cells #[.int .i64 q.1, .int .i64 q.2] 89) = w0 at *
  go_loopw [7, 12] (fun c i wr => ∃ j : Nat, j ≤ len ∧ i = .int .i64 (j : Int) ∧ c = .int .i64 (leftN ps p q j : Nat) ∧ Hid (Below w0.heap.size w0 wr)) (fun _ i _ => len - (intOf i).toNat)
  case atStart => exact ⟨0, Nat.zero_le _, rfl, rfl, Lib.hid (Below.refl _ _)⟩
  case round =>
    obtain ⟨j, hj, rfl, rfl, HW⟩ := hrel
    by_cases hlt : j < len
    · have HP1 := Lib.hid (HP.out.next HW.out)
      have HQ1 := Lib.hid (And.intro (HQ.out.1.next HW.out) (HQ.out.2.next HW.out))
      obtain ⟨b, o, rfl, lt, hc⟩ := HP1.out.somes (by omega)
      have d1 := (hc j hlt).1
      have d2 := (hc j hlt).2
      have HC := Lib.hid (oriC p q (cor ps j))
      have HST := Lib.hid (show leftN ps p q (j + 1) = leftN ps p q j + if 0 < ori p q (cor ps j) then 1 else 0 from rfl)
      have HBD := Lib.hid (cnt_le (fun i => 0 < ori p q (cor ps i)) j)
      change Hid (leftN ps p q j ≤ j) at HBD
      clear hc
      generalize cor ps j = c at *
      generalize ori p q c = ov at *
      generalize leftN ps p q j = n1 at *
      have b1 : (0 : Int) ≤ (n1 : Int) := by omega
      have b2 : (n1 : Int) ≤ 1000 := by have := HBD.out; omega
      have j1 : (0 : Int) ≤ (j : Int) := by omega
      have j2 : (j : Int) < (len : Int) := by omega
      obtain ⟨_, q1, q2⟩ := HQ1.out.1.next (below_box wr (.cells #[.int .i64 c.1, .int .i64 c.2] 89))
      obtain ⟨_, q3, q4⟩ := HQ1.out.2.next (below_box wr (.cells #[.int .i64 c.1, .int .i64 c.2] 89))
      simp only [World.size_alloc] at q3 q4
      by_cases hk : 0 < ov
      · have hd : decide (ov > 0) = true := decide_eq_true hk
        have HN := Lib.hid (show leftN ps p q (j + 1) = n1 + 1 by rw [HST.out, if_pos hk])
        go_wp2_with fail
        refine (HC.out _).mono ?_
        rintro e w1 ⟨rfl, B1⟩
        have HW2 := Lib.hid (below_call (below_call HW.out (below_box wr (.cells #[.int .i64 c.1, .int .i64 c.2] 89))) B1)
        clear B1 d1 d2 q1 q2 q3 q4
        go_wp2
        go_roundw
        case rel => exact ⟨j + 1, by omega, by congr 1, by rw [HN.out]; rfl, HW2⟩
        case measure => simp [intOf]; omega
      · have hd : decide (ov > 0) = false := decide_eq_false hk
        have HN := Lib.hid (show leftN ps p q (j + 1) = n1 by rw [HST.out, if_neg hk]; rfl)
        go_wp2_with fail
        refine (HC.out _).mono ?_
        rintro e w1 ⟨rfl, B1⟩
        have HW2 := Lib.hid (below_call (below_call HW.out (below_box wr (.cells #[.int .i64 c.1, .int .i64 c.2] 89))) B1)
        clear B1 d1 d2 q1 q2 q3 q4
        go_wp2
        go_roundw
        case rel => exact ⟨j + 1, by omega, by congr 1, by rw [HN.out], HW2⟩
        case measure => simp [intOf]; omega
    · obtain rfl : j = len := by omega
      have HN := Lib.hid HLE.out
      go_wp2
      go_ret
      exact ⟨by rw [HN.out]; rfl, below_call HB.out HW.out⟩
set_option maxHeartbeats 2000000 in
theorem convexIn (a : Option Addr) (len cap : Nat) (ps : List P2) (w : World) (hp : PL w a len ps) (h3 : 3 ≤ len) (h8 : len ≤ 8) :
    Calls Tryd.prog 68 #[.slice a len cap] w fun e w' => e = .returned (.bool (decide (okCvx ps))) ∧ Below w.heap.size w w' := by
  refine (callsIn_wide (n := 9)).1 ?_
  have HLE := Lib.hid hp.1
  have HCV := Lib.hid (cvx_count (ps := ps) (by rw [← hp.1]; exact h3) (by rw [← hp.1]; exact h8))
  have HB := Lib.hid (below_box2 w (.cells #[.slice a len cap] 106) (.cells #[.bool false] 4))
  have HP := Lib.hid (hp.next HB.out)
  have HX := Lib.hid ((Cells8.new w #[.slice a len cap] 106).alloc (.cells #[.bool false] 4))
  have HR := Lib.hid (Cells8.new (w.alloc (.cells #[.slice a len cap] 106)) #[.bool false] 4)
  have j3 : (3 : Int) ≤ (len : Int) := by omega
  have j8 : (len : Int) ≤ 8 := by omega
  have k3 : ¬ (len : Int) < 3 := by omega
  have k8 : ¬ (8 : Int) < (len : Int) := by omega
  clear hp
  refine callsIn_of_wp_marks Tryd.func68 rfl trivial ?_ rfl
  simp only [Tryd.ntmps68, List.size_toArray, List.length_cons, List.length_nil, Nat.reduceAdd, Nat.reduceSub, Array.replicate_succ, Array.replicate_zero, List.push_toArray, List.append_toArray, List.nil_append, List.cons_append]
  gi_wp2
  rw [World.size_alloc] at HR
  generalize (w.alloc (.cells #[.slice a len cap] 106)).alloc (.cells #[.bool false] 4) = w2 at *
  refine ⟨trivial, ?_⟩
  refine (callsIn_wide.2 (edgesC a len cap ps w2 HP.out)).mono ?_
  rintro e w3 ⟨Bp, rfl, S3, B3, k1⟩
  have HS3 := Lib.hid S3
  have HX3 := Lib.hid (HX.out.next B3)
  have HR3 := Lib.hid (HR.out.next B3)
  have HB3 := Lib.hid (below_call HB.out B3)
  have hs2 := HR.out.lt
  have hs3 := B3.size
  clear S3 B3 HX HR HB HP
  gi_wp2
  refine wpIn_rangeFunc_ownH rfl (by omega) (gf := 91) (lb := #[.pointer (some ⟨Bp, 0, none⟩)]) rfl trivial (fun args w => by kernel_rfl)
    (edgesStopsK (Below w3.heap.size) Bp a len cap ps w3 (fun _ _ hk h => HS3.out.keepB h hk) HS3.out (by omega) 8)
    belowK_t (belowK_b (Nat.le_refl _)) (Below.refl _ _) (fun _ => rfl)
    (Seek (fun x => leftN ps x.1 x.2 ps.length ≠ ps.length - 2) w3)
    (Found (fun x => leftN ps x.1 x.2 ps.length ≠ ps.length - 2) w (w.heap.size + 1) (.bool false))
    seek_own (found_own (by omega))
    ⟨fun _ h => (by cases h), Below.refl _ _⟩
    (fun x a' W => ∃ B1 B2, Ends W w3.heap.size x B1 B2 ∧ a' = { tmps := #[.slice a len cap, .pointer (some ⟨w.heap.size, 0, none⟩), .pointer (some ⟨w.heap.size + 1, 0, none⟩), .pointer (some ⟨B1, 0, none⟩), .pointer (some ⟨B2, 0, none⟩), .slice a len cap,
          .int .i64 (len : Nat), .bool false, .bool false, .slice a len cap, .int .i64 (len : Nat), .bool false, .bool false, .slice a len cap,
          .func (.func 91) #[] #[.pointer (some ⟨Bp, 0, none⟩)], pt x.1.1 x.1.2, pt x.2.1 x.2.2, undef, undef, undef, undef, undef, undef, undef, undef], defers := [] })
    (fun x a' _ X Y row hs hg hr => by obtain ⟨B1, B2, h1, h2⟩ := hs; exact ⟨B1, B2, ends_own () X Y row h1 hg hr, h2⟩)
    ?assign ?body ?done ?stop
  case assign =>
    rintro l pre x W K ⟨h1, h3⟩ hK
    have hsz := h3.size
    have HK := Lib.hid (hK _ _ ((keepsBelow8 (below_box2 W (.cells #[.int .i64 x.1.1, .int .i64 x.1.2] 89) (.cells #[.int .i64 x.2.1, .int .i64 x.2.2] 89))).from _) ((below_box2 W _ _).mono hsz) ⟨h1, below_call h3 (below_box2 W _ _)⟩ ⟨W.heap.size, W.heap.size + 1, Ends.new W hsz x, rfl⟩)
    clear hK h1 h3
    gi_wp2
    exact HK.out
  case body =>
    rintro l pre x a' W hl ⟨r', hr⟩ ⟨h1, h3⟩ ⟨B1, B2, E, rfl⟩ hlen
    have HE := Lib.hid E
    have H1 := Lib.hid h1
    have H3 := Lib.hid h3
    have HPW := Lib.hid (HS3.out.pts.next h3)
    have HXW := Lib.hid (HX3.out.next h3)
    have HRW := Lib.hid (HR3.out.next h3)
    clear h1 h3 E hlen hr
    have HCL := Lib.hid (fun (q : Kept W) => keptCall (cornersLeft a len cap ps x.1 x.2 q.u (HPW.out.next q.b) (by omega)))
    have u0 : ∀ q : Kept W, q.u.cell? ⟨w.heap.size, 0, none⟩ = some (.slice a len cap) := keptCell HXW.out.lt (HXW.out.cell (i := 0) rfl)
    obtain ⟨u1, u2⟩ := HE.out.p1.kepts
    obtain ⟨u3, u4⟩ := HE.out.p2.kepts
    refine wpIn_block (wpIn_seq ?_)
    refine wpIn_region_tailR 7 (by kernel_rfl) (by kernel_rfl) (by kernel_rfl) ?_
    simp only [List.take_succ_cons, List.take_zero, List.drop_succ_cons, List.drop_zero]
    repeat (go_big_quiet_step ((go_at_call 81; exact HCL.out _)))
    refine wpQuiet_nil ?_
    rintro w5 ⟨⟨_, K5⟩, rfl⟩
    have HR5 := Lib.hid (HRW.out.next K5)
    have r0 := HR5.out.cell (i := 0) rfl
    have f0 := HR5.out.frozen (i := 0)
    clear u0 u1 u2 u3 u4 HCL
    by_cases hC : leftN ps x.1 x.2 ps.length ≠ ps.length - 2
    · have HCC := Lib.hid hC
      have hd : ((leftN ps x.1 x.2 ps.length : Nat) : Int) ≠ (len : Int) - 2 := by have := HLE.out; omega
      have hd2 : (((leftN ps x.1 x.2 ps.length : Nat) : Int) == (len : Int) - 2) = false := by simpa using hd
      have hd3 : (((leftN ps x.1 x.2 ps.length : Nat) : Int) != (len : Int) - 2) = true := by simpa using hd
      clear hC
      gi_wp2
      exact ⟨((keepsBelow8 K5).trans (KeepsOthers.setCell _ _ _)).from _, rfl, ex_snoc HCC.out, HR5.out.set 0 _, (below_call (below_call HB3.out H3.out) K5).setCell (p := ⟨w.heap.size + 1, 0, none⟩) (by show w.heap.size ≤ w.heap.size + 1; omega) _⟩
    · have HCC := Lib.hid hC
      have hd : ((leftN ps x.1 x.2 ps.length : Nat) : Int) = (len : Int) - 2 := by have := HLE.out; omega
      have hd2 : (((leftN ps x.1 x.2 ps.length : Nat) : Int) != (len : Int) - 2) = false := by simpa using hd
      clear hC hd
      gi_wp2
      exact ⟨(keepsBelow8 K5).from _, K5.mono H3.out.size, all_snoc H1.out HCC.out, below_call H3.out K5⟩
  case done =>
    rintro D ys W hD rfl ⟨h1, h3⟩ hK
    have HV := Lib.hid (show (true : Bool) = decide (okCvx ps) from (decide_eq_true (HCV.out.1 fun k hk => Classical.byContradiction fun q => all_edges h1 k hk q)).symm)
    have HRW := Lib.hid (HR3.out.next h3)
    have HBW := Lib.hid (below_call HB3.out h3)
    have HK := Lib.hid hK
    have HD := Lib.hid hD
    have r0 := HRW.out.cell (i := 0) rfl
    have f0 := HRW.out.frozen (i := 0)
    clear h1 h3 hK hD
    gi_wp2
    have hK6 := (KeepsOthers.setCell W ⟨w.heap.size + 1, 0, none⟩ (.bool true)).same D _ HK.out rfl
    refine ⟨by simp, .inl ⟨_, _, rfl, run_takeDeferred hK6, ?_⟩⟩
    have hne : w.heap.size + 1 ≠ D := by have := HD.out; omega
    have q := (World.putObj_heap_other (w := W.setCell ⟨w.heap.size + 1, 0, none⟩ (.bool true)) (o := .deferred none) hne).trans (HRW.out.set 0 (.bool true))
    have q0 := Cells8.cell (i := 0) q rfl
    refine ⟨.bool true, by simp [results, Tryd.results68, go_sem, q0], ?_, (HBW.out.setCell (p := ⟨w.heap.size + 1, 0, none⟩) (by show w.heap.size ≤ w.heap.size + 1; omega) _).trans (belowK_b (w := w) (Nat.le_refl _) _ D _ _ (by have := HD.out; omega) hK6 rfl rfl)⟩
    rw [HV.out]
  case stop =>
    rintro D c pre W hD ⟨k, hk, rfl⟩ ⟨rfl, h1, h2, h3⟩ hK
    have HV := Lib.hid (show (false : Bool) = decide (okCvx ps) from (decide_eq_false fun ok => by obtain ⟨i, hi, hc⟩ := ex_edge hk h1; exact hc (HCV.out.2 ok i hi)).symm)
    have HRW := Lib.hid h2
    have HBW := Lib.hid h3
    have HK := Lib.hid hK
    have HD := Lib.hid hD
    clear h1 h2 h3 hK hD
    gi_wp2
    refine ⟨by simp, .inl ⟨_, _, rfl, run_takeDeferred HK.out, ?_⟩⟩
    have hne : w.heap.size + 1 ≠ D := by have := HD.out; omega
    have q := (World.putObj_heap_other (w := W) (o := .deferred none) hne).trans HRW.out
    have q0 := Cells8.cell (i := 0) q rfl
    refine ⟨.bool false, by simp [results, Tryd.results68, go_sem, q0], ?_, HBW.out.trans (belowK_b (w := w) (Nat.le_refl _) _ D _ _ (by have := HD.out; omega) HK.out rfl rfl)⟩
    rw [HV.out]
theorem convexC (a : Option Addr) (len cap : Nat) (ps : List P2) (w : World) (hp : PL w a len ps) (hl : len ≤ 9223372036854775807) :
    Calls Tryd.prog 68 #[.slice a len cap] w fun e w' => e = .returned (.bool (decide (okCvx ps))) ∧ Below w.heap.size w w' := by
  have HLE := Lib.hid hp.1
  have HB := Lib.hid (below_box2 w (.cells #[.slice a len cap] 106) (.cells #[.bool false] 4))
  by_cases h3 : 3 ≤ len
  · by_cases h8 : len ≤ 8
    · exact convexIn a len cap ps w hp h3 h8
    · have HV := Lib.hid (show (false : Bool) = decide (okCvx ps) from (decide_eq_false fun ok => by have := HLE.out; have := ok.2.1; omega).symm)
      have j3 : ¬ (len : Int) < 3 := by omega
      have j8 : (8 : Int) < (len : Int) := by omega
      clear hp
      go_enter Tryd.func68, Tryd.ntmps68
      go_wp2
      exact bodyPost_ret (v := .bool false) (by simp [results, Tryd.results68, go_sem]) rfl ⟨by rw [HV.out], HB.out⟩
  · have HV := Lib.hid (show (false : Bool) = decide (okCvx ps) from (decide_eq_false fun ok => by have := HLE.out; have := ok.1; omega).symm)
    have j3 : (len : Int) < 3 := by omega
    clear hp
    go_enter Tryd.func68, Tryd.ntmps68
    go_wp2
    exact bodyPost_ret (v := .bool false) (by simp [results, Tryd.results68, go_sem]) rfl ⟨by rw [HV.out], HB.out⟩
theorem implConvexValid (a : Option Addr) (len cap : Nat) (ps : List P2) (w : World) (hp : PL w a len ps) (hl : len ≤ 9223372036854775807) :
    Calls Tryd.prog 51 #[.slice a len cap] w fun e w' => e = .returned (.bool (decide (okCvx ps))) ∧ Below w.heap.size w w' := by
  have HC := Lib.hid (convexC a len cap ps w hp hl)
  clear hp
  go_enter Tryd.func51, Tryd.ntmps51
  go_wp2_with fail
  refine HC.out.mono ?_
  rintro e w1 ⟨rfl, B1⟩
  have HB := Lib.hid B1
  clear B1
  go_wp2
  go_ret
  exact ⟨rfl, HB.out⟩
end Go.Proofs.YtkogoflcacameaaDoor
namespace Go.Proofs.YtkogoflcacameaaDoor
set_option maxRecDepth 100000
open Go.RowKit
attribute [local go_sem ↓] Go.wp_at_zero Go.wp_at_succ
/-- The program's words, for whatever points. -/
def smV (a b c d : P2) : Prop := (spans a.1 b.1 c.1 d.1 ∧ spans a.2 b.2 c.2 d.2) ∧ ori a b c * ori a b d ≤ 0 ∧ ori c d a * ori c d b ≤ 0
instance (a b c d : P2) : Decidable (smV a b c d) := by unfold smV; infer_instance
def conV (ps : List P2) (p : P2) : Prop := ∀ k, k < ps.length → 0 ≤ ori (cor ps k) (cor ps (nx ps k)) p
noncomputable instance (ps : List P2) (p : P2) : Decidable (conV ps p) := Classical.propDecidable _
def hitV (ps : List P2) (p q : P2) : Prop := conV ps p ∨ ∃ k, k < ps.length ∧ smV p q (cor ps k) (cor ps (nx ps k))
noncomputable instance (ps : List P2) (p q : P2) : Decidable (hitV ps p q) := Classical.propDecidable _
def metV (ps qs : List P2) : Prop := (∃ k, k < ps.length ∧ hitV qs (cor ps k) (cor ps (nx ps k))) ∨ conV ps (cor qs 0)
noncomputable instance (ps qs : List P2) : Decidable (metV ps qs) := Classical.propDecidable _
/-- What the searches seek at an edge. -/
def outE (p : P2) (x : EP) : Prop := ori x.1 x.2 p < 0
def segE (p q : P2) (x : EP) : Prop := smV p q x.1 x.2
def hitE (qs : List P2) (x : EP) : Prop := hitV qs x.1 x.2
theorem ori_nonneg {a b c : P2} (ha : okQ a) (hb : okQ b) (hc : okQ c) : 0 ≤ ori a b c ↔ 0 ≤ cr a b c := by
  rw [ori_ok ⟨ha, hb, hc⟩]
  rcases sgn_cases (cr a b c) with ⟨k, e⟩ | ⟨k, e⟩ | ⟨k, e⟩ <;> rw [e] <;> omega
theorem smV_iff {a b c d : P2} (ha : okQ a) (hb : okQ b) (hc : okQ c) (hd : okQ d) : smV a b c d ↔ Meet a b c d := by
  rw [← sm_iff]
  unfold smV SM parts
  rw [ori_ok ⟨ha, hb, hc⟩, ori_ok ⟨ha, hb, hd⟩, ori_ok ⟨hc, hd, ha⟩, ori_ok ⟨hc, hd, hb⟩]
  exact ⟨fun ⟨⟨h1, h2⟩, h3, h4⟩ => ⟨h1, h2, h3, h4⟩, fun ⟨h1, h2, h3, h4⟩ => ⟨⟨h1, h2⟩, h3, h4⟩⟩
theorem conV_iff {ps : List P2} {p : P2} (hp : okPts ps) (hq : okQ p) : conV ps p ↔ Ins ps p := by
  constructor
  · intro h k hk; exact (ori_nonneg (hp.cor hk) (hp.cor (nx_lt hk)) hq).1 (h k hk)
  · intro h k hk; exact (ori_nonneg (hp.cor hk) (hp.cor (nx_lt hk)) hq).2 (h k hk)
/-- The document's word for a segment and a polygon. -/
def Hit (ps : List P2) (p q : P2) : Prop := (Ins ps p ∨ Ins ps q) ∨ ∃ k, k < ps.length ∧ Meet p q (cor ps k) (cor ps (nx ps k))
noncomputable instance (ps : List P2) (p q : P2) : Decidable (Hit ps p q) := Classical.propDecidable _
theorem hitV_iff {ps : List P2} {p q : P2} (hp : okCvx ps) (h1 : okQ p) (h2 : okQ q) : hitV ps p q ↔ Hit ps p q := by
  unfold hitV
  rw [conV_iff hp.2.2.1 h1]
  have e : (∃ k, k < ps.length ∧ smV p q (cor ps k) (cor ps (nx ps k))) ↔ ∃ k, k < ps.length ∧ Meet p q (cor ps k) (cor ps (nx ps k)) :=
    ⟨fun ⟨k, hk, h⟩ => ⟨k, hk, (smV_iff h1 h2 (hp.2.2.1.cor hk) (hp.2.2.1.cor (nx_lt hk))).1 h⟩, fun ⟨k, hk, h⟩ => ⟨k, hk, (smV_iff h1 h2 (hp.2.2.1.cor hk) (hp.2.2.1.cor (nx_lt hk))).2 h⟩⟩
  rw [e]
  constructor
  · rintro (h | h)
    · exact .inl (.inl h)
    · exact .inr h
  · rintro ((h | h) | h)
    · exact .inl h
    · by_cases hi : Ins ps p
      · exact .inl hi
      · obtain ⟨j, hj, hm⟩ := leaves hp.ccw hp.1 h hi
        exact .inr ⟨j, hj, hm.swap⟩
    · exact .inr h
theorem metV_iff {ps qs : List P2} (hp : okCvx ps) (hq : okCvx qs) : metV ps qs ↔ CMeet ps qs := by
  unfold metV
  have h0 : 0 < qs.length := by have := hq.1; omega
  rw [conV_iff hp.2.2.1 (hq.2.2.1.cor h0)]
  unfold CMeet
  constructor
  · rintro (⟨k, hk, h⟩ | h)
    · exact .inl ⟨k, hk, (hitV_iff hq (hp.2.2.1.cor hk) (hp.2.2.1.cor (nx_lt hk))).1 h⟩
    · exact .inr h
  · rintro (⟨k, hk, h⟩ | h)
    · exact .inl ⟨k, hk, (hitV_iff hq (hp.2.2.1.cor hk) (hp.2.2.1.cor (nx_lt hk))).2 h⟩
    · exact .inr h
theorem box4 (w : World) (a b c d : P2) : let w0 := (((w.alloc (.cells #[.int .i64 a.1, .int .i64 a.2] 89)).alloc (.cells #[.int .i64 b.1, .int .i64 b.2] 89)).alloc (.cells #[.int .i64 c.1, .int .i64 c.2] 89)).alloc (.cells #[.int .i64 d.1, .int .i64 d.2] 89)
    AtP w0 w.heap.size a.1 a.2 ∧ AtP w0 (w.heap.size + 1) b.1 b.2 ∧ AtP w0 (w.heap.size + 1 + 1) c.1 c.2 ∧ AtP w0 (w.heap.size + 1 + 1 + 1) d.1 d.2 := by
  have k1 := AtP.box w a.1 a.2 89
  have k2 := AtP.box (w.alloc (.cells #[.int .i64 a.1, .int .i64 a.2] 89)) b.1 b.2 89
  have k3 := AtP.box ((w.alloc (.cells #[.int .i64 a.1, .int .i64 a.2] 89)).alloc (.cells #[.int .i64 b.1, .int .i64 b.2] 89)) c.1 c.2 89
  have k4 := AtP.box (((w.alloc (.cells #[.int .i64 a.1, .int .i64 a.2] 89)).alloc (.cells #[.int .i64 b.1, .int .i64 b.2] 89)).alloc (.cells #[.int .i64 c.1, .int .i64 c.2] 89)) d.1 d.2 89
  simp only [World.size_alloc] at k2 k3 k4
  exact ⟨((k1.next (below_box _ _)).next (below_box _ _)).next (below_box _ _), (k2.next (below_box _ _)).next (below_box _ _), k3.next (below_box _ _), k4⟩
theorem spansC (a b c d : Int) (w : World) : Calls Tryd.prog 95 #[.int .i64 a, .int .i64 b, .int .i64 c, .int .i64 d] w fun e w' => e = .returned (.bool (decide (spans a b c d))) ∧ w = w' := by
  by_cases h1 : min a b ≤ max c d
  · have HN := Lib.hid h1
    go_enter Tryd.func95, Tryd.ntmps95
    go_wp2
    all_goals (go_ret; refine ⟨ret_bool (Bool.eq_iff_iff.2 ?_), rfl⟩; simp only [decide_eq_true_eq]; have := HN.out; clear h1; unfold spans; omega)
  · have HN := Lib.hid h1
    go_enter Tryd.func95, Tryd.ntmps95
    go_wp2
    all_goals (go_ret; refine ⟨ret_bool (Bool.eq_iff_iff.2 ?_), rfl⟩; simp only [decide_eq_true_eq, Bool.false_eq_true, false_iff]; have := HN.out; clear h1; unfold spans; omega)
theorem ori_sm (a b c : P2) : -1 ≤ ori a b c ∧ ori a b c ≤ 1 := by
  unfold ori oriV
  split
  · rcases sgn_cases (crossV a.1 a.2 b.1 b.2 c.1 c.2) with ⟨_, e⟩ | ⟨_, e⟩ | ⟨_, e⟩ <;> rw [e] <;> omega
  · omega
theorem prod_sm {p q : Int} (h1 : -1 ≤ p) (h2 : p ≤ 1) (h3 : -1 ≤ q) (h4 : q ≤ 1) : -1 ≤ p * q ∧ p * q ≤ 1 := by
  obtain rfl | rfl | rfl : p = -1 ∨ p = 0 ∨ p = 1 := by omega
  all_goals omega
set_option maxHeartbeats 1000000 in
theorem partsC (a b c d : P2) (w : World) : Calls Tryd.prog 96 #[pt a.1 a.2, pt b.1 b.2, pt c.1 c.2, pt d.1 d.2] w fun e w' => e = .returned (.bool (decide (ori a b c * ori a b d ≤ 0))) ∧ Below w.heap.size w w' := by
  have HB := Lib.hid (below_box4 w (.cells #[.int .i64 a.1, .int .i64 a.2] 89) (.cells #[.int .i64 b.1, .int .i64 b.2] 89) (.cells #[.int .i64 c.1, .int .i64 c.2] 89) (.cells #[.int .i64 d.1, .int .i64 d.2] 89))
  have HX := Lib.hid (box4 w a b c d)
  have o1 := ori_sm a b c
  have o2 := ori_sm a b d
  have HC := Lib.hid (oriC a b c)
  have HD := Lib.hid (oriC a b d)
  have HM := Lib.hid (prod_sm o1.1 o1.2 o2.1 o2.2)
  clear o1 o2
  generalize ori a b c = p at *
  generalize ori a b d = q at *
  go_enter Tryd.func96, Tryd.ntmps96
  go_upto_region 1 with fail
  generalize (((w.alloc (.cells #[.int .i64 a.1, .int .i64 a.2] 89)).alloc (.cells #[.int .i64 b.1, .int .i64 b.2] 89)).alloc (.cells #[.int .i64 c.1, .int .i64 c.2] 89)).alloc (.cells #[.int .i64 d.1, .int .i64 d.2] 89) = w0 at *
  obtain ⟨P1, P2, P3, P4⟩ := HX.out
  obtain ⟨a1, a2⟩ := P1.kepts
  obtain ⟨b1, b2⟩ := P2.kepts
  obtain ⟨c1, c2⟩ := P3.kepts
  obtain ⟨d1, d2⟩ := P4.kepts
  have HCK := Lib.hid (fun (n : Kept w0) => keptCall (HC.out n.u))
  have HDK := Lib.hid (fun (n : Kept w0) => keptCall (HD.out n.u))
  have m1 := HM.out.1
  have m2 := HM.out.2
  clear P1 P2 P3 P4
  refine wp_region_kept (by kernel_rfl) (by kernel_rfl) ?_
  repeat (go_big_quiet_step ((first | (go_at_call 92; with_reducible exact HCK.out _) | (go_at_call 92; with_reducible exact HDK.out _))))
  refine wpQuiet_nil ?_
  rintro w5 ⟨⟨_, K5⟩, rfl⟩
  have HF := Lib.hid (below_call HB.out K5)
  clear a1 a2 b1 b2 c1 c2 d1 d2 HCK HDK
  go_wp2
  go_ret
  exact ⟨rfl, HF.out⟩
set_option maxHeartbeats 2000000 in
theorem segC (a b c d : P2) (w : World) : Calls Tryd.prog 85 #[pt a.1 a.2, pt b.1 b.2, pt c.1 c.2, pt d.1 d.2] w fun e w' => e = .returned (.bool (decide (smV a b c d))) ∧ Below w.heap.size w w' := by
  have HB := Lib.hid (below_box4 w (.cells #[.int .i64 a.1, .int .i64 a.2] 89) (.cells #[.int .i64 b.1, .int .i64 b.2] 89) (.cells #[.int .i64 c.1, .int .i64 c.2] 89) (.cells #[.int .i64 d.1, .int .i64 d.2] 89))
  have HX := Lib.hid (box4 w a b c d)
  have H1 := Lib.hid (fun u => spansC a.1 b.1 c.1 d.1 u)
  have H2 := Lib.hid (fun u => spansC a.2 b.2 c.2 d.2 u)
  have H3 := Lib.hid (fun u => partsC a b c d u)
  have H4 := Lib.hid (fun u => partsC c d a b u)
  by_cases k1 : spans a.1 b.1 c.1 d.1
  · rw [decide_eq_true k1] at H1
    by_cases k2 : spans a.2 b.2 c.2 d.2
    · rw [decide_eq_true k2] at H2
      by_cases k3 : ori a b c * ori a b d ≤ 0
      · have HV := Lib.hid (show decide (ori c d a * ori c d b ≤ 0) = decide (smV a b c d) from Bool.eq_iff_iff.2 (by simp only [decide_eq_true_eq]; exact ⟨fun h => ⟨⟨k1, k2⟩, k3, h⟩, fun h => h.2.2⟩))
        rw [decide_eq_true k3] at H3
        generalize decide (ori c d a * ori c d b ≤ 0) = bb at *
        generalize decide (smV a b c d) = rr at *
        clear k1 k2 k3
        go_enter Tryd.func85, Tryd.ntmps85
        go_wp2_with fail
        refine (H1.out _).mono ?_
        rintro e w' ⟨rfl, rfl⟩
        go_wp2_with fail
        refine (H2.out _).mono ?_
        rintro e w' ⟨rfl, rfl⟩
        go_wp2_with fail
        refine (H3.out _).mono ?_
        rintro e w1 ⟨rfl, B1⟩
        obtain ⟨P1, P2, P3, P4⟩ := HX.out
        obtain ⟨_, a1, a2⟩ := P1.next B1
        obtain ⟨_, b1, b2⟩ := P2.next B1
        obtain ⟨_, c1, c2⟩ := P3.next B1
        obtain ⟨_, d1, d2⟩ := P4.next B1
        have HB1 := Lib.hid (below_call HB.out B1)
        clear P1 P2 P3 P4 B1
        go_wp2_with fail
        refine (H4.out _).mono ?_
        rintro e w2 ⟨rfl, B2⟩
        have HB2 := Lib.hid (below_call HB1.out B2)
        clear B2 a1 a2 b1 b2 c1 c2 d1 d2
        go_wp2
        go_ret
        exact ⟨ret_bool HV.out, HB2.out⟩
      · have HV := Lib.hid (show false = decide (smV a b c d) from (decide_eq_false fun h => k3 h.2.1).symm)
        rw [decide_eq_false k3] at H3
        generalize decide (smV a b c d) = rr at *
        clear k1 k2 k3
        go_enter Tryd.func85, Tryd.ntmps85
        go_wp2_with fail
        refine (H1.out _).mono ?_
        rintro e w' ⟨rfl, rfl⟩
        go_wp2_with fail
        refine (H2.out _).mono ?_
        rintro e w' ⟨rfl, rfl⟩
        go_wp2_with fail
        refine (H3.out _).mono ?_
        rintro e w1 ⟨rfl, B1⟩
        have HB1 := Lib.hid (below_call HB.out B1)
        clear B1
        go_wp2
        go_ret
        exact ⟨ret_bool HV.out, HB1.out⟩
    · have HV := Lib.hid (show false = decide (smV a b c d) from (decide_eq_false fun h => k2 h.1.2).symm)
      rw [decide_eq_false k2] at H2
      generalize decide (smV a b c d) = rr at *
      clear k1 k2
      go_enter Tryd.func85, Tryd.ntmps85
      go_wp2_with fail
      refine (H1.out _).mono ?_
      rintro e w' ⟨rfl, rfl⟩
      go_wp2_with fail
      refine (H2.out _).mono ?_
      rintro e w' ⟨rfl, rfl⟩
      go_wp2
      go_ret
      exact ⟨ret_bool HV.out, HB.out⟩
  · have HV := Lib.hid (show false = decide (smV a b c d) from (decide_eq_false fun h => k1 h.1.1).symm)
    rw [decide_eq_false k1] at H1
    generalize decide (smV a b c d) = rr at *
    clear k1
    go_enter Tryd.func85, Tryd.ntmps85
    go_wp2_with fail
    refine (H1.out _).mono ?_
    rintro e w' ⟨rfl, rfl⟩
    go_wp2
    go_ret
    exact ⟨ret_bool HV.out, HB.out⟩
end Go.Proofs.YtkogoflcacameaaDoor
namespace Go.Proofs.YtkogoflcacameaaDoor
set_option maxRecDepth 100000
open Go.RowKit
attribute [local go_sem ↓] Go.wp_at_zero Go.wp_at_succ
set_option maxHeartbeats 1000000 in
theorem l8OnC (a b p : P2) (w : World) : Calls Tryd.prog 90 #[pt a.1 a.2, pt b.1 b.2, pt p.1 p.2] w fun e w' => e = .returned (.bool (decide (OnB a b p))) ∧ Below w.heap.size w w' := by
  have HB := Lib.hid (below_box3 w (.cells #[.int .i64 a.1, .int .i64 a.2] 89) (.cells #[.int .i64 b.1, .int .i64 b.2] 89) (.cells #[.int .i64 p.1, .int .i64 p.2] 89))
  by_cases h1 : min a.1 b.1 ≤ p.1 ∧ p.1 ≤ max a.1 b.1
  · have H1 := Lib.hid h1
    by_cases h2 : min a.2 b.2 ≤ p.2 ∧ p.2 ≤ max a.2 b.2
    · have HV := Lib.hid (show true = decide (OnB a b p) from (decide_eq_true (p := OnB a b p) ⟨h1, h2⟩).symm)
      have H2 := Lib.hid h2
      generalize decide (OnB a b p) = rr at *
      clear h1 h2
      go_enter Tryd.func90, Tryd.ntmps90
      go_wp2_with (go_at_call 57; first | refine (l1In_yes _ _ _ _ (by have := H1.out; omega) (by have := H1.out; omega)).mono ?_ | refine (l1In_yes _ _ _ _ (by have := H2.out; omega) (by have := H2.out; omega)).mono ?_; rintro e w' ⟨rfl, rfl⟩)
      all_goals (go_ret; exact ⟨ret_bool HV.out, HB.out⟩)
    · have HV := Lib.hid (show false = decide (OnB a b p) from (decide_eq_false fun k => h2 k.2).symm)
      have H2 := Lib.hid h2
      generalize decide (OnB a b p) = rr at *
      clear h1 h2
      go_enter Tryd.func90, Tryd.ntmps90
      go_wp2_with (go_at_call 57; first | refine (l1In_yes _ _ _ _ (by have := H1.out; omega) (by have := H1.out; omega)).mono ?_ | refine (l1In_no _ _ _ _ (by have := H2.out; omega)).mono ?_; rintro e w' ⟨rfl, rfl⟩)
      all_goals (go_ret; exact ⟨ret_bool HV.out, HB.out⟩)
  · have HV := Lib.hid (show false = decide (OnB a b p) from (decide_eq_false fun k => h1 k.1).symm)
    have H1 := Lib.hid h1
    generalize decide (OnB a b p) = rr at *
    clear h1
    go_enter Tryd.func90, Tryd.ntmps90
    go_wp2_with (go_at_call 57; refine (l1In_no _ _ _ _ (by have := H1.out; omega)).mono ?_; rintro e w' ⟨rfl, rfl⟩)
    all_goals (go_ret; exact ⟨ret_bool HV.out, HB.out⟩)
theorem crossC (a b c : P2) (w : World) (ha : okQ a) (hb : okQ b) (hc : okQ c) : Calls Tryd.prog 78 #[pt a.1 a.2, pt b.1 b.2, pt c.1 c.2] w fun e w' => e = .returned (.int .i64 (cr a b c)) ∧ Below w.heap.size w w' :=
  l2Cross a.1 a.2 b.1 b.2 c.1 c.2 w ha hb hc
theorem cr_bd {a b c : P2} (ha : okQ a) (hb : okQ b) (hc : okQ c) : -800000000 ≤ cr a b c ∧ cr a b c ≤ 800000000 := by
  unfold okQ okP at ha hb hc
  have m1 := mul_bd8 (x := b.1 - a.1) (y := c.2 - a.2) (by omega) (by omega) (by omega) (by omega)
  have m2 := mul_bd8 (x := b.2 - a.2) (y := c.1 - a.1) (by omega) (by omega) (by omega) (by omega)
  unfold cr; omega
theorem meet_sgn (a b c d : P2) : Meet a b c d ↔ (sgn (cr a b c) ≠ sgn (cr a b d) ∧ sgn (cr c d a) ≠ sgn (cr c d b)) ∨ (sgn (cr a b c) = 0 ∧ OnB a b c) ∨ (sgn (cr a b d) = 0 ∧ OnB a b d) ∨ (sgn (cr c d a) = 0 ∧ OnB c d a) ∨ (sgn (cr c d b) = 0 ∧ OnB c d b) := by
  have z : ∀ n : Int, sgn n = 0 ↔ n = 0 := fun n => by rcases sgn_cases n with ⟨k, e⟩ | ⟨k, e⟩ | ⟨k, e⟩ <;> rw [e] <;> omega
  rw [z, z, z, z]; rfl
end Go.Proofs.YtkogoflcacameaaDoor
