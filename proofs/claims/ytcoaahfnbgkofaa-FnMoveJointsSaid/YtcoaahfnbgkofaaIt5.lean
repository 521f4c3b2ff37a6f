/- The program's iterator over the speeds of a motion. -/
import Derived.RangeFuncNested
import Derived.RangeFuncBound
import Derived.RangeFuncCalls
import Derived.RangeFuncLeaves
import Derived.Shelf.Abstract
import Derived.Shelf.RegionOpen
import Derived.WalkKit
import Derived.OwnWalkIn
import Derived.TacticsInMore
import Derived.LoopNIn
import Derived.LoopIn
import Derived.Test.YtcoaahfnbgkofaaDn5
import Derived.Test.YtcoaahfnbgkofaaMp5
namespace Go.Proofs.Ytcoaahfnbgkofaa
set_option maxRecDepth 100000
open Go.RowKit Go.Shelf
attribute [local go_sem] Oper.semAt_some
theorem abidesM {β : Type} {B : Nat} {J : β → World → Prop} (h : AbidesFrom B J) {s : β} {W W' : World} (hs : J s W) (hb : Below W.heap.size W W') : J s W' :=
  h s W W' none hs ⟨hb.os, hb.tape, hb.output, hb.size, fun k hk _ => hb.block k hk⟩ (fun r e => by cases e)
/-- A round's answer under one name. -/
def SaidM (J Jx : List Int → World → Prop) (xs : List Int) (Kp : World → World → Prop) (W : World) (b : Bool) (W' : World) : Prop := (b = true ∧ J xs W' ∧ Kp W W') ∨ (b = false ∧ Jx xs W')
theorem saidM {F : Fence} {n : Nat} {P : Program} {l : Nat} {f : FuncId} {tmps : Array Value} {assign body : Go.Code} {W : World} {J Jx : List Int → World → Prop} {xs : List Int} {Kp : World → World → Prop}
    (h : RoundIn F n P l f tmps assign body W fun e W' => (e = .returned (.bool true) ∧ J xs W' ∧ Kp W W') ∨ (e = .returned (.bool false) ∧ Jx xs W')) :
    RoundIn F n P l f tmps assign body W fun e W' => ∃ b : Bool, e = .returned (.bool b) ∧ Hid (SaidM J Jx xs Kp W b W') :=
  h.mono fun e W' hh => by
    rcases hh with ⟨rfl, h1, h2⟩ | ⟨rfl, h1⟩
    · exact ⟨true, rfl, Lib.hid (.inl ⟨rfl, h1, h2⟩)⟩
    · exact ⟨false, rfl, Lib.hid (.inr ⟨rfl, h1⟩)⟩
/-- What the iterator over the speeds reads: the distance, and the limits through their pointer. -/
structure SpAt (w : World) (Bd Bp b : Nat) (d t r : Int) : Prop where
  ltd : Bd < w.heap.size
  ltp : Bp < w.heap.size
  cd : w.cell? ⟨Bd, 0, none⟩ = some (.int .i64 d)
  cp : w.cell? ⟨Bp, 0, none⟩ = some (.pointer (some ⟨b, 0, none⟩))
  dr : DrvAt w b t r 201
theorem SpAt.next {w w' : World} {Bd Bp b : Nat} {d t r : Int} (h : SpAt w Bd Bp b d t r) (hb : Below w.heap.size w w') : SpAt w' Bd Bp b d t r :=
  ⟨Nat.lt_of_lt_of_le h.ltd hb.size, Nat.lt_of_lt_of_le h.ltp hb.size, (hb.cell (p := ⟨Bd, 0, none⟩) h.ltd).trans h.cd, (hb.cell (p := ⟨Bp, 0, none⟩) h.ltp).trans h.cp, h.dr.next hb⟩
theorem SpAt.keep {w w' : World} {Bd Bp b : Nat} {d t r : Int} (h : SpAt w Bd Bp b d t r) (hs : w.heap.size ≤ w'.heap.size) (kd : w'.heap[Bd]? = w.heap[Bd]?) (kp : w'.heap[Bp]? = w.heap[Bp]?) (kb : w'.heap[b]? = w.heap[b]?) : SpAt w' Bd Bp b d t r := by
  have hc : ∀ (k o : Nat), w'.heap[k]? = w.heap[k]? → w'.cell? ⟨k, o, none⟩ = w.cell? ⟨k, o, none⟩ := fun k o e => World.cell?_of_block (a := ⟨k, o, none⟩) e
  have D := h.dr
  exact ⟨Nat.lt_of_lt_of_le h.ltd hs, Nat.lt_of_lt_of_le h.ltp hs, (hc _ _ kd).trans h.cd, (hc _ _ kp).trans h.cp, Nat.lt_of_lt_of_le D.lt hs, (hc _ _ kb).trans D.c0, (hc _ _ kb).trans D.c1, fun v h1 h2 => (hc _ _ kb).trans (D.c2 v h1 h2),
    fun v h1 => by obtain ⟨x, hx⟩ := D.c3 v h1; exact ⟨x, (hc _ _ kb).trans hx⟩, fun v => (World.frozen?_of_block (a := ⟨b, v, none⟩) kb).trans (D.fr v)⟩
theorem speedsC (b : Nat) (d t r : Int) (w : World) (hD : DrvAt w b t r 201) :
    Calls Try.prog 74 #[.pointer (some ⟨b, 0, none⟩), .int .i64 d] w fun e w' => ∃ Bd Bp, e = .returned (.func (.func 82) #[] #[.pointer (some ⟨Bd, 0, none⟩), .pointer (some ⟨Bp, 0, none⟩)]) ∧ SpAt w' Bd Bp b d t r ∧ Below w.heap.size w w' ∧ w.heap.size ≤ Bd ∧ w.heap.size ≤ Bp := by
  have hmf : ∀ (fn : Fn) (first cap : Array Value) (w : World), (Instr.makeFunc fn first cap).run Try.prog w = .ok (.func fn first cap) w := fun _ _ _ _ => rfl
  have HB := Lib.hid (below_box2 w (.cells #[.pointer (some ⟨b, 0, none⟩)] 83) (.cells #[.int .i64 d] 3))
  have HS := Lib.hid (show SpAt ((w.alloc (.cells #[.pointer (some ⟨b, 0, none⟩)] 83)).alloc (.cells #[.int .i64 d] 3)) (w.heap.size + 1) w.heap.size b d t r from
    ⟨by simp, by simp; omega, by simp, by simp, hD.next HB.out⟩)
  clear hD
  go_enter Try.func74, Try.ntmps74
  go_wp2
  go_ret
  exact ⟨w.heap.size + 1, w.heap.size, rfl, HS.out, HB.out, by omega, by omega⟩
set_option maxHeartbeats 2000000 in
theorem speedsStopsK (Kp : World → World → Prop) (Bd Bp b : Nat) (d t r : Int) (w : World) (hK : ∀ W W', Kp W W' → SpAt W Bd Bp b d t r → SpAt W' Bd Bp b d t r) (hS : SpAt w Bd Bp b d t r) (hm : okMove d t r) (n : Nat) :
    SeqStopsK Fence.wide n Try.prog 82 #[.pointer (some ⟨Bd, 0, none⟩), .pointer (some ⟨Bp, 0, none⟩)] (fun x : Int => #[.int .i64 x]) Kp (fun ys => ys = profL t r 0 d) (fun _ => True) (profL t r 0 d).length w := by
  intro l J Jx W hW hJ _ hY h0
  obtain ⟨⟨d0, d1⟩, ⟨t0, t1⟩, r0, r1⟩ := hm
  have HY := Lib.hid hY
  have HJ := Lib.hid (fun s A B (hs : J s A) (hb : Below A.heap.size A B) => abidesM hJ hs hb)
  have HW0 := Lib.hid (hS.next hW)
  have HKP := Lib.hid hK
  have H00 := Lib.hid h0
  clear hY hJ hS hW h0 hK
  refine callsIn_of_wp Try.func82 rfl trivial ?_ rfl
  simp only [Try.ntmps82, List.size_toArray, List.length_cons, List.length_nil, Nat.reduceAdd, Nat.reduceSub, Array.replicate_succ, Array.replicate_zero, List.push_toArray, List.append_toArray, List.nil_append, List.cons_append]
  obtain ⟨_, _, s0, s1, _⟩ := HW0.out
  gi_wp2
  clear s0 s1
  gi_loopw [4, 5] (fun v i wr => ∃ (v2 d2 : Int) (pre : List Int), v = .int .i64 v2 ∧ i = .int .i64 d2 ∧ 0 ≤ v2 ∧ v2 ≤ 200 ∧ 0 ≤ d2 ∧ d2 ≤ 5000 ∧ Hid (J pre wr) ∧ Hid (SpAt wr Bd Bp b d t r) ∧ Hid (pre ++ profL t r v2 d2 = profL t r 0 d)) (fun _ i _ => (intOf i).toNat)
  case atStart => exact ⟨0, d, [], rfl, rfl, by omega, by omega, d0, d1, H00, HW0, Lib.hid rfl⟩
  case round =>
    obtain ⟨v2, d2, pre, rfl, rfl, p0, p1, p2, p3, HJ1, HW1, HE⟩ := hrel
    clear H00 HW0
    by_cases hlt : 0 < d2
    · have n0 := nextI_pos v2 d2 t r (by omega) t0 r0 p0
      have n1 := nextI_hi v2 d2 t r t0 r0 p0
      have n2 := nextI_safe v2 d2 t r p2 r0
      have n3 := stopD_lo (nextI v2 d2 t r) r r0
      have HQ := Lib.hid (profL_step t r v2 d2 t0 r0 p0 hlt)
      have n4 : nextI v2 d2 t r ≤ d2 := by omega
      have n5 : nextI v2 d2 t r ≤ 200 := by omega
      clear n1 n2 n3
      have HS1 := Lib.hid HW1.out
      obtain ⟨_, _, s0, s1, _⟩ := HS1.out
      have HN := Lib.hid (driveNext b v2 d2 t r wr HS1.out.dr p0 p1 p2 p3 t0 t1 r0 r1)
      generalize nextI v2 d2 t r = x at *
      have HEX := Lib.hid (show (pre ++ [x]) ++ profL t r x (d2 - x) = profL t r 0 d by rw [← HE.out, HQ.out, List.append_assoc]; rfl)
      have HLT := Lib.hid (show pre.length < (profL t r 0 d).length by rw [← HE.out, HQ.out]; simp)
      have HJ2 := Lib.hid (HJ.out _ _ _ HJ1.out (below_drew' wr))
      have HW2 := Lib.hid (HW1.out.next (below_drew' wr))
      obtain ⟨fn, tmps, assign, body, hy, hR⟩ := HY.out pre x wr.drew HJ2.out HLT.out
      clear HQ HE HS1
      gi_wp2
      refine ⟨trivial, (by intro h; cases h), ?_⟩
      refine (callsIn_wide.2 HN.out).mono ?_
      rintro e w2 ⟨rfl, rfl⟩
      clear s0 s1
      gi_wp2
      refine ⟨(by intro h; cases h), ?_⟩
      refine (saidM hR).mono ?_
      rintro e w6 ⟨bb, rfl, S6⟩
      cases bb with
      | true =>
        have HS6 : Hid (J (pre ++ [x]) w6 ∧ Kp wr.drew w6) := Lib.hid (by
          rcases S6.out with ⟨_, h1, h2⟩ | ⟨h1, _⟩
          · exact ⟨h1, h2⟩
          · cases h1)
        have HW6 := Lib.hid (HKP.out _ _ HS6.out.2 HW2.out)
        clear S6 hy hR
        gi_wp2
        go_roundw
        case rel => exact ⟨x, d2 - x, pre ++ [x], rfl, rfl, by omega, n5, by omega, by omega, Lib.hid HS6.out.1, HW6, HEX⟩
        case measure => simp [intOf]; omega
      | false =>
        have HS6 : Hid (Jx (pre ++ [x]) w6) := Lib.hid (by
          rcases S6.out with ⟨h1, _⟩ | ⟨_, h1⟩
          · cases h1
          · exact h1)
        clear S6 hy hR
        gi_wp2
        refine bodyPost_ret (results_none rfl _ _ _) rfl ?_
        exact ⟨⟨_, rfl⟩, .inr ⟨_, trivial, HS6.out⟩⟩
    · gi_wp2
      go_end0
      exact ⟨⟨_, rfl⟩, .inl (by rw [← HE.out, profL_nil t r v2 d2 (by omega), List.append_nil]; exact HJ1.out)⟩
theorem speedsStops (Bd Bp b : Nat) (d t r : Int) (w : World) (hS : SpAt w Bd Bp b d t r) (hm : okMove d t r) (n : Nat) :
    SeqStopsK Fence.wide n Try.prog 82 #[.pointer (some ⟨Bd, 0, none⟩), .pointer (some ⟨Bp, 0, none⟩)] (fun x : Int => #[.int .i64 x]) (Below w.heap.size) (fun ys => ys = profL t r 0 d) (fun _ => True) (profL t r 0 d).length w :=
  speedsStopsK (Below w.heap.size) Bd Bp b d t r w (fun _ _ hb h => h.keep hb.size (hb.block _ hS.ltd) (hb.block _ hS.ltp) (hb.block _ hS.dr.lt)) hS hm n
end Go.Proofs.Ytcoaahfnbgkofaa
