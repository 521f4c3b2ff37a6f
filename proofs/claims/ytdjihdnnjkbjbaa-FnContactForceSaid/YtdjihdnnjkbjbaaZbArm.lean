/- Several of my texts in one: Ints, ArmH, Arm3, Arm3b, Arm3c. -/
import Derived.Test.YtdjihdnnjkbjbaaZcPts
import Derived.OwnWalk
import Derived.Laws.OwnMore
import Derived.Maps.AppendAt
import Derived.Deep.RegionHeld3
import Derived.Deep.QuietTactic
import Derived.BigQuiet
import Derived.Deep.AppendLies
namespace Go.Proofs.Ytdjihdnnjkbjbaa
set_option maxRecDepth 100000
open Go.RowKit
attribute [local go_sem ↓] Go.wp_at_zero Go.wp_at_succ

/-- A slice reads as the numbers zs. -/
def IntsAt (w : World) (a : Option Addr) (len : Nat) (zs : List Int) : Prop :=
  len = zs.length ∧ (zs = [] ∨ ∃ b off, a = some ⟨b, off, none⟩ ∧ b < w.heap.size ∧ ∀ i, i < zs.length → w.cell? ⟨b, off + i, none⟩ = some (.int .i64 (zs.getD i 0)))
theorem IntsAt.next {w w' : World} {a : Option Addr} {len : Nat} {zs : List Int} (h : IntsAt w a len zs) (hb : Below w.heap.size w w') : IntsAt w' a len zs := by
  refine ⟨h.1, ?_⟩
  rcases h.2 with h2 | ⟨b, off, rfl, hlt, hc⟩
  · exact .inl h2
  · exact .inr ⟨b, off, rfl, Nat.lt_of_lt_of_le hlt hb.size, fun i hi => by rw [hb.cell (p := ⟨b, off + i, none⟩) hlt]; exact hc i hi⟩
/-- The numbers as values. -/
abbrev vals (zs : List Int) : List Value := zs.map (Value.int .i64)
/-- k, k + 1, .. : n numbers. -/
def marks (k : Int) (n : Nat) : List Int := (List.range n).map fun (i : Nat) => k + (i : Int)
theorem marks_len (k : Int) (n : Nat) : (marks k n).length = n := by simp [marks]
theorem marks_at (k : Int) (n i : Nat) (h : i < n) : (marks k n).getD i 0 = k + (i : Int) := by
  unfold marks
  rw [List.getD_eq_getElem?_getD, List.getElem?_map, List.getElem?_range h]; rfl
/-- A row of the call's own that reads as zs. -/
def OwnI (w : World) (B : Nat) (v : Value) (zs : List Int) : Prop := w.ownsRow B 3 1 v zs.length (vals zs)
theorem OwnI.ints {w : World} {B : Nat} {a : Option Addr} {len cap : Nat} {zs : List Int} (h : OwnI w B (.slice a len cap) zs) : IntsAt w a len zs := by
  rcases h.2 with ⟨hv, hn⟩ | ⟨g, c, cur, hv, hb, hg, hnc, hcm, hcs, htake⟩
  · simp only [Value.slice.injEq] at hv
    exact ⟨by omega, .inl (List.eq_nil_of_length_eq_zero hn)⟩
  · simp only [Value.slice.injEq] at hv
    obtain ⟨rfl, rfl, rfl⟩ := hv
    refine ⟨rfl, .inr ⟨g, 0, rfl, (Array.getElem?_eq_some_iff.1 hg).1, fun i hi => ?_⟩⟩
    rw [Nat.zero_add, World.ownsRow.cellAt h i (by omega), List.getElem?_map, List.getD_eq_getElem?_getD, List.getElem?_eq_getElem hi]
    rfl
theorem OwnI.next {w w' : World} {B : Nat} {v : Value} {zs : List Int} (h : OwnI w B v zs) (hb : Below w.heap.size w w') : OwnI w' B v zs := by
  refine World.ownsRow.kept (row := none) h ⟨hb.os, hb.tape, hb.output, hb.size, fun k hk _ => hb.block k hk⟩ ?_
  cases v.ownBlock <;> simp
theorem heldIntS (a : Option Addr) (len cap : Nat) (k : Int) (w : World) (h : IntsAt w a len (marks k len)) (hk0 : 0 ≤ k) (hk1 : k ≤ 1099511627776) (hl : len ≤ 1073741824) :
    Calls Try.prog 22 #[.slice a len cap, .int .i64 k] w fun e w' => e = .returned (.int .i64 (k + len)) ∧ w = w' := by
  rcases h.2 with h2 | ⟨b, off, rfl, hlt, hc⟩
  · have h3 : len = 0 := by rw [← marks_len k len, h2]; rfl
    subst h3
    clear h h2
    go_enter Try.func22, Try.ntmps22
    go_wp2
    go_loop [1, 5] (fun kk i => kk = .int .i64 k ∧ i = .int .i64 0) (fun _ _ => 0)
    case atStart => exact ⟨rfl, rfl⟩
    case round =>
      obtain ⟨rfl, rfl⟩ := hrel
      go_wp2
      go_ret
      exact ⟨ret_int (by omega), rfl⟩
  · have HC := Lib.hid (fun i (hi : i < len) => (hc i (by rw [marks_len]; exact hi)).trans (by rw [marks_at k len i hi]))
    clear h hc
    go_enter Try.func22, Try.ntmps22
    go_wp2
    go_loop [1, 5] (fun kk i => ∃ j : Nat, j ≤ len ∧ kk = .int .i64 (k + (j : Int)) ∧ i = .int .i64 (j : Int)) (fun _ i => len - (intOf i).toNat)
    case atStart => exact ⟨0, Nat.zero_le _, by simp, rfl⟩
    case round =>
      obtain ⟨j, hj, rfl, rfl⟩ := hrel
      by_cases hlt2 : j < len
      · have hcj := HC.out j hlt2
        have e0 : (k + (j : Int) != k + (j : Int)) = false := by simp
        go_wp2
        go_round
        case rel => exact ⟨j + 1, by omega, by congr 1; omega, by congr 1⟩
        case measure => simp [intOf]; omega
      · obtain rfl : j = len := by omega
        go_wp2
        go_ret
        exact ⟨rfl, rfl⟩
set_option maxHeartbeats 400000 in
theorem eqIntS (a b : Option Addr) (len len2 cap cap2 : Nat) (zs : List Int) (w : World) (h : IntsAt w a len zs) (h2 : IntsAt w b len2 zs) (hl : len ≤ 9223372036854775807) :
    Calls Try.prog 20 #[.slice a len cap, .slice b len2 cap2] w fun e w' => e = .returned (.bool true) ∧ Below w.heap.size w w' := by
  obtain rfl : len2 = len := by rw [h.1, h2.1]
  have e0 : ((len2 : Int) != (len2 : Int)) = false := by simp
  rcases h.2 with h3 | ⟨b1, o1, rfl, lt1, c1⟩
  · have h4 : len2 = 0 := by rw [h.1, h3]; rfl
    subst h4
    clear h h2 h3
    go_enter Try.func20, Try.ntmps20
    go_wp2
    go_loopw [5] (fun i wr => i = .int .i64 0 ∧ Hid (Below w.heap.size w wr)) (fun _ _ => 0)
    case atStart => exact ⟨rfl, Lib.hid (Below.refl _ _)⟩
    case round =>
      obtain ⟨rfl, HW⟩ := hrel
      go_wp2
      go_ret
      exact ⟨rfl, HW.out⟩
  · rcases h2.2 with h3 | ⟨b2, o2, rfl, lt2, c2⟩
    · have h4 : len2 = 0 := by rw [h.1, h3]; rfl
      subst h4
      clear h h2 h3 c1
      go_enter Try.func20, Try.ntmps20
      go_wp2
      go_loopw [5] (fun i wr => i = .int .i64 0 ∧ Hid (Below w.heap.size w wr)) (fun _ _ => 0)
      case atStart => exact ⟨rfl, Lib.hid (Below.refl _ _)⟩
      case round =>
        obtain ⟨rfl, HW⟩ := hrel
        go_wp2
        go_ret
        exact ⟨rfl, HW.out⟩
    · have hn := h.1
      have HC1 := Lib.hid (fun i (hi : i < len2) => c1 i (by rw [← hn]; exact hi))
      have HC2 := Lib.hid (fun i (hi : i < len2) => c2 i (by rw [← hn]; exact hi))
      clear h h2 c1 c2 hn
      go_enter Try.func20, Try.ntmps20
      go_wp2
      go_loopw [5] (fun i wr => ∃ j : Nat, j ≤ len2 ∧ i = .int .i64 (j : Int) ∧ Hid (Below w.heap.size w wr)) (fun i _ => len2 - (intOf i).toNat)
      case atStart => exact ⟨0, Nat.zero_le _, rfl, Lib.hid (Below.refl _ _)⟩
      case round =>
        obtain ⟨j, hj, rfl, HW⟩ := hrel
        by_cases hlt : j < len2
        · have d1 : wr.cell? ⟨b1, o1 + j, none⟩ = _ := (HW.out.cell (p := ⟨b1, o1 + j, none⟩) lt1).trans (HC1.out j hlt)
          have d2 : wr.cell? ⟨b2, o2 + j, none⟩ = _ := (HW.out.cell (p := ⟨b2, o2 + j, none⟩) lt2).trans (HC2.out j hlt)
          have e1 : (zs.getD j 0 != zs.getD j 0) = false := by simp
          generalize zs.getD j 0 = z at *
          have i0 : (0 : Int) ≤ (j : Int) := by omega
          have i1 : (j : Int) < (len2 : Int) := by omega
          go_wp2
          go_region_held3 (fun u => u.cell? ⟨b1, o1 + j, none⟩ = some (.int .i64 z) ∧ u.cell? ⟨b2, o2 + j, none⟩ = some (.int .i64 z)) (exact ⟨d1, d2⟩) (fail)
          go_wp2
          go_roundw
          case rel => exact ⟨j + 1, by omega, by congr 1, Lib.hid HW.out.drew⟩
          case measure => simp [intOf]; omega
        · obtain rfl : j = len2 := by omega
          go_wp2
          go_ret
          exact ⟨rfl, HW.out⟩
set_option maxHeartbeats 400000 in
theorem sameInts (a b : Option Addr) (len len2 cap cap2 : Nat) (zs : List Int) (w : World) (h : IntsAt w a len zs) (h2 : IntsAt w b len2 zs) (hl : len ≤ 9223372036854775807) :
    Calls Try.prog 18 #[.slice a len cap, .slice b len2 cap2] w fun e w' => e = .returned (.bool true) ∧ Below w.heap.size w w' := by
  obtain rfl : len2 = len := by rw [h.1, h2.1]
  have e0 : ((len2 : Int) != (len2 : Int)) = false := by simp
  rcases h.2 with h3 | ⟨b1, o1, rfl, lt1, c1⟩
  · have h4 : len2 = 0 := by rw [h.1, h3]; rfl
    subst h4
    clear h h2 h3
    go_enter Try.func18, Try.ntmps18
    go_wp2
    go_loopw [5] (fun i wr => i = .int .i64 0 ∧ Hid (Below w.heap.size w wr)) (fun _ _ => 0)
    case atStart => exact ⟨rfl, Lib.hid (Below.refl _ _)⟩
    case round =>
      obtain ⟨rfl, HW⟩ := hrel
      go_wp2
      go_ret
      exact ⟨rfl, HW.out⟩
  · rcases h2.2 with h3 | ⟨b2, o2, rfl, lt2, c2⟩
    · have h4 : len2 = 0 := by rw [h.1, h3]; rfl
      subst h4
      clear h h2 h3 c1
      go_enter Try.func18, Try.ntmps18
      go_wp2
      go_loopw [5] (fun i wr => i = .int .i64 0 ∧ Hid (Below w.heap.size w wr)) (fun _ _ => 0)
      case atStart => exact ⟨rfl, Lib.hid (Below.refl _ _)⟩
      case round =>
        obtain ⟨rfl, HW⟩ := hrel
        go_wp2
        go_ret
        exact ⟨rfl, HW.out⟩
    · have hn := h.1
      have HC1 := Lib.hid (fun i (hi : i < len2) => c1 i (by rw [← hn]; exact hi))
      have HC2 := Lib.hid (fun i (hi : i < len2) => c2 i (by rw [← hn]; exact hi))
      clear h h2 c1 c2 hn
      go_enter Try.func18, Try.ntmps18
      go_wp2
      go_loopw [5] (fun i wr => ∃ j : Nat, j ≤ len2 ∧ i = .int .i64 (j : Int) ∧ Hid (Below w.heap.size w wr)) (fun i _ => len2 - (intOf i).toNat)
      case atStart => exact ⟨0, Nat.zero_le _, rfl, Lib.hid (Below.refl _ _)⟩
      case round =>
        obtain ⟨j, hj, rfl, HW⟩ := hrel
        by_cases hlt : j < len2
        · have d1 : wr.cell? ⟨b1, o1 + j, none⟩ = _ := (HW.out.cell (p := ⟨b1, o1 + j, none⟩) lt1).trans (HC1.out j hlt)
          have d2 : wr.cell? ⟨b2, o2 + j, none⟩ = _ := (HW.out.cell (p := ⟨b2, o2 + j, none⟩) lt2).trans (HC2.out j hlt)
          have e1 : (zs.getD j 0 != zs.getD j 0) = false := by simp
          generalize zs.getD j 0 = z at *
          have i0 : (0 : Int) ≤ (j : Int) := by omega
          have i1 : (j : Int) < (len2 : Int) := by omega
          go_wp2
          go_region_held3 (fun u => u.cell? ⟨b1, o1 + j, none⟩ = some (.int .i64 z) ∧ u.cell? ⟨b2, o2 + j, none⟩ = some (.int .i64 z)) (exact ⟨d1, d2⟩) (fail)
          go_wp2
          go_roundw
          case rel => exact ⟨j + 1, by omega, by congr 1, Lib.hid HW.out.drew⟩
          case measure => simp [intOf]; omega
        · obtain rfl : j = len2 := by omega
          go_wp2
          go_ret
          exact ⟨rfl, HW.out⟩
/-- What a copy holds when j of its numbers are there. -/
def part (f : Nat → Int) (zs : List Int) (j : Nat) : List Value := (List.range zs.length).map fun (i : Nat) => Value.int .i64 (if i < j then f i else zs.getD i 0)
theorem part_set (f : Nat → Int) (zs : List Int) (j : Nat) : (part f zs j).set j (.int .i64 (f j)) = part f zs (j + 1) := by
  unfold part
  apply List.ext_getElem?
  intro i
  rw [List.getElem?_set, List.getElem?_map, List.getElem?_map, List.length_map, List.length_range]
  by_cases hi : i < zs.length
  · rw [List.getElem?_range hi]
    by_cases hj : j = i
    · subst hj; simp [hi]
    · rw [if_neg hj]
      simp only [Option.map_some]
      by_cases h1 : i < j
      · rw [if_pos h1, if_pos (by omega)]
      · rw [if_neg h1, if_neg (by omega)]
  · rw [List.getElem?_eq_none (by simp; omega)]
    by_cases hj : j = i
    · subst hj; simp [hi]
    · rw [if_neg hj]; rfl
theorem part_zero (f : Nat → Int) (zs : List Int) : part f zs 0 = vals zs := by
  unfold part vals
  apply List.ext_getElem?
  intro i
  rw [List.getElem?_map, List.getElem?_map]
  by_cases hi : i < zs.length
  · rw [List.getElem?_range hi, List.getElem?_eq_getElem hi]
    simp [List.getD_eq_getElem?_getD, List.getElem?_eq_getElem hi]
  · rw [List.getElem?_eq_none (by simp; omega), List.getElem?_eq_none (by omega)]; rfl
theorem part_all (f : Nat → Int) (zs ys : List Int) (hl : ys.length = zs.length) (h : ∀ i, i < zs.length → f i = ys.getD i 0) : part f zs zs.length = vals ys := by
  unfold part vals
  apply List.ext_getElem?
  intro i
  rw [List.getElem?_map, List.getElem?_map]
  by_cases hi : i < zs.length
  · rw [List.getElem?_range hi, List.getElem?_eq_getElem (by omega)]
    simp [hi, h i hi, List.getD_eq_getElem?_getD, List.getElem?_eq_getElem (show i < ys.length by omega)]
  · rw [List.getElem?_eq_none (by simp; omega), List.getElem?_eq_none (by omega)]; rfl
theorem part_len (f : Nat → Int) (zs : List Int) (j : Nat) : (part f zs j).length = zs.length := by simp [part]
theorem infoInt : (Try.prog.info? 3).map (fun i => (i.zero, i.size, i.bytes)) = some (some (.int .i64 0), 1, 8) := by kernel_rfl
theorem made_zero (n : Nat) (f : Nat → Int) : (madeCells (Value.int .i64 0).cells (n * 1)).toList = part f (List.replicate n 0) 0 := by
  rw [part_zero]
  show (madeCells #[Value.int .i64 0] (n * 1)).toList = _
  rw [Nat.mul_one, toList_madeCells_one, vals, List.map_replicate]
/-- What marking a row of the call's own says: the marks are there, nothing else has changed. -/
def Marked (B : Nat) (v : Value) (n : Nat) (k : Int) (w : World) (e : Ending) (w' : World) : Prop :=
  e = .returned (.int .i64 (k + n)) ∧ OwnI w' B v (marks k n) ∧ w.grownBy w' v.ownBlock ∧ w'.heap.size = w.heap.size
set_option maxHeartbeats 400000 in
theorem markIntS (a : Option Addr) (len cap B : Nat) (zs : List Int) (k : Int) (w : World) (h : OwnI w B (.slice a len cap) zs) (hk0 : 0 ≤ k) (hk1 : k ≤ 1099511627776) (hl : len ≤ 1073741824) :
    Calls Try.prog 21 #[.slice a len cap, .int .i64 k] w (Marked B (.slice a len cap) len k w) := by
  rcases h.2 with ⟨hv, hn⟩ | ⟨g, c, cur, hv, hb, hg, hnc, hcm, hcs, htake⟩
  · simp only [Value.slice.injEq] at hv
    obtain ⟨rfl, rfl, rfl⟩ := hv
    clear h
    go_enter Try.func21, Try.ntmps21
    go_wp2
    go_loop [1, 5] (fun kk i => kk = .int .i64 k ∧ i = .int .i64 0) (fun _ _ => 0)
    case atStart => exact ⟨rfl, rfl⟩
    case round =>
      obtain ⟨rfl, rfl⟩ := hrel
      go_wp2
      go_ret
      exact ⟨ret_int (by omega), World.ownsRow_nil _ _ _ _, World.grownBy.refl _ _, rfl⟩
  · simp only [Value.slice.injEq] at hv
    obtain ⟨rfl, rfl, rfl⟩ := hv
    have H0 : w.ownsRow B 3 1 (.slice (some ⟨g, 0, none⟩) zs.length cap) zs.length (part (fun i => k + (i : Int)) zs 0) := by rw [part_zero]; exact h
    have HF := Lib.hid (part_all (fun i => k + (i : Int)) zs (marks k zs.length) (by rw [marks_len]) (fun i hi => (marks_at k _ i hi).symm))
    have HP := Lib.hid (fun j => part_set (fun i => k + (i : Int)) zs j)
    clear hb hg hnc hcm hcs htake h
    go_enter Try.func21, Try.ntmps21
    go_wp2
    go_loopw [1, 5] (fun kk i wr => ∃ j : Nat, j ≤ zs.length ∧ kk = .int .i64 (k + (j : Int)) ∧ i = .int .i64 (j : Int) ∧ Hid (wr.ownsRow B 3 1 (.slice (some ⟨g, 0, none⟩) zs.length cap) zs.length (part (fun i => k + (i : Int)) zs j)) ∧ Hid (w.grownBy wr (some g)) ∧ Hid (wr.heap.size = w.heap.size)) (fun _ i _ => zs.length - (intOf i).toNat)
    case atStart => exact ⟨0, Nat.zero_le _, by simp, rfl, Lib.hid H0, Lib.hid (World.grownBy.refl _ _), Lib.hid rfl⟩
    case round =>
      obtain ⟨j, hj, rfl, rfl, HO, HW, HS⟩ := hrel
      clear H0
      by_cases hlt : j < zs.length
      · have d2 := HO.out.cellAt j (by omega)
        have d3 := HO.out.frozenAt j
        have HT := Lib.hid (HO.out.stored j (.int .i64 (k + (j : Int))))
        rw [List.getElem?_eq_getElem (by rw [part_len]; exact hlt)] at d2
        go_wp2
        go_roundw
        case rel => exact ⟨j + 1, by omega, by congr 1; omega, by congr 1, Lib.hid (by rw [← HP.out j]; exact HT.out.1), Lib.hid (HW.out.trans HT.out.2), Lib.hid (by simpa [World.setCell] using HS.out)⟩
        case measure => simp [intOf]; omega
      · obtain rfl : j = zs.length := by omega
        go_wp2
        go_ret
        refine ⟨rfl, ?_, HW.out, HS.out⟩
        unfold OwnI
        rw [marks_len, ← HF.out]
        exact HO.out
end Go.Proofs.Ytdjihdnnjkbjbaa
namespace Go.Proofs.Ytdjihdnnjkbjbaa
set_option maxRecDepth 100000
open Go.RowKit

/-- A slice. -/
structure Sl where
  a : Option Addr
  len : Nat
  cap : Nat
/-- An arm's value. -/
abbrev av (x y z : Sl) : Value := .agg #[.slice x.a x.len x.cap, .slice y.a y.len y.cap, .slice z.a z.len z.cap]
/-- An arm lies in block b, of the call's own. -/
structure AtA (w : World) (b : Nat) (x y z : Value) : Prop where
  lt : b < w.heap.size
  c0 : w.cell? ⟨b, 0, none⟩ = some x
  c1 : w.cell? ⟨b, 1, none⟩ = some y
  c2 : w.cell? ⟨b, 2, none⟩ = some z
  z0 : w.frozen? ⟨b, 0, none⟩ = false
  z1 : w.frozen? ⟨b, 1, none⟩ = false
  z2 : w.frozen? ⟨b, 2, none⟩ = false
theorem AtA.next {w w' : World} {b : Nat} {x y z : Value} (h : AtA w b x y z) (hb : Below w.heap.size w w') : AtA w' b x y z :=
  ⟨Nat.lt_of_lt_of_le h.lt hb.size, by rw [hb.cell (p := ⟨b, 0, none⟩) h.lt]; exact h.c0, by rw [hb.cell (p := ⟨b, 1, none⟩) h.lt]; exact h.c1, by rw [hb.cell (p := ⟨b, 2, none⟩) h.lt]; exact h.c2,
    (hb.frozen (p := ⟨b, 0, none⟩) h.lt).trans h.z0, (hb.frozen (p := ⟨b, 1, none⟩) h.lt).trans h.z1, (hb.frozen (p := ⟨b, 2, none⟩) h.lt).trans h.z2⟩
theorem AtA.kept {w w' : World} {b : Nat} {x y z : Value} {row : Option Nat} (h : AtA w b x y z) (hg : w.grownBy w' row) (hne : some b ≠ row) : AtA w' b x y z :=
  have e := hg.block b h.lt hne
  ⟨Nat.lt_of_lt_of_le h.lt hg.size, (World.cell?_of_block (a := ⟨b, 0, none⟩) e).trans h.c0, (World.cell?_of_block (a := ⟨b, 1, none⟩) e).trans h.c1, (World.cell?_of_block (a := ⟨b, 2, none⟩) e).trans h.c2,
    (World.frozen?_of_block (a := ⟨b, 0, none⟩) e).trans h.z0, (World.frozen?_of_block (a := ⟨b, 1, none⟩) e).trans h.z1, (World.frozen?_of_block (a := ⟨b, 2, none⟩) e).trans h.z2⟩
theorem AtA.box (w : World) (x y z : Value) (t : Nat) : AtA (w.alloc (.cells #[x, y, z] t)) w.heap.size x y z :=
  ⟨by simp, by simp, by simp, by simp, World.frozen?_alloc_at _ _ _ _ rfl, World.frozen?_alloc_at _ _ _ _ rfl, World.frozen?_alloc_at _ _ _ _ rfl⟩
theorem AtA.alloc {w : World} {b : Nat} {x y z : Value} (h : AtA w b x y z) (o : Obj) : AtA (w.alloc o) b x y z := h.next (below_box w o)
theorem AtA.far {w : World} {b c o : Nat} {x y z : Value} (h : AtA w b x y z) (hc : c ≠ b) (v : Value) : AtA (w.setCell ⟨c, o, none⟩ v) b x y z :=
  ⟨by simpa [World.setCell] using h.lt, (World.cell?_setCell_far _ _ _ _ hc).trans h.c0, (World.cell?_setCell_far _ _ _ _ hc).trans h.c1, (World.cell?_setCell_far _ _ _ _ hc).trans h.c2,
    (World.frozen?_setCell _ _ _ _).trans h.z0, (World.frozen?_setCell _ _ _ _).trans h.z1, (World.frozen?_setCell _ _ _ _).trans h.z2⟩
theorem AtA.put0 {w : World} {b : Nat} {x y z : Value} (h : AtA w b x y z) (u : Value) : AtA (w.setCell ⟨b, 0, none⟩ u) b u y z :=
  ⟨by simpa [World.setCell] using h.lt, World.cell?_setCell_same _ _ _ h.c0, (World.cell?_setCell_other _ _ _ _ (by simp)).trans h.c1, (World.cell?_setCell_other _ _ _ _ (by simp)).trans h.c2,
    (World.frozen?_setCell _ _ _ _).trans h.z0, (World.frozen?_setCell _ _ _ _).trans h.z1, (World.frozen?_setCell _ _ _ _).trans h.z2⟩
theorem AtA.put1 {w : World} {b : Nat} {x y z : Value} (h : AtA w b x y z) (u : Value) : AtA (w.setCell ⟨b, 1, none⟩ u) b x u z :=
  ⟨by simpa [World.setCell] using h.lt, (World.cell?_setCell_other _ _ _ _ (by simp)).trans h.c0, World.cell?_setCell_same _ _ _ h.c1, (World.cell?_setCell_other _ _ _ _ (by simp)).trans h.c2,
    (World.frozen?_setCell _ _ _ _).trans h.z0, (World.frozen?_setCell _ _ _ _).trans h.z1, (World.frozen?_setCell _ _ _ _).trans h.z2⟩
theorem AtA.put2 {w : World} {b : Nat} {x y z : Value} (h : AtA w b x y z) (u : Value) : AtA (w.setCell ⟨b, 2, none⟩ u) b x y u :=
  ⟨by simpa [World.setCell] using h.lt, (World.cell?_setCell_other _ _ _ _ (by simp)).trans h.c0, (World.cell?_setCell_other _ _ _ _ (by simp)).trans h.c1, World.cell?_setCell_same _ _ _ h.c2,
    (World.frozen?_setCell _ _ _ _).trans h.z0, (World.frozen?_setCell _ _ _ _).trans h.z1, (World.frozen?_setCell _ _ _ _).trans h.z2⟩
/-- A fresh arm that reads as the three lists: its rows are of the call's own, no block of them lies below B, and no two are the same. -/
structure NewArm (w : World) (B : Nat) (x y z : Sl) (ls lo hi : List Int) : Prop where
  ox : OwnI w B (.slice x.a x.len x.cap) ls
  oy : OwnI w B (.slice y.a y.len y.cap) lo
  oz : OwnI w B (.slice z.a z.len z.cap) hi
  bx : ∃ g, x.a = some ⟨g, 0, none⟩ ∧ B ≤ g ∧ ∃ h, y.a = some ⟨h, 0, none⟩ ∧ g < h ∧ ∃ k, z.a = some ⟨k, 0, none⟩ ∧ h < k ∧ k < w.heap.size
theorem NewArm.next {w w' : World} {B : Nat} {x y z : Sl} {ls lo hi : List Int} (h : NewArm w B x y z ls lo hi) (hb : Below w.heap.size w w') : NewArm w' B x y z ls lo hi := by
  obtain ⟨g, h1, h2, h3, h4, h5, k, h6, h7, h8⟩ := h.bx
  exact ⟨h.ox.next hb, h.oy.next hb, h.oz.next hb, g, h1, h2, h3, h4, h5, k, h6, h7, Nat.lt_of_lt_of_le h8 hb.size⟩
theorem OwnI.mono {w : World} {B B' : Nat} {v : Value} {zs : List Int} (h : OwnI w B v zs) (hB : B' ≤ B) : OwnI w B' v zs := by
  refine ⟨h.1, ?_⟩
  rcases h.2 with h2 | ⟨g, cap, cur, hv, hb, rest⟩
  · exact .inl h2
  · exact .inr ⟨g, cap, cur, hv, Nat.le_trans hB hb, rest⟩
theorem OwnI.far {w : World} {B g c o n cap : Nat} {zs : List Int} (h : OwnI w B (.slice (some ⟨g, 0, none⟩) n cap) zs) (hc : c ≠ g) (u : Value) : OwnI (w.setCell ⟨c, o, none⟩ u) B (.slice (some ⟨g, 0, none⟩) n cap) zs :=
  World.ownsRow.kept (row := some c) h ⟨rfl, rfl, rfl, by simp [World.setCell], fun k _ hk => Below.heap_setCell w _ _ k (by rintro rfl; exact hk rfl)⟩ (by simp [Value.ownBlock]; omega)
end Go.Proofs.Ytdjihdnnjkbjbaa
namespace Go.Proofs.Ytdjihdnnjkbjbaa
set_option maxRecDepth 100000
open Go.RowKit
attribute [local go_sem ↓] Go.wp_at_zero Go.wp_at_succ

theorem sameOf {P : Program} {f : FuncId} {args : Array Value} {w : World} {v : Value} (h : Calls P f args w fun e w' => e = .returned v ∧ w = w') : Calls P f args w fun e w' => e = .returned v ∧ w' = w :=
  h.mono fun _ _ ⟨he, hw⟩ => ⟨he, hw.symm⟩
theorem below_drewN {B : Nat} {a w : World} (h : Below B a w) (n : Nat) : Below B a (w.drewN n) := ⟨h.os, h.tape, h.output, h.size, h.block⟩
/-- Link k has a valid length and a valid range. -/
def okLink (l o h : Int) : Prop := 1 ≤ l ∧ l ≤ 500 ∧ -180 ≤ o ∧ o ≤ 180 ∧ o ≤ h ∧ h ≤ 180
instance (l o h : Int) : Decidable (okLink l o h) := by unfold okLink; infer_instance
/-- A valid arm. -/
def okArm (ls lo hi : List Int) : Prop := 1 ≤ ls.length ∧ ls.length ≤ 4 ∧ lo.length = ls.length ∧ hi.length = ls.length ∧ ∀ k, k < ls.length → okLink (ls.getD k 0) (lo.getD k 0) (hi.getD k 0)
instance (ls lo hi : List Int) : Decidable (okArm ls lo hi) := by unfold okArm; infer_instance
theorem IntsAt.some {w : World} {a : Option Addr} {len : Nat} {zs : List Int} (h : IntsAt w a len zs) (hl : 1 ≤ len) : ∃ b off, a = Option.some ⟨b, off, none⟩ ∧ b < w.heap.size ∧ ∀ i, i < len → w.cell? ⟨b, off + i, none⟩ = Option.some (.int .i64 (zs.getD i 0)) := by
  rcases h.2 with h2 | ⟨b, off, h3, h4, h5⟩
  · have := h.1; rw [h2] at this; simp at this; omega
  · exact ⟨b, off, h3, h4, fun i hi => h5 i (by rw [← h.1]; exact hi)⟩
end Go.Proofs.Ytdjihdnnjkbjbaa
namespace Go.Proofs.Ytdjihdnnjkbjbaa
set_option maxRecDepth 100000
open Go.RowKit
attribute [local go_sem ↓] Go.wp_at_zero Go.wp_at_succ
/-- Valid angles of an arm. -/
def okJoints (ls lo hi js : List Int) : Prop := okArm ls lo hi ∧ js.length = ls.length ∧ ∀ k, k < js.length → lo.getD k 0 ≤ js.getD k 0 ∧ js.getD k 0 ≤ hi.getD k 0
instance (ls lo hi js : List Int) : Decidable (okJoints ls lo hi js) := by unfold okJoints; infer_instance
end Go.Proofs.Ytdjihdnnjkbjbaa
namespace Go.Proofs.Ytdjihdnnjkbjbaa
set_option maxRecDepth 100000
open Go.RowKit
attribute [local go_sem ↓] Go.wp_at_zero Go.wp_at_succ

/-- The nearest number in o..h. -/
def clip (d o h : Int) : Int := max o (min h d)
/-- The clamped angles. -/
def clampL (lo hi js : List Int) : List Int := (List.range js.length).map fun (k : Nat) => clip (js.getD k 0) (lo.getD k 0) (hi.getD k 0)
theorem clampL_len (lo hi js : List Int) : (clampL lo hi js).length = js.length := by simp [clampL]
theorem clampL_at (lo hi js : List Int) (k : Nat) (h : k < js.length) : (clampL lo hi js)[k]? = some (clip (js.getD k 0) (lo.getD k 0) (hi.getD k 0)) := by
  unfold clampL; rw [List.getElem?_map, List.getElem?_range h]; rfl
theorem take_next (zs : List Int) (k : Nat) (z : Int) (h : zs[k]? = some z) : vals (zs.take (k + 1)) = vals (zs.take k) ++ [Value.int .i64 z] := by
  have hl : k < zs.length := (List.getElem?_eq_some_iff.1 h).1
  have e : zs[k] = z := (List.getElem?_eq_some_iff.1 h).2
  rw [List.take_succ_eq_append_getElem hl, e]; simp
theorem World.ownsRow_down {w : World} {base base' : Nat} {e : TypeId} {size : Nat} {v : Value} {n : Nat} {xs : List Value} (h : w.ownsRow base e size v n xs) (hb : base' ≤ base) : w.ownsRow base' e size v n xs :=
  ⟨h.1, h.2.imp id fun ⟨g, cap, cur, hv, hg, rest⟩ => ⟨g, cap, cur, hv, Nat.le_trans hb hg, rest⟩⟩
theorem below_drew' (w : World) : Below w.heap.size w w.drew := (Below.refl _ _).drew
theorem l1Clip (d o h : Int) (w : World) : Calls Try.prog 34 #[.int .i64 d, .int .i64 o, .int .i64 h] w fun e w' => e = .returned (.int .i64 (clip d o h)) ∧ w = w' := by
  have HE := Lib.hid (show clip d o h = max o (min h d) from rfl)
  go_enter Try.func34, Try.ntmps34
  go_wp2
  all_goals
    go_ret
    exact ⟨ret_int (by rw [HE.out]; omega), rfl⟩
end Go.Proofs.Ytdjihdnnjkbjbaa
