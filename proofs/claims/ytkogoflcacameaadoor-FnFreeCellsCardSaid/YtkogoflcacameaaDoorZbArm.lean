/- Several of my texts in one: Ints, ArmH, Arm3, Arm3b, Arm3c. -/
import Derived.Test.YtkogoflcacameaaDoorZcPts
import Derived.OwnWalk
import Derived.Laws.OwnMore
import Derived.Maps.AppendAt
import Derived.Deep.RegionHeld3
import Derived.Deep.QuietTactic
import Derived.BigQuiet
import Derived.Deep.AppendLies
namespace Go.Proofs.YtkogoflcacameaaDoor
set_option maxRecDepth 100000
open Go.RowKit
attribute [local go_sem ↓] Go.wp_at_zero Go.wp_at_succ

/-- A slice reads as the numbers zs. -/
def IntsAt (w : World) (a : Option Addr) (len : Nat) (zs : List Int) : Prop :=
  len = zs.length ∧ (zs = [] ∨ ∃ b off, a = some ⟨b, off, none⟩ ∧ b < w.heap.size ∧ ∀ i, i < zs.length → w.cell? ⟨b, off + i, none⟩ = some (.int .i64 (zs.getD i 0)))
theorem IntsAt.next {w w' : World} {a : Option Addr} {len : Nat} {zs : List Int} (h : IntsAt w a len zs) (hb : Below w.heap.size w w') : IntsAt w' a len zs := by
  refine ⟨h.1, ?_⟩
  rcases h.2 with h2 | ⟨b, off, rfl, hlt, hc⟩
  · exact .inl h2
  · exact .inr ⟨b, off, rfl, Nat.lt_of_lt_of_le hlt hb.size, fun i hi => by rw [hb.cell (p := ⟨b, off + i, none⟩) hlt]; exact hc i hi⟩
/-- The numbers as values. -/
abbrev vals (zs : List Int) : List Value := zs.map (Value.int .i64)
/-- k, k + 1, .. : n numbers. -/
def marks (k : Int) (n : Nat) : List Int := (List.range n).map fun (i : Nat) => k + (i : Int)
theorem marks_len (k : Int) (n : Nat) : (marks k n).length = n := by simp [marks]
theorem marks_at (k : Int) (n i : Nat) (h : i < n) : (marks k n).getD i 0 = k + (i : Int) := by
  unfold marks
  rw [List.getD_eq_getElem?_getD, List.getElem?_map, List.getElem?_range h]; rfl
/-- A row of the call's own that reads as zs. -/
def OwnI (w : World) (B : Nat) (v : Value) (zs : List Int) : Prop := w.ownsRow B 3 1 v zs.length (vals zs)
theorem OwnI.ints {w : World} {B : Nat} {a : Option Addr} {len cap : Nat} {zs : List Int} (h : OwnI w B (.slice a len cap) zs) : IntsAt w a len zs := by
  rcases h.2 with ⟨hv, hn⟩ | ⟨g, c, cur, hv, hb, hg, hnc, hcm, hcs, htake⟩
  · simp only [Value.slice.injEq] at hv
    exact ⟨by omega, .inl (List.eq_nil_of_length_eq_zero hn)⟩
  · simp only [Value.slice.injEq] at hv
    obtain ⟨rfl, rfl, rfl⟩ := hv
    refine ⟨rfl, .inr ⟨g, 0, rfl, (Array.getElem?_eq_some_iff.1 hg).1, fun i hi => ?_⟩⟩
    rw [Nat.zero_add, World.ownsRow.cellAt h i (by omega), List.getElem?_map, List.getD_eq_getElem?_getD, List.getElem?_eq_getElem hi]
    rfl
theorem OwnI.next {w w' : World} {B : Nat} {v : Value} {zs : List Int} (h : OwnI w B v zs) (hb : Below w.heap.size w w') : OwnI w' B v zs := by
  refine World.ownsRow.kept (row := none) h ⟨hb.os, hb.tape, hb.output, hb.size, fun k hk _ => hb.block k hk⟩ ?_
  cases v.ownBlock <;> simp
theorem szIntS (a : Option Addr) (len cap : Nat) (left : Int) (w : World) (h0 : 0 ≤ left) (h1 : left ≤ 1048576) (hl : len ≤ 9223372036854775807) :
    Calls Tryd.prog 37 #[.slice a len cap, .int .i64 left] w fun e w' => e = .returned (.int .i64 (if left < len then -1 else left - len)) ∧ w = w' := by
  by_cases h : left < len
  · rw [if_pos h]
    go_enter Tryd.func37, Tryd.ntmps37
    go_wp2
    go_ret
    exact ⟨rfl, rfl⟩
  · rw [if_neg h]
    go_enter Tryd.func37, Tryd.ntmps37
    go_wp2
    go_ret
    exact ⟨rfl, rfl⟩
set_option maxHeartbeats 400000 in
theorem eqIntS (a b : Option Addr) (len len2 cap cap2 : Nat) (zs : List Int) (w : World) (h : IntsAt w a len zs) (h2 : IntsAt w b len2 zs) (hl : len ≤ 9223372036854775807) :
    Calls Tryd.prog 42 #[.slice a len cap, .slice b len2 cap2] w fun e w' => e = .returned (.bool true) ∧ Below w.heap.size w w' := by
  obtain rfl : len2 = len := by rw [h.1, h2.1]
  have e0 : ((len2 : Int) != (len2 : Int)) = false := by simp
  rcases h.2 with h3 | ⟨b1, o1, rfl, lt1, c1⟩
  · have h4 : len2 = 0 := by rw [h.1, h3]; rfl
    subst h4
    clear h h2 h3
    go_enter Tryd.func42, Tryd.ntmps42
    go_wp2
    go_loopw [5] (fun i wr => i = .int .i64 0 ∧ Hid (Below w.heap.size w wr)) (fun _ _ => 0)
    case atStart => exact ⟨rfl, Lib.hid (Below.refl _ _)⟩
    case round =>
      obtain ⟨rfl, HW⟩ := hrel
      go_wp2
      go_ret
      exact ⟨rfl, HW.out⟩
  · rcases h2.2 with h3 | ⟨b2, o2, rfl, lt2, c2⟩
    · have h4 : len2 = 0 := by rw [h.1, h3]; rfl
      subst h4
      clear h h2 h3 c1
      go_enter Tryd.func42, Tryd.ntmps42
      go_wp2
      go_loopw [5] (fun i wr => i = .int .i64 0 ∧ Hid (Below w.heap.size w wr)) (fun _ _ => 0)
      case atStart => exact ⟨rfl, Lib.hid (Below.refl _ _)⟩
      case round =>
        obtain ⟨rfl, HW⟩ := hrel
        go_wp2
        go_ret
        exact ⟨rfl, HW.out⟩
    · have hn := h.1
      have HC1 := Lib.hid (fun i (hi : i < len2) => c1 i (by rw [← hn]; exact hi))
      have HC2 := Lib.hid (fun i (hi : i < len2) => c2 i (by rw [← hn]; exact hi))
      clear h h2 c1 c2 hn
      go_enter Tryd.func42, Tryd.ntmps42
      go_wp2
      go_loopw [5] (fun i wr => ∃ j : Nat, j ≤ len2 ∧ i = .int .i64 (j : Int) ∧ Hid (Below w.heap.size w wr)) (fun i _ => len2 - (intOf i).toNat)
      case atStart => exact ⟨0, Nat.zero_le _, rfl, Lib.hid (Below.refl _ _)⟩
      case round =>
        obtain ⟨j, hj, rfl, HW⟩ := hrel
        by_cases hlt : j < len2
        · have d1 : wr.cell? ⟨b1, o1 + j, none⟩ = _ := (HW.out.cell (p := ⟨b1, o1 + j, none⟩) lt1).trans (HC1.out j hlt)
          have d2 : wr.cell? ⟨b2, o2 + j, none⟩ = _ := (HW.out.cell (p := ⟨b2, o2 + j, none⟩) lt2).trans (HC2.out j hlt)
          have e1 : (zs.getD j 0 != zs.getD j 0) = false := by simp
          generalize zs.getD j 0 = z at *
          have i0 : (0 : Int) ≤ (j : Int) := by omega
          have i1 : (j : Int) < (len2 : Int) := by omega
          go_wp2
          go_region_held3 (fun u => u.cell? ⟨b1, o1 + j, none⟩ = some (.int .i64 z) ∧ u.cell? ⟨b2, o2 + j, none⟩ = some (.int .i64 z)) (exact ⟨d1, d2⟩) (fail)
          go_wp2
          go_roundw
          case rel => exact ⟨j + 1, by omega, by congr 1, Lib.hid HW.out.drew⟩
          case measure => simp [intOf]; omega
        · obtain rfl : j = len2 := by omega
          go_wp2
          go_ret
          exact ⟨rfl, HW.out⟩
/-- What a copy holds when j of its numbers are there. -/
def part (f : Nat → Int) (zs : List Int) (j : Nat) : List Value := (List.range zs.length).map fun (i : Nat) => Value.int .i64 (if i < j then f i else zs.getD i 0)
theorem part_set (f : Nat → Int) (zs : List Int) (j : Nat) : (part f zs j).set j (.int .i64 (f j)) = part f zs (j + 1) := by
  unfold part
  apply List.ext_getElem?
  intro i
  rw [List.getElem?_set, List.getElem?_map, List.getElem?_map, List.length_map, List.length_range]
  by_cases hi : i < zs.length
  · rw [List.getElem?_range hi]
    by_cases hj : j = i
    · subst hj; simp [hi]
    · rw [if_neg hj]
      simp only [Option.map_some]
      by_cases h1 : i < j
      · rw [if_pos h1, if_pos (by omega)]
      · rw [if_neg h1, if_neg (by omega)]
  · rw [List.getElem?_eq_none (by simp; omega)]
    by_cases hj : j = i
    · subst hj; simp [hi]
    · rw [if_neg hj]; rfl
theorem part_zero (f : Nat → Int) (zs : List Int) : part f zs 0 = vals zs := by
  unfold part vals
  apply List.ext_getElem?
  intro i
  rw [List.getElem?_map, List.getElem?_map]
  by_cases hi : i < zs.length
  · rw [List.getElem?_range hi, List.getElem?_eq_getElem hi]
    simp [List.getD_eq_getElem?_getD, List.getElem?_eq_getElem hi]
  · rw [List.getElem?_eq_none (by simp; omega), List.getElem?_eq_none (by omega)]; rfl
theorem part_all (f : Nat → Int) (zs ys : List Int) (hl : ys.length = zs.length) (h : ∀ i, i < zs.length → f i = ys.getD i 0) : part f zs zs.length = vals ys := by
  unfold part vals
  apply List.ext_getElem?
  intro i
  rw [List.getElem?_map, List.getElem?_map]
  by_cases hi : i < zs.length
  · rw [List.getElem?_range hi, List.getElem?_eq_getElem (by omega)]
    simp [hi, h i hi, List.getD_eq_getElem?_getD, List.getElem?_eq_getElem (show i < ys.length by omega)]
  · rw [List.getElem?_eq_none (by simp; omega), List.getElem?_eq_none (by omega)]; rfl
theorem part_len (f : Nat → Int) (zs : List Int) (j : Nat) : (part f zs j).length = zs.length := by simp [part]
theorem infoInt : (Tryd.prog.info? 3).map (fun i => (i.zero, i.size, i.bytes)) = some (some (.int .i64 0), 1, 8) := by kernel_rfl
theorem made_zero (n : Nat) (f : Nat → Int) : (madeCells (Value.int .i64 0).cells (n * 1)).toList = part f (List.replicate n 0) 0 := by
  rw [part_zero]
  show (madeCells #[Value.int .i64 0] (n * 1)).toList = _
  rw [Nat.mul_one, toList_madeCells_one, vals, List.map_replicate]
set_option maxHeartbeats 400000 in
theorem toIntS (a : Option Addr) (len cap : Nat) (zs : List Int) (w : World) (h : IntsAt w a len zs) (hl : len ≤ 1048576) :
    Calls Tryd.prog 39 #[.slice a len cap] w fun e w' => e = .returned (.slice (some ⟨w.heap.size, 0, none⟩) len len) ∧ OwnI w' w.heap.size (.slice (some ⟨w.heap.size, 0, none⟩) len len) zs ∧ Below w.heap.size w w' := by
  obtain ⟨i0, hi, hz0, hz1, hz2⟩ := info_parts infoInt
  obtain ⟨hn, h2⟩ := h
  subst hn
  have HM := Lib.hid (made_zero zs.length fun i => zs.getD i 0)
  have HF := Lib.hid (part_all (fun i => zs.getD i 0) (List.replicate zs.length 0) zs (by simp) (fun _ _ => rfl))
  have HP := Lib.hid (fun j => part_set (fun i => zs.getD i 0) (List.replicate zs.length 0) j)
  go_enter Tryd.func39, Tryd.ntmps39
  go_wp2_with (first
    | (at_make; refine wpList_make_full _ rfl _ _ 23 rfl w.heap.size 3 i0 (.int .i64 0) 1 Tryd.underlying23 hi hz0 hz1 .i64 .i64 _ _ zs.length rfl rfl rfl rfl (by rw [hz2]; omega) (by unfold maxLen; omega) (Nat.le_refl _) ?_; intro w1 own1 grow1))
  have own2 : w1.ownsRow w.heap.size 3 1 (.slice (some ⟨w.heap.size, 0, none⟩) zs.length zs.length) zs.length (part (fun i => zs.getD i 0) (List.replicate zs.length 0) 0) := by rw [← HM.out]; exact own1
  have HG : Below w.heap.size w w1 := (Below.refl _ _).grown grow1 (Nat.le_refl _) (fun k hk => by cases hk)
  clear own1 grow1
  go_loopw [4] (fun i wr => ∃ j : Nat, j ≤ zs.length ∧ i = .int .i64 (j : Int) ∧ Hid (wr.ownsRow w.heap.size 3 1 (.slice (some ⟨w.heap.size, 0, none⟩) zs.length zs.length) zs.length (part (fun i => zs.getD i 0) (List.replicate zs.length 0) j)) ∧ Hid (Below w.heap.size w wr)) (fun i _ => zs.length - (intOf i).toNat)
  case atStart => exact ⟨0, Nat.zero_le _, rfl, Lib.hid own2, Lib.hid HG⟩
  case round =>
    obtain ⟨j, hj, rfl, HO, HW⟩ := hrel
    clear own2 HG
    by_cases hlt : j < zs.length
    · rcases h2 with h3 | ⟨b, off, rfl, ltb, hc⟩
      · rw [h3] at hlt; simp at hlt
      · have d1 : wr.cell? ⟨b, off + j, none⟩ = _ := (HW.out.cell (p := ⟨b, off + j, none⟩) ltb).trans (hc j hlt)
        have d2 := HO.out.cellAt j (by omega)
        have d3 := HO.out.frozenAt j
        have HS := Lib.hid (HO.out.stored j (.int .i64 (zs.getD j 0)))
        rw [List.getElem?_eq_getElem (by rw [part_len]; simpa using hlt)] at d2
        clear hc
        generalize hz : zs.getD j 0 = z at *
        go_wp2
        go_roundw
        case rel => exact ⟨j + 1, by omega, by congr 1, Lib.hid (by rw [← HP.out j, hz]; exact HS.out.1), Lib.hid (HW.out.grown HS.out.2 HW.out.size (fun k hk => by injection hk with hk; omega))⟩
        case measure => simp [intOf]; omega
    · obtain rfl : j = zs.length := by omega
      go_wp2
      go_ret
      refine ⟨rfl, ?_, HW.out⟩
      unfold OwnI
      rw [← HF.out, List.length_replicate]
      exact HO.out
/-- What marking a row of the call's own says: the marks are there, nothing else has changed. -/
def Marked (B : Nat) (v : Value) (n : Nat) (k : Int) (w : World) (e : Ending) (w' : World) : Prop :=
  e = .returned (.int .i64 (k + n)) ∧ OwnI w' B v (marks k n) ∧ w.grownBy w' v.ownBlock ∧ w'.heap.size = w.heap.size
set_option maxHeartbeats 400000 in
theorem markIntS (a : Option Addr) (len cap B : Nat) (zs : List Int) (k : Int) (w : World) (h : OwnI w B (.slice a len cap) zs) (hk0 : 0 ≤ k) (hk1 : k ≤ 1099511627776) (hl : len ≤ 1073741824) :
    Calls Tryd.prog 44 #[.slice a len cap, .int .i64 k] w (Marked B (.slice a len cap) len k w) := by
  rcases h.2 with ⟨hv, hn⟩ | ⟨g, c, cur, hv, hb, hg, hnc, hcm, hcs, htake⟩
  · simp only [Value.slice.injEq] at hv
    obtain ⟨rfl, rfl, rfl⟩ := hv
    clear h
    go_enter Tryd.func44, Tryd.ntmps44
    go_wp2
    go_loop [1, 5] (fun kk i => kk = .int .i64 k ∧ i = .int .i64 0) (fun _ _ => 0)
    case atStart => exact ⟨rfl, rfl⟩
    case round =>
      obtain ⟨rfl, rfl⟩ := hrel
      go_wp2
      go_ret
      exact ⟨ret_int (by omega), World.ownsRow_nil _ _ _ _, World.grownBy.refl _ _, rfl⟩
  · simp only [Value.slice.injEq] at hv
    obtain ⟨rfl, rfl, rfl⟩ := hv
    have H0 : w.ownsRow B 3 1 (.slice (some ⟨g, 0, none⟩) zs.length cap) zs.length (part (fun i => k + (i : Int)) zs 0) := by rw [part_zero]; exact h
    have HF := Lib.hid (part_all (fun i => k + (i : Int)) zs (marks k zs.length) (by rw [marks_len]) (fun i hi => (marks_at k _ i hi).symm))
    have HP := Lib.hid (fun j => part_set (fun i => k + (i : Int)) zs j)
    clear hb hg hnc hcm hcs htake h
    go_enter Tryd.func44, Tryd.ntmps44
    go_wp2
    go_loopw [1, 5] (fun kk i wr => ∃ j : Nat, j ≤ zs.length ∧ kk = .int .i64 (k + (j : Int)) ∧ i = .int .i64 (j : Int) ∧ Hid (wr.ownsRow B 3 1 (.slice (some ⟨g, 0, none⟩) zs.length cap) zs.length (part (fun i => k + (i : Int)) zs j)) ∧ Hid (w.grownBy wr (some g)) ∧ Hid (wr.heap.size = w.heap.size)) (fun _ i _ => zs.length - (intOf i).toNat)
    case atStart => exact ⟨0, Nat.zero_le _, by simp, rfl, Lib.hid H0, Lib.hid (World.grownBy.refl _ _), Lib.hid rfl⟩
    case round =>
      obtain ⟨j, hj, rfl, rfl, HO, HW, HS⟩ := hrel
      clear H0
      by_cases hlt : j < zs.length
      · have d2 := HO.out.cellAt j (by omega)
        have d3 := HO.out.frozenAt j
        have HT := Lib.hid (HO.out.stored j (.int .i64 (k + (j : Int))))
        rw [List.getElem?_eq_getElem (by rw [part_len]; exact hlt)] at d2
        go_wp2
        go_roundw
        case rel => exact ⟨j + 1, by omega, by congr 1; omega, by congr 1, Lib.hid (by rw [← HP.out j]; exact HT.out.1), Lib.hid (HW.out.trans HT.out.2), Lib.hid (by simpa [World.setCell] using HS.out)⟩
        case measure => simp [intOf]; omega
      · obtain rfl : j = zs.length := by omega
        go_wp2
        go_ret
        refine ⟨rfl, ?_, HW.out, HS.out⟩
        unfold OwnI
        rw [marks_len, ← HF.out]
        exact HO.out
end Go.Proofs.YtkogoflcacameaaDoor
namespace Go.Proofs.YtkogoflcacameaaDoor
set_option maxRecDepth 100000
open Go.RowKit

/-- A slice. -/
structure Sl where
  a : Option Addr
  len : Nat
  cap : Nat
/-- An arm's value. -/
abbrev av (x y z : Sl) : Value := .agg #[.slice x.a x.len x.cap, .slice y.a y.len y.cap, .slice z.a z.len z.cap]
/-- An arm lies in block b, of the call's own. -/
structure AtA (w : World) (b : Nat) (x y z : Value) : Prop where
  lt : b < w.heap.size
  c0 : w.cell? ⟨b, 0, none⟩ = some x
  c1 : w.cell? ⟨b, 1, none⟩ = some y
  c2 : w.cell? ⟨b, 2, none⟩ = some z
  z0 : w.frozen? ⟨b, 0, none⟩ = false
  z1 : w.frozen? ⟨b, 1, none⟩ = false
  z2 : w.frozen? ⟨b, 2, none⟩ = false
theorem AtA.next {w w' : World} {b : Nat} {x y z : Value} (h : AtA w b x y z) (hb : Below w.heap.size w w') : AtA w' b x y z :=
  ⟨Nat.lt_of_lt_of_le h.lt hb.size, by rw [hb.cell (p := ⟨b, 0, none⟩) h.lt]; exact h.c0, by rw [hb.cell (p := ⟨b, 1, none⟩) h.lt]; exact h.c1, by rw [hb.cell (p := ⟨b, 2, none⟩) h.lt]; exact h.c2,
    (hb.frozen (p := ⟨b, 0, none⟩) h.lt).trans h.z0, (hb.frozen (p := ⟨b, 1, none⟩) h.lt).trans h.z1, (hb.frozen (p := ⟨b, 2, none⟩) h.lt).trans h.z2⟩
theorem AtA.kept {w w' : World} {b : Nat} {x y z : Value} {row : Option Nat} (h : AtA w b x y z) (hg : w.grownBy w' row) (hne : some b ≠ row) : AtA w' b x y z :=
  have e := hg.block b h.lt hne
  ⟨Nat.lt_of_lt_of_le h.lt hg.size, (World.cell?_of_block (a := ⟨b, 0, none⟩) e).trans h.c0, (World.cell?_of_block (a := ⟨b, 1, none⟩) e).trans h.c1, (World.cell?_of_block (a := ⟨b, 2, none⟩) e).trans h.c2,
    (World.frozen?_of_block (a := ⟨b, 0, none⟩) e).trans h.z0, (World.frozen?_of_block (a := ⟨b, 1, none⟩) e).trans h.z1, (World.frozen?_of_block (a := ⟨b, 2, none⟩) e).trans h.z2⟩
theorem AtA.box (w : World) (x y z : Value) (t : Nat) : AtA (w.alloc (.cells #[x, y, z] t)) w.heap.size x y z :=
  ⟨by simp, by simp, by simp, by simp, World.frozen?_alloc_at _ _ _ _ rfl, World.frozen?_alloc_at _ _ _ _ rfl, World.frozen?_alloc_at _ _ _ _ rfl⟩
theorem AtA.alloc {w : World} {b : Nat} {x y z : Value} (h : AtA w b x y z) (o : Obj) : AtA (w.alloc o) b x y z := h.next (below_box w o)
theorem AtA.far {w : World} {b c o : Nat} {x y z : Value} (h : AtA w b x y z) (hc : c ≠ b) (v : Value) : AtA (w.setCell ⟨c, o, none⟩ v) b x y z :=
  ⟨by simpa [World.setCell] using h.lt, (World.cell?_setCell_far _ _ _ _ hc).trans h.c0, (World.cell?_setCell_far _ _ _ _ hc).trans h.c1, (World.cell?_setCell_far _ _ _ _ hc).trans h.c2,
    (World.frozen?_setCell _ _ _ _).trans h.z0, (World.frozen?_setCell _ _ _ _).trans h.z1, (World.frozen?_setCell _ _ _ _).trans h.z2⟩
theorem AtA.put0 {w : World} {b : Nat} {x y z : Value} (h : AtA w b x y z) (u : Value) : AtA (w.setCell ⟨b, 0, none⟩ u) b u y z :=
  ⟨by simpa [World.setCell] using h.lt, World.cell?_setCell_same _ _ _ h.c0, (World.cell?_setCell_other _ _ _ _ (by simp)).trans h.c1, (World.cell?_setCell_other _ _ _ _ (by simp)).trans h.c2,
    (World.frozen?_setCell _ _ _ _).trans h.z0, (World.frozen?_setCell _ _ _ _).trans h.z1, (World.frozen?_setCell _ _ _ _).trans h.z2⟩
theorem AtA.put1 {w : World} {b : Nat} {x y z : Value} (h : AtA w b x y z) (u : Value) : AtA (w.setCell ⟨b, 1, none⟩ u) b x u z :=
  ⟨by simpa [World.setCell] using h.lt, (World.cell?_setCell_other _ _ _ _ (by simp)).trans h.c0, World.cell?_setCell_same _ _ _ h.c1, (World.cell?_setCell_other _ _ _ _ (by simp)).trans h.c2,
    (World.frozen?_setCell _ _ _ _).trans h.z0, (World.frozen?_setCell _ _ _ _).trans h.z1, (World.frozen?_setCell _ _ _ _).trans h.z2⟩
theorem AtA.put2 {w : World} {b : Nat} {x y z : Value} (h : AtA w b x y z) (u : Value) : AtA (w.setCell ⟨b, 2, none⟩ u) b x y u :=
  ⟨by simpa [World.setCell] using h.lt, (World.cell?_setCell_other _ _ _ _ (by simp)).trans h.c0, (World.cell?_setCell_other _ _ _ _ (by simp)).trans h.c1, World.cell?_setCell_same _ _ _ h.c2,
    (World.frozen?_setCell _ _ _ _).trans h.z0, (World.frozen?_setCell _ _ _ _).trans h.z1, (World.frozen?_setCell _ _ _ _).trans h.z2⟩
theorem szArm (x y z : Sl) (left : Int) (w : World) (h0 : 0 ≤ left) (h1 : left ≤ 1048576) (hx : x.len ≤ 9223372036854775807) (hy : y.len ≤ 9223372036854775807) (hz : z.len ≤ 9223372036854775807) :
    Calls Tryd.prog 12 #[av x y z, .int .i64 left] w fun e w' => ∃ r : Int, e = .returned (.int .i64 r) ∧ (r = -1 ∨ (0 ≤ r ∧ (x.len : Int) + y.len + z.len + r = left)) ∧ Below w.heap.size w w' := by
  have HB := Lib.hid (below_box w (.cells #[.slice x.a x.len x.cap, .slice y.a y.len y.cap, .slice z.a z.len z.cap] 40))
  obtain ⟨xa, xl, xc⟩ := x
  obtain ⟨ya, yl, yc⟩ := y
  obtain ⟨za, zl, zc⟩ := z
  simp only at *
  by_cases c1 : left < xl
  · go_enter Tryd.func12, Tryd.ntmps12
    go_wp2_with fail
    refine (szIntS xa xl xc left _ h0 h1 hx).mono ?_
    rw [if_pos (by omega)]
    rintro e w' ⟨rfl, rfl⟩
    go_wp2
    go_ret
    exact ⟨_, rfl, .inl rfl, HB.out⟩
  · by_cases c2 : left - xl < yl
    · go_enter Tryd.func12, Tryd.ntmps12
      go_wp2_with fail
      refine (szIntS xa xl xc left _ h0 h1 hx).mono ?_
      rw [if_neg (by omega)]
      rintro e w' ⟨rfl, rfl⟩
      go_wp2_with fail
      refine (szIntS ya yl yc _ _ (by omega) (by omega) hy).mono ?_
      rw [if_pos (by omega)]
      rintro e w' ⟨rfl, rfl⟩
      go_wp2
      go_ret
      exact ⟨_, rfl, .inl rfl, HB.out⟩
    · by_cases c3 : left - xl - yl < zl
      · go_enter Tryd.func12, Tryd.ntmps12
        go_wp2_with fail
        refine (szIntS xa xl xc left _ h0 h1 hx).mono ?_
        rw [if_neg (by omega)]
        rintro e w' ⟨rfl, rfl⟩
        go_wp2_with fail
        refine (szIntS ya yl yc _ _ (by omega) (by omega) hy).mono ?_
        rw [if_neg (by omega)]
        rintro e w' ⟨rfl, rfl⟩
        go_wp2_with fail
        refine (szIntS za zl zc _ _ (by omega) (by omega) hz).mono ?_
        rw [if_pos (by omega)]
        rintro e w' ⟨rfl, rfl⟩
        go_wp2
        go_ret
        exact ⟨_, rfl, .inl rfl, HB.out⟩
      · go_enter Tryd.func12, Tryd.ntmps12
        go_wp2_with fail
        refine (szIntS xa xl xc left _ h0 h1 hx).mono ?_
        rw [if_neg (by omega)]
        rintro e w' ⟨rfl, rfl⟩
        go_wp2_with fail
        refine (szIntS ya yl yc _ _ (by omega) (by omega) hy).mono ?_
        rw [if_neg (by omega)]
        rintro e w' ⟨rfl, rfl⟩
        go_wp2_with fail
        refine (szIntS za zl zc _ _ (by omega) (by omega) hz).mono ?_
        rw [if_neg (by omega)]
        rintro e w' ⟨rfl, rfl⟩
        go_wp2
        go_ret
        exact ⟨_, rfl, .inr ⟨by omega, by omega⟩, HB.out⟩
/-- What eqArm says of two arms that read the same. -/
theorem eqArm (x y z x2 y2 z2 : Sl) (ls lo hi : List Int) (w : World) (hx : IntsAt w x.a x.len ls) (hy : IntsAt w y.a y.len lo) (hz : IntsAt w z.a z.len hi) (hx2 : IntsAt w x2.a x2.len ls) (hy2 : IntsAt w y2.a y2.len lo) (hz2 : IntsAt w z2.a z2.len hi)
    (bx : x.len ≤ 9223372036854775807) (b_y : y.len ≤ 9223372036854775807) (bz : z.len ≤ 9223372036854775807) :
    Calls Tryd.prog 17 #[av x y z, av x2 y2 z2] w fun e w' => e = .returned (.bool true) ∧ Below w.heap.size w w' := by
  obtain ⟨xa, xl, xc⟩ := x
  obtain ⟨ya, yl, yc⟩ := y
  obtain ⟨za, zl, zc⟩ := z
  obtain ⟨xa2, xl2, xc2⟩ := x2
  obtain ⟨ya2, yl2, yc2⟩ := y2
  obtain ⟨za2, zl2, zc2⟩ := z2
  simp only at *
  have HB := Lib.hid (below_box2 w (.cells #[.slice xa xl xc, .slice ya yl yc, .slice za zl zc] 25) (.cells #[.slice xa2 xl2 xc2, .slice ya2 yl2 yc2, .slice za2 zl2 zc2] 25))
  have P := (AtA.box w (.slice xa xl xc) (.slice ya yl yc) (.slice za zl zc) 25).alloc (.cells #[.slice xa2 xl2 xc2, .slice ya2 yl2 yc2, .slice za2 zl2 zc2] 25)
  have Q := AtA.box (w.alloc (.cells #[.slice xa xl xc, .slice ya yl yc, .slice za zl zc] 25)) (.slice xa2 xl2 xc2) (.slice ya2 yl2 yc2) (.slice za2 zl2 zc2) 25
  rw [show (w.alloc (.cells #[.slice xa xl xc, .slice ya yl yc, .slice za zl zc] 25)).heap.size = w.heap.size + 1 by simp] at Q
  replace hx := hx.next HB.out
  replace hy := hy.next HB.out
  replace hz := hz.next HB.out
  replace hx2 := hx2.next HB.out
  replace hy2 := hy2.next HB.out
  replace hz2 := hz2.next HB.out
  go_enter Tryd.func17, Tryd.ntmps17
  go_wp2_with fail
  refine (eqIntS xa xa2 xl xl2 xc xc2 ls _ hx hx2 bx).mono ?_
  rintro e w1 ⟨rfl, B1⟩
  replace P := P.next B1
  replace Q := Q.next B1
  replace HB := Lib.hid (below_call HB.out B1)
  obtain ⟨p1, p2, p3, p4, _, _, _⟩ := id P
  obtain ⟨q1, q2, q3, q4, _, _, _⟩ := id Q
  go_wp2_with fail
  refine (eqIntS ya ya2 yl yl2 yc yc2 lo _ (hy.next B1) (hy2.next B1) b_y).mono ?_
  rintro e w2 ⟨rfl, B2⟩
  replace P := P.next B2
  replace Q := Q.next B2
  replace HB := Lib.hid (below_call HB.out B2)
  clear p1 p2 p3 p4 q1 q2 q3 q4
  obtain ⟨p1, p2, p3, p4, _, _, _⟩ := id P
  obtain ⟨q1, q2, q3, q4, _, _, _⟩ := id Q
  go_wp2_with fail
  refine (eqIntS za za2 zl zl2 zc zc2 hi _ ((hz.next B1).next B2) ((hz2.next B1).next B2) bz).mono ?_
  rintro e w3 ⟨rfl, B3⟩
  replace HB := Lib.hid (below_call HB.out B3)
  go_wp2
  go_ret
  exact ⟨rfl, HB.out⟩
/-- A fresh arm that reads as the three lists: its rows are of the call's own, no block of them lies below B, and no two are the same. -/
structure NewArm (w : World) (B : Nat) (x y z : Sl) (ls lo hi : List Int) : Prop where
  ox : OwnI w B (.slice x.a x.len x.cap) ls
  oy : OwnI w B (.slice y.a y.len y.cap) lo
  oz : OwnI w B (.slice z.a z.len z.cap) hi
  bx : ∃ g, x.a = some ⟨g, 0, none⟩ ∧ B ≤ g ∧ ∃ h, y.a = some ⟨h, 0, none⟩ ∧ g < h ∧ ∃ k, z.a = some ⟨k, 0, none⟩ ∧ h < k ∧ k < w.heap.size
theorem NewArm.next {w w' : World} {B : Nat} {x y z : Sl} {ls lo hi : List Int} (h : NewArm w B x y z ls lo hi) (hb : Below w.heap.size w w') : NewArm w' B x y z ls lo hi := by
  obtain ⟨g, h1, h2, h3, h4, h5, k, h6, h7, h8⟩ := h.bx
  exact ⟨h.ox.next hb, h.oy.next hb, h.oz.next hb, g, h1, h2, h3, h4, h5, k, h6, h7, Nat.lt_of_lt_of_le h8 hb.size⟩
theorem OwnI.mono {w : World} {B B' : Nat} {v : Value} {zs : List Int} (h : OwnI w B v zs) (hB : B' ≤ B) : OwnI w B' v zs := by
  refine ⟨h.1, ?_⟩
  rcases h.2 with h2 | ⟨g, cap, cur, hv, hb, rest⟩
  · exact .inl h2
  · exact .inr ⟨g, cap, cur, hv, Nat.le_trans hB hb, rest⟩
theorem OwnI.far {w : World} {B g c o n cap : Nat} {zs : List Int} (h : OwnI w B (.slice (some ⟨g, 0, none⟩) n cap) zs) (hc : c ≠ g) (u : Value) : OwnI (w.setCell ⟨c, o, none⟩ u) B (.slice (some ⟨g, 0, none⟩) n cap) zs :=
  World.ownsRow.kept (row := some c) h ⟨rfl, rfl, rfl, by simp [World.setCell], fun k _ hk => Below.heap_setCell w _ _ k (by rintro rfl; exact hk rfl)⟩ (by simp [Value.ownBlock]; omega)
set_option maxHeartbeats 1000000 in
theorem toArm (x y z : Sl) (ls lo hi : List Int) (w : World) (hx : IntsAt w x.a x.len ls) (hy : IntsAt w y.a y.len lo) (hz : IntsAt w z.a z.len hi) (lx : x.len ≤ 1048576) (ly : y.len ≤ 1048576) (lz : z.len ≤ 1048576) :
    Calls Tryd.prog 14 #[av x y z] w fun e w' => ∃ x2 y2 z2 : Sl, e = .returned (av x2 y2 z2) ∧ x2.len = x.len ∧ y2.len = y.len ∧ z2.len = z.len ∧ NewArm w' w.heap.size x2 y2 z2 ls lo hi ∧ Below w.heap.size w w' := by
  obtain ⟨xa, xl, xc⟩ := x
  obtain ⟨ya, yl, yc⟩ := y
  obtain ⟨za, zl, zc⟩ := z
  simp only at *
  have HB := Lib.hid (below_box3 w (.cells #[.slice xa xl xc, .slice ya yl yc, .slice za zl zc] 40) (.cells #[.slice none 0 0, .slice none 0 0, .slice none 0 0] 25) (.cells #[.slice none 0 0, .slice none 0 0, .slice none 0 0] 25))
  have P := ((AtA.box w (.slice xa xl xc) (.slice ya yl yc) (.slice za zl zc) 40).alloc (.cells #[.slice none 0 0, .slice none 0 0, .slice none 0 0] 25)).alloc (.cells #[.slice none 0 0, .slice none 0 0, .slice none 0 0] 25)
  have R := (AtA.box (w.alloc (.cells #[.slice xa xl xc, .slice ya yl yc, .slice za zl zc] 40)) (.slice none 0 0) (.slice none 0 0) (.slice none 0 0) 25).alloc (.cells #[.slice none 0 0, .slice none 0 0, .slice none 0 0] 25)
  have V := AtA.box ((w.alloc (.cells #[.slice xa xl xc, .slice ya yl yc, .slice za zl zc] 40)).alloc (.cells #[.slice none 0 0, .slice none 0 0, .slice none 0 0] 25)) (.slice none 0 0) (.slice none 0 0) (.slice none 0 0) 25
  rw [show (w.alloc (.cells #[.slice xa xl xc, .slice ya yl yc, .slice za zl zc] 40)).heap.size = w.heap.size + 1 by simp] at R
  rw [show ((w.alloc (.cells #[.slice xa xl xc, .slice ya yl yc, .slice za zl zc] 40)).alloc (.cells #[.slice none 0 0, .slice none 0 0, .slice none 0 0] 25)).heap.size = w.heap.size + 1 + 1 by simp] at V
  replace hx := hx.next HB.out
  have HY := Lib.hid hy
  have HZ := Lib.hid hz
  clear hy hz
  have H0 := Lib.hid (show w.heap.size ≤ (((w.alloc (.cells #[.slice xa xl xc, .slice ya yl yc, .slice za zl zc] 40)).alloc (.cells #[.slice none 0 0, .slice none 0 0, .slice none 0 0] 25)).alloc (.cells #[.slice none 0 0, .slice none 0 0, .slice none 0 0] 25)).heap.size from HB.out.size)
  have S0 := V.lt
  go_enter Tryd.func14, Tryd.ntmps14
  go_wp2_with fail
  refine (toIntS xa xl xc ls _ hx lx).mono ?_
  generalize (((w.alloc (.cells #[.slice xa xl xc, .slice ya yl yc, .slice za zl zc] 40)).alloc (.cells #[.slice none 0 0, .slice none 0 0, .slice none 0 0] 25)).alloc (.cells #[.slice none 0 0, .slice none 0 0, .slice none 0 0] 25)) = w0 at *
  rintro e w1 ⟨rfl, o1, B1⟩
  have n0 : w.heap.size + 1 + 1 ≠ w.heap.size := by omega
  have n1 : w.heap.size + 1 + 1 ≠ w.heap.size + 1 := by omega
  have nb : w.heap.size ≤ w.heap.size + 1 + 1 := by omega
  have g1 : w.heap.size + 1 + 1 ≠ w0.heap.size := by omega
  have l1 := (World.ownsRow.lt o1 _ rfl).2
  replace P := (P.next B1).far (o := 0) n0 (.slice (some ⟨w0.heap.size, 0, none⟩) xl xl)
  replace R := (R.next B1).far (o := 0) n1 (.slice (some ⟨w0.heap.size, 0, none⟩) xl xl)
  have V0 := V.next B1
  obtain ⟨v1, v2, v3, v4, v5, v6, v7⟩ := id V0
  replace V := V0.put0 (.slice (some ⟨w0.heap.size, 0, none⟩) xl xl)
  have O1 := (o1.mono H0.out).far (o := 0) g1 (.slice (some ⟨w0.heap.size, 0, none⟩) xl xl)
  replace HB := Lib.hid ((below_call HB.out B1).setCell (p := ⟨w.heap.size + 1 + 1, 0, none⟩) nb (.slice (some ⟨w0.heap.size, 0, none⟩) xl xl))
  have q4 : w0.heap.size < (w1.setCell ⟨w.heap.size + 1 + 1, 0, none⟩ (.slice (some ⟨w0.heap.size, 0, none⟩) xl xl)).heap.size := by simpa [World.setCell] using l1
  obtain ⟨p1, p2, p3, p4, _, _, _⟩ := id P
  clear o1 V0 hx B1
  go_wp2_with fail
  refine (toIntS ya yl yc lo _ (HY.out.next HB.out) ly).mono ?_
  generalize w1.setCell ⟨w.heap.size + 1 + 1, 0, none⟩ (.slice (some ⟨w0.heap.size, 0, none⟩) xl xl) = u1 at *
  rintro e w2 ⟨rfl, o2, B2⟩
  clear v1 v2 v3 v4 v5 v6 v7 p1 p2 p3 p4
  have g2 : w.heap.size + 1 + 1 ≠ u1.heap.size := by have := V.lt; omega
  have l2 := (World.ownsRow.lt o2 _ rfl).2
  have H1 := Lib.hid HB.out.size
  replace P := (P.next B2).far (o := 1) n0 (.slice (some ⟨u1.heap.size, 0, none⟩) yl yl)
  replace R := (R.next B2).far (o := 1) n1 (.slice (some ⟨u1.heap.size, 0, none⟩) yl yl)
  have V0 := V.next B2
  obtain ⟨v1, v2, v3, v4, v5, v6, v7⟩ := id V0
  replace V := V0.put1 (.slice (some ⟨u1.heap.size, 0, none⟩) yl yl)
  replace O1 := (O1.next B2).far (o := 1) g1 (.slice (some ⟨u1.heap.size, 0, none⟩) yl yl)
  have O2 := (o2.mono H1.out).far (o := 1) g2 (.slice (some ⟨u1.heap.size, 0, none⟩) yl yl)
  replace HB := Lib.hid ((below_call HB.out B2).setCell (p := ⟨w.heap.size + 1 + 1, 1, none⟩) nb (.slice (some ⟨u1.heap.size, 0, none⟩) yl yl))
  have q5 : u1.heap.size < (w2.setCell ⟨w.heap.size + 1 + 1, 1, none⟩ (.slice (some ⟨u1.heap.size, 0, none⟩) yl yl)).heap.size := by simpa [World.setCell] using l2
  obtain ⟨p1, p2, p3, p4, _, _, _⟩ := id P
  clear o2 V0 B2
  go_wp2_with fail
  refine (toIntS za zl zc hi _ (HZ.out.next HB.out) lz).mono ?_
  generalize w2.setCell ⟨w.heap.size + 1 + 1, 1, none⟩ (.slice (some ⟨u1.heap.size, 0, none⟩) yl yl) = u2 at *
  rintro e w3 ⟨rfl, o3, B3⟩
  clear v1 v2 v3 v4 v5 v6 v7 p1 p2 p3 p4
  have g3 : w.heap.size + 1 + 1 ≠ u2.heap.size := by have := V.lt; omega
  have l3 := (World.ownsRow.lt o3 _ rfl).2
  have H2 := Lib.hid HB.out.size
  have S3 := B3.size
  have R3 := R.next B3
  have V0 := V.next B3
  obtain ⟨v1, v2, v3, v4, v5, v6, v7⟩ := id V0
  obtain ⟨r1, r2, r3, r4, r5, r6, r7⟩ := id R3
  have V3 := V0.put2 (.slice (some ⟨u2.heap.size, 0, none⟩) zl zl)
  have HN := Lib.hid (And.intro ((O1.next B3).far (o := 2) g1 (.slice (some ⟨u2.heap.size, 0, none⟩) zl zl)) (And.intro ((O2.next B3).far (o := 2) g2 (.slice (some ⟨u2.heap.size, 0, none⟩) zl zl)) ((o3.mono H2.out).far (o := 2) g3 (.slice (some ⟨u2.heap.size, 0, none⟩) zl zl))))
  replace HB := Lib.hid ((below_call HB.out B3).setCell (p := ⟨w.heap.size + 1 + 1, 2, none⟩) nb (.slice (some ⟨u2.heap.size, 0, none⟩) zl zl))
  have q1 : w.heap.size + 1 ≠ w0.heap.size := by omega
  have q2 : w.heap.size + 1 ≠ u1.heap.size := by have := R.lt; omega
  have q3 : w.heap.size + 1 ≠ u2.heap.size := by have := R.lt; omega
  clear O1 O2 o3 P R V V0 V3 R3 B3
  go_wp2
  refine bodyPost_ret (v := av ⟨some ⟨w0.heap.size, 0, none⟩, xl, xl⟩ ⟨some ⟨u1.heap.size, 0, none⟩, yl, yl⟩ ⟨some ⟨u2.heap.size, 0, none⟩, zl, zl⟩) (by simp [results, Tryd.results14, go_sem, r2, r3, r4]) rfl
    ⟨_, _, _, rfl, rfl, rfl, rfl, ⟨((HN.out.1.far q1 _).far q1 _).far q1 _, ((HN.out.2.1.far q2 _).far q2 _).far q2 _, ((HN.out.2.2.far q3 _).far q3 _).far q3 _, _, rfl, H0.out, _, rfl, q4, _, rfl, q5, ?_⟩, ?_⟩
  · simpa [World.setCell] using l3
  · exact ((HB.out.setCell (p := ⟨w.heap.size + 1, 0, none⟩) (Nat.le_succ _) _).setCell (p := ⟨w.heap.size + 1, 1, none⟩) (Nat.le_succ _) _).setCell (p := ⟨w.heap.size + 1, 2, none⟩) (Nat.le_succ _) _
theorem OwnI.kept {w w' : World} {B g n cap : Nat} {zs : List Int} {row : Option Nat} (h : OwnI w B (.slice (some ⟨g, 0, none⟩) n cap) zs) (hg : w.grownBy w' row) (hne : row ≠ some g) : OwnI w' B (.slice (some ⟨g, 0, none⟩) n cap) zs :=
  World.ownsRow.kept h hg (.inr (by simpa [Value.ownBlock] using hne.symm))
/-- What marking a fresh arm says: from block C on nothing has changed, nor anything below B. -/
theorem markArm (x y z : Sl) (B : Nat) (ls lo hi : List Int) (k : Int) (w : World) (h : NewArm w B x y z ls lo hi) (hk0 : 0 ≤ k) (hk1 : k ≤ 1000000000) (lx : x.len ≤ 1048576) (ly : y.len ≤ 1048576) (lz : z.len ≤ 1048576) :
    Calls Tryd.prog 19 #[av x y z, .int .i64 k] w fun e w' => e = .returned (.int .i64 (k + x.len + y.len + z.len)) ∧ Below B w w' ∧
      ∀ c, c < w.heap.size → (∀ g, (x.a = some ⟨g, 0, none⟩ ∨ y.a = some ⟨g, 0, none⟩ ∨ z.a = some ⟨g, 0, none⟩) → c ≠ g) → w'.heap[c]? = w.heap[c]? := by
  obtain ⟨xa, xl, xc⟩ := x
  obtain ⟨ya, yl, yc⟩ := y
  obtain ⟨za, zl, zc⟩ := z
  obtain ⟨g, h1, h2, h3, h4, h5, k3, h6, h7, h8⟩ := h.bx
  simp only at *
  subst h1 h4 h6
  have Bx := below_box w (.cells #[.slice (some ⟨g, 0, none⟩) xl xc, .slice (some ⟨h3, 0, none⟩) yl yc, .slice (some ⟨k3, 0, none⟩) zl zc] 25)
  have P := AtA.box w (.slice (some ⟨g, 0, none⟩) xl xc) (.slice (some ⟨h3, 0, none⟩) yl yc) (.slice (some ⟨k3, 0, none⟩) zl zc) 25
  have ox := h.ox.next Bx
  have oy := h.oy.next Bx
  have oz := h.oz.next Bx
  clear h
  go_enter Tryd.func19, Tryd.ntmps19
  go_wp2_with fail
  refine (markIntS _ xl xc B ls k _ ox hk0 (by omega) (by omega)).mono ?_
  rintro e w1 ⟨rfl, _, g1, s1⟩
  have m1 : some w.heap.size ≠ some g := by simp; omega
  have HS1 := Lib.hid s1
  clear s1
  replace P := P.kept g1 m1
  replace oy := oy.kept g1 (by show some g ≠ some h3; simp; omega)
  replace oz := oz.kept g1 (by show some g ≠ some k3; simp; omega)
  obtain ⟨p1, p2, p3, p4, _, _, _⟩ := id P
  go_wp2_with fail
  refine (markIntS _ yl yc B lo _ _ oy (by omega) (by omega) (by omega)).mono ?_
  rintro e w2 ⟨rfl, _, g2, s2⟩
  have m2 : some w.heap.size ≠ some h3 := by simp; omega
  have HS2 := Lib.hid s2
  clear s2
  replace P := P.kept g2 m2
  replace oz := oz.kept g2 (by show some h3 ≠ some k3; simp; omega)
  clear p1 p2 p3 p4
  obtain ⟨p1, p2, p3, p4, _, _, _⟩ := id P
  go_wp2_with fail
  refine (markIntS _ zl zc B hi _ _ oz (by omega) (by omega) (by omega)).mono ?_
  rintro e w3 ⟨rfl, _, g3, s3⟩
  have HS3 := Lib.hid s3
  clear s3
  have HG := Lib.hid (And.intro g1 (And.intro g2 g3))
  clear g1 g2 g3
  go_wp2
  go_ret
  obtain ⟨g1, g2, g3⟩ := HG.out
  refine ⟨rfl, ?_, ?_⟩
  · have b0 : Below B w _ := (Below.refl B w).alloc (by omega) (.cells #[.slice (some ⟨g, 0, none⟩) xl xc, .slice (some ⟨h3, 0, none⟩) yl yc, .slice (some ⟨k3, 0, none⟩) zl zc] 25)
    have b1 := b0.grown g1 (by simp; omega) (fun q hq => by simp [Value.ownBlock] at hq; omega)
    have b2 := b1.grown g2 (by have := b1.size; omega) (fun q hq => by simp [Value.ownBlock] at hq; omega)
    exact b2.grown g3 (by have := b2.size; omega) (fun q hq => by simp [Value.ownBlock] at hq; omega)
  · intro c hc hne
    have c1 := hne g (.inl rfl)
    have c2 := hne h3 (.inr (.inl rfl))
    have c3 := hne k3 (.inr (.inr rfl))
    have z1 := HS1.out
    have z2 := HS2.out
    simp at z1
    rw [g3.block c (by omega) (by show some c ≠ some k3; simpa using c3), g2.block c (by omega) (by show some c ≠ some h3; simpa using c2), g1.block c (by simp; omega) (by show some c ≠ some g; simpa using c1)]
    exact Below.heap_alloc w _ c hc
end Go.Proofs.YtkogoflcacameaaDoor
namespace Go.Proofs.YtkogoflcacameaaDoor
set_option maxRecDepth 100000
open Go.RowKit
attribute [local go_sem ↓] Go.wp_at_zero Go.wp_at_succ

theorem sameOf {P : Program} {f : FuncId} {args : Array Value} {w : World} {v : Value} (h : Calls P f args w fun e w' => e = .returned v ∧ w = w') : Calls P f args w fun e w' => e = .returned v ∧ w' = w :=
  h.mono fun _ _ ⟨he, hw⟩ => ⟨he, hw.symm⟩
theorem below_drewN {B : Nat} {a w : World} (h : Below B a w) (n : Nat) : Below B a (w.drewN n) := ⟨h.os, h.tape, h.output, h.size, h.block⟩
/-- Link k has a valid length and a valid range. -/
def okLink (l o h : Int) : Prop := 1 ≤ l ∧ l ≤ 500 ∧ -180 ≤ o ∧ o ≤ 180 ∧ o ≤ h ∧ h ≤ 180
instance (l o h : Int) : Decidable (okLink l o h) := by unfold okLink; infer_instance
/-- A valid arm. -/
def okArm (ls lo hi : List Int) : Prop := 1 ≤ ls.length ∧ ls.length ≤ 4 ∧ lo.length = ls.length ∧ hi.length = ls.length ∧ ∀ k, k < ls.length → okLink (ls.getD k 0) (lo.getD k 0) (hi.getD k 0)
instance (ls lo hi : List Int) : Decidable (okArm ls lo hi) := by unfold okArm; infer_instance
theorem IntsAt.some {w : World} {a : Option Addr} {len : Nat} {zs : List Int} (h : IntsAt w a len zs) (hl : 1 ≤ len) : ∃ b off, a = Option.some ⟨b, off, none⟩ ∧ b < w.heap.size ∧ ∀ i, i < len → w.cell? ⟨b, off + i, none⟩ = Option.some (.int .i64 (zs.getD i 0)) := by
  rcases h.2 with h2 | ⟨b, off, h3, h4, h5⟩
  · have := h.1; rw [h2] at this; simp at this; omega
  · exact ⟨b, off, h3, h4, fun i hi => h5 i (by rw [← h.1]; exact hi)⟩
set_option maxHeartbeats 1000000 in
theorem specArmValidY (x y z : Sl) (ls lo hi : List Int) (w : World) (hx : IntsAt w x.a x.len ls) (hy : IntsAt w y.a y.len lo) (hz : IntsAt w z.a z.len hi) (hok : okArm ls lo hi) :
    Calls Tryd.prog 56 #[av x y z] w fun e w' => e = .returned (.bool true) ∧ Below w.heap.size w w' := by
  obtain ⟨xa, xl, xc⟩ := x
  obtain ⟨ya, yl, yc⟩ := y
  obtain ⟨za, zl, zc⟩ := z
  simp only at *
  obtain ⟨n1, n2, n3, n4, n5⟩ := hok
  have m1 := hx.1
  have m2 := hy.1
  have m3 := hz.1
  rw [n3] at m2
  rw [n4] at m3
  rw [← m1] at m2 m3 n1 n2
  have HK := Lib.hid (fun k (h : k < xl) => n5 k (by rw [← m1]; exact h))
  clear m1 n3 n4 n5
  replace m2 := m2.symm
  replace m3 := m3.symm
  subst m2
  subst m3
  obtain ⟨b1, o1, rfl, lt1, c1⟩ := hx.some (by omega)
  obtain ⟨b2, o2, rfl, lt2, c2⟩ := hy.some (by omega)
  obtain ⟨b3, o3, rfl, lt3, c3⟩ := hz.some (by omega)
  have HB := Lib.hid (below_box w (.cells #[.slice (some ⟨b1, o1, none⟩) xl xc, .slice (some ⟨b2, o2, none⟩) xl yc, .slice (some ⟨b3, o3, none⟩) xl zc] 25))
  have P := AtA.box w (.slice (some ⟨b1, o1, none⟩) xl xc) (.slice (some ⟨b2, o2, none⟩) xl yc) (.slice (some ⟨b3, o3, none⟩) xl zc) 25
  have C1 := Lib.hid (fun i hi => (HB.out.cell (p := ⟨b1, o1 + i, none⟩) lt1).trans (c1 i hi))
  have C2 := Lib.hid (fun i hi => (HB.out.cell (p := ⟨b2, o2 + i, none⟩) lt2).trans (c2 i hi))
  have C3 := Lib.hid (fun i hi => (HB.out.cell (p := ⟨b3, o3 + i, none⟩) lt3).trans (c3 i hi))
  have sz := HB.out.size
  have e1 : ((xl : Int) != (xl : Int)) = false := by simp
  clear hx hy hz c1 c2 c3
  go_enter Tryd.func56, Tryd.ntmps56
  go_wp2_with fail
  refine (l1In_yes xl 1 4 _ (by omega) (by omega)).mono ?_
  rintro e w' ⟨rfl, rfl⟩
  go_wp2
  generalize w.alloc (.cells #[.slice (some ⟨b1, o1, none⟩) xl xc, .slice (some ⟨b2, o2, none⟩) xl yc, .slice (some ⟨b3, o3, none⟩) xl zc] 25) = w0 at *
  go_loopw [4] (fun i wr => ∃ k : Nat, k ≤ xl ∧ i = .int .i64 (k : Int) ∧ Hid (Below w0.heap.size w0 wr)) (fun i _ => xl - (intOf i).toNat)
  case atStart => exact ⟨0, Nat.zero_le _, rfl, Lib.hid (Below.refl _ _)⟩
  case round =>
    obtain ⟨k, hk, rfl, HW⟩ := hrel
    by_cases hlt : k < xl
    · have Pk := P.next HW.out
      obtain ⟨_, d1, d2, d3, _, _, _⟩ := id Pk
      have d4 : wr.cell? ⟨b1, o1 + k, none⟩ = _ := (HW.out.cell (p := ⟨b1, o1 + k, none⟩) (Nat.lt_of_lt_of_le lt1 sz)).trans (C1.out k hlt)
      have d5 : wr.cell? ⟨b2, o2 + k, none⟩ = _ := (HW.out.cell (p := ⟨b2, o2 + k, none⟩) (Nat.lt_of_lt_of_le lt2 sz)).trans (C2.out k (by omega))
      have d6 : wr.cell? ⟨b3, o3 + k, none⟩ = _ := (HW.out.cell (p := ⟨b3, o3 + k, none⟩) (Nat.lt_of_lt_of_le lt3 sz)).trans (C3.out k (by omega))
      have i0 : (0 : Int) ≤ (k : Int) := by omega
      have i1 : (k : Int) < (xl : Int) := by omega
      have hok := HK.out k hlt
      generalize ls.getD k 0 = l at *
      generalize lo.getD k 0 = o at *
      generalize hi.getD k 0 = h at *
      obtain ⟨k1, k2, k3, k4, k5, k6⟩ := hok
      go_wp2
      go_quiet (first | (go_at_call_of 57 (Value.int IntKind.i64 500); exact Calls.quiet_of_same (sameOf (l1In_yes l 1 500 _ (by omega) (by omega)))) | (go_at_call_of 57 h; exact Calls.quiet_of_same (sameOf (l1In_yes h o 180 _ (by omega) (by omega)))) | (go_at_call_of 57 o; exact Calls.quiet_of_same (sameOf (l1In_yes o (-180) 180 _ (by omega) (by omega)))))
      go_wp2
      go_roundw
      case rel => exact ⟨k + 1, by omega, by congr 1, Lib.hid (below_drewN HW.out _)⟩
      case measure => simp [intOf]; omega
    · obtain rfl : k = xl := by omega
      go_wp2
      go_ret
      exact ⟨rfl, below_call HB.out HW.out⟩
set_option maxHeartbeats 1000000 in
theorem specArmValidN (x y z : Sl) (ls lo hi : List Int) (w : World) (hx : IntsAt w x.a x.len ls) (hy : IntsAt w y.a y.len lo) (hz : IntsAt w z.a z.len hi) (hok : ¬ okArm ls lo hi) (bx : x.len ≤ 9223372036854775807) (b_y : y.len ≤ 9223372036854775807) (bz : z.len ≤ 9223372036854775807) :
    Calls Tryd.prog 56 #[av x y z] w fun e w' => e = .returned (.bool false) ∧ Below w.heap.size w w' := by
  obtain ⟨xa, xl, xc⟩ := x
  obtain ⟨ya, yl, yc⟩ := y
  obtain ⟨za, zl, zc⟩ := z
  simp only at *
  have m1 := hx.1
  have m2 := hy.1
  have m3 := hz.1
  by_cases n1 : 1 ≤ xl ∧ xl ≤ 4
  · obtain ⟨n1, n2⟩ := n1
    by_cases n3 : yl = xl
    · by_cases n4 : zl = xl
      · have HNo := Lib.hid (fun (hj : ∀ j, j < xl → okLink (ls.getD j 0) (lo.getD j 0) (hi.getD j 0)) => hok ⟨by omega, by omega, by omega, by omega, fun k hk => hj k (by omega)⟩)
        clear hok m1 m2 m3
        replace n3 := n3.symm
        replace n4 := n4.symm
        subst n3
        subst n4
        obtain ⟨b1, o1, rfl, lt1, c1⟩ := hx.some (by omega)
        obtain ⟨b2, o2, rfl, lt2, c2⟩ := hy.some (by omega)
        obtain ⟨b3, o3, rfl, lt3, c3⟩ := hz.some (by omega)
        have HB := Lib.hid (below_box w (.cells #[.slice (some ⟨b1, o1, none⟩) xl xc, .slice (some ⟨b2, o2, none⟩) xl yc, .slice (some ⟨b3, o3, none⟩) xl zc] 25))
        have P := AtA.box w (.slice (some ⟨b1, o1, none⟩) xl xc) (.slice (some ⟨b2, o2, none⟩) xl yc) (.slice (some ⟨b3, o3, none⟩) xl zc) 25
        have C1 := Lib.hid (fun i hi => (HB.out.cell (p := ⟨b1, o1 + i, none⟩) lt1).trans (c1 i hi))
        have C2 := Lib.hid (fun i hi => (HB.out.cell (p := ⟨b2, o2 + i, none⟩) lt2).trans (c2 i hi))
        have C3 := Lib.hid (fun i hi => (HB.out.cell (p := ⟨b3, o3 + i, none⟩) lt3).trans (c3 i hi))
        have sz := HB.out.size
        have e1 : ((xl : Int) != (xl : Int)) = false := by simp
        clear hx hy hz c1 c2 c3
        go_enter Tryd.func56, Tryd.ntmps56
        go_wp2_with fail
        refine (l1In_yes xl 1 4 _ (by omega) (by omega)).mono ?_
        rintro e w' ⟨rfl, rfl⟩
        go_wp2
        generalize w.alloc (.cells #[.slice (some ⟨b1, o1, none⟩) xl xc, .slice (some ⟨b2, o2, none⟩) xl yc, .slice (some ⟨b3, o3, none⟩) xl zc] 25) = w0 at *
        go_loopw [4] (fun i wr => ∃ k : Nat, k ≤ xl ∧ i = .int .i64 (k : Int) ∧ Hid (∀ j, j < k → okLink (ls.getD j 0) (lo.getD j 0) (hi.getD j 0)) ∧ Hid (Below w0.heap.size w0 wr)) (fun i _ => xl - (intOf i).toNat)
        case atStart => exact ⟨0, Nat.zero_le _, rfl, Lib.hid (fun j hj => absurd hj (by omega)), Lib.hid (Below.refl _ _)⟩
        case round =>
          obtain ⟨k, hk, rfl, HJ, HW⟩ := hrel
          by_cases hlt : k < xl
          · have Pk := P.next HW.out
            obtain ⟨_, d1, d2, d3, _, _, _⟩ := id Pk
            have d4 : wr.cell? ⟨b1, o1 + k, none⟩ = _ := (HW.out.cell (p := ⟨b1, o1 + k, none⟩) (Nat.lt_of_lt_of_le lt1 sz)).trans (C1.out k hlt)
            have d5 : wr.cell? ⟨b2, o2 + k, none⟩ = _ := (HW.out.cell (p := ⟨b2, o2 + k, none⟩) (Nat.lt_of_lt_of_le lt2 sz)).trans (C2.out k (by omega))
            have d6 : wr.cell? ⟨b3, o3 + k, none⟩ = _ := (HW.out.cell (p := ⟨b3, o3 + k, none⟩) (Nat.lt_of_lt_of_le lt3 sz)).trans (C3.out k (by omega))
            have i0 : (0 : Int) ≤ (k : Int) := by omega
            have i1 : (k : Int) < (xl : Int) := by omega
            have HX := Lib.hid (fun (hok : okLink (ls.getD k 0) (lo.getD k 0) (hi.getD k 0)) j (hj : j < k + 1) => show okLink (ls.getD j 0) (lo.getD j 0) (hi.getD j 0) from if hjk : j < k then HJ.out j hjk else by rw [show j = k by omega]; exact hok)
            generalize ls.getD k 0 = l at *
            generalize lo.getD k 0 = o at *
            generalize hi.getD k 0 = h at *
            by_cases hl : 1 ≤ l ∧ l ≤ 500
            · obtain ⟨k1, k2⟩ := hl
              by_cases ho : -180 ≤ o ∧ o ≤ 180
              · obtain ⟨k3, k4⟩ := ho
                by_cases hh : o ≤ h ∧ h ≤ 180
                · obtain ⟨k5, k6⟩ := hh
                  go_wp2
                  go_quiet (first | (go_at_call_of 57 (Value.int IntKind.i64 500); exact Calls.quiet_of_same (sameOf (l1In_yes l 1 500 _ (by omega) (by omega)))) | (go_at_call_of 57 h; exact Calls.quiet_of_same (sameOf (l1In_yes h o 180 _ (by omega) (by omega)))) | (go_at_call_of 57 o; exact Calls.quiet_of_same (sameOf (l1In_yes o (-180) 180 _ (by omega) (by omega)))))
                  go_wp2
                  go_roundw
                  case rel => exact ⟨k + 1, by omega, by congr 1, Lib.hid (HX.out ⟨k1, k2, k3, k4, k5, k6⟩), Lib.hid (below_drewN HW.out _)⟩
                  case measure => simp [intOf]; omega
                · have HH := Lib.hid hh
                  clear hh
                  go_wp2
                  go_quiet (first | (go_at_call_of 57 (Value.int IntKind.i64 500); exact Calls.quiet_of_same (sameOf (l1In_yes l 1 500 _ (by omega) (by omega)))) | (go_at_call_of 57 h; exact Calls.quiet_of_same (sameOf (l1In_no h o 180 _ (by have := HH.out; omega)))) | (go_at_call_of 57 o; exact Calls.quiet_of_same (sameOf (l1In_yes o (-180) 180 _ (by omega) (by omega)))))
                  go_wp2
                  go_ret
                  exact ⟨rfl, below_drewN (below_call HB.out HW.out) _⟩
              · have HH := Lib.hid ho
                clear ho
                go_wp2
                go_quiet (first | (go_at_call_of 57 (Value.int IntKind.i64 500); exact Calls.quiet_of_same (sameOf (l1In_yes l 1 500 _ (by omega) (by omega)))) | (go_at_call_of 57 o; exact Calls.quiet_of_same (sameOf (l1In_no o (-180) 180 _ (by have := HH.out; omega)))))
                go_wp2
                go_ret
                exact ⟨rfl, below_drewN (below_call HB.out HW.out) _⟩
            · have HH := Lib.hid hl
              clear hl
              go_wp2
              go_quiet (first | (go_at_call_of 57 (Value.int IntKind.i64 500); exact Calls.quiet_of_same (sameOf (l1In_no l 1 500 _ (by have := HH.out; omega)))))
              go_wp2
              go_ret
              exact ⟨rfl, below_drewN (below_call HB.out HW.out) _⟩
          · obtain rfl : k = xl := by omega
            exact (HNo.out HJ.out).elim
      · have e1 : ((yl : Int) != (xl : Int)) = false := by simp; omega
        have e2 : ((zl : Int) != (xl : Int)) = true := by simp; omega
        clear hok m1 m2 m3 hx hy hz
        go_enter Tryd.func56, Tryd.ntmps56
        go_wp2_with fail
        refine (l1In_yes xl 1 4 _ (by omega) (by omega)).mono ?_
        rintro e w' ⟨rfl, rfl⟩
        go_wp2
        go_ret
        exact ⟨rfl, below_box _ _⟩
    · have e1 : ((yl : Int) != (xl : Int)) = true := by simp; omega
      clear hok m1 m2 m3 hx hy hz
      go_enter Tryd.func56, Tryd.ntmps56
      go_wp2_with fail
      refine (l1In_yes xl 1 4 _ (by omega) (by omega)).mono ?_
      rintro e w' ⟨rfl, rfl⟩
      go_wp2
      go_ret
      exact ⟨rfl, below_box _ _⟩
  · clear hok m1 m2 m3 hx hy hz
    have HH := Lib.hid n1
    clear n1
    go_enter Tryd.func56, Tryd.ntmps56
    go_wp2_with fail
    refine (l1In_no xl 1 4 _ (by have := HH.out; omega)).mono ?_
    rintro e w' ⟨rfl, rfl⟩
    go_wp2
    go_ret
    exact ⟨rfl, below_box _ _⟩
end Go.Proofs.YtkogoflcacameaaDoor
namespace Go.Proofs.YtkogoflcacameaaDoor
set_option maxRecDepth 100000
open Go.RowKit
attribute [local go_sem ↓] Go.wp_at_zero Go.wp_at_succ
/-- Valid angles of an arm. -/
def okJoints (ls lo hi js : List Int) : Prop := okArm ls lo hi ∧ js.length = ls.length ∧ ∀ k, k < js.length → lo.getD k 0 ≤ js.getD k 0 ∧ js.getD k 0 ≤ hi.getD k 0
instance (ls lo hi js : List Int) : Decidable (okJoints ls lo hi js) := by unfold okJoints; infer_instance
end Go.Proofs.YtkogoflcacameaaDoor
namespace Go.Proofs.YtkogoflcacameaaDoor
set_option maxRecDepth 100000
open Go.RowKit
attribute [local go_sem ↓] Go.wp_at_zero Go.wp_at_succ

/-- The nearest number in o..h. -/
def clip (d o h : Int) : Int := max o (min h d)
/-- The clamped angles. -/
def clampL (lo hi js : List Int) : List Int := (List.range js.length).map fun (k : Nat) => clip (js.getD k 0) (lo.getD k 0) (hi.getD k 0)
theorem clampL_len (lo hi js : List Int) : (clampL lo hi js).length = js.length := by simp [clampL]
theorem clampL_at (lo hi js : List Int) (k : Nat) (h : k < js.length) : (clampL lo hi js)[k]? = some (clip (js.getD k 0) (lo.getD k 0) (hi.getD k 0)) := by
  unfold clampL; rw [List.getElem?_map, List.getElem?_range h]; rfl
theorem take_next (zs : List Int) (k : Nat) (z : Int) (h : zs[k]? = some z) : vals (zs.take (k + 1)) = vals (zs.take k) ++ [Value.int .i64 z] := by
  have hl : k < zs.length := (List.getElem?_eq_some_iff.1 h).1
  have e : zs[k] = z := (List.getElem?_eq_some_iff.1 h).2
  rw [List.take_succ_eq_append_getElem hl, e]; simp
theorem World.ownsRow_down {w : World} {base base' : Nat} {e : TypeId} {size : Nat} {v : Value} {n : Nat} {xs : List Value} (h : w.ownsRow base e size v n xs) (hb : base' ≤ base) : w.ownsRow base' e size v n xs :=
  ⟨h.1, h.2.imp id fun ⟨g, cap, cur, hv, hg, rest⟩ => ⟨g, cap, cur, hv, Nat.le_trans hb hg, rest⟩⟩
theorem below_drew' (w : World) : Below w.heap.size w w.drew := (Below.refl _ _).drew
end Go.Proofs.YtkogoflcacameaaDoor
