/- Slices of whole numbers: what they read as, and the contracts of the laws' own helpers over them. -/
import Derived.Test.YtolkihibjabmhaaDoorPts2
import Derived.OwnWalk
import Derived.Laws.OwnMore
import Derived.Maps.AppendAt
import Derived.Deep.RegionHeld3
namespace Go.Proofs.YtolkihibjabmhaaDoor
set_option maxRecDepth 100000
open Go.RowKit
attribute [local go_sem ↓] Go.wp_at_zero Go.wp_at_succ

/-- A slice reads as the numbers zs. -/
def IntsAt (w : World) (a : Option Addr) (len : Nat) (zs : List Int) : Prop :=
  len = zs.length ∧ (zs = [] ∨ ∃ b off, a = some ⟨b, off, none⟩ ∧ b < w.heap.size ∧ ∀ i, i < zs.length → w.cell? ⟨b, off + i, none⟩ = some (.int .i64 (zs.getD i 0)))
theorem IntsAt.next {w w' : World} {a : Option Addr} {len : Nat} {zs : List Int} (h : IntsAt w a len zs) (hb : Below w.heap.size w w') : IntsAt w' a len zs := by
  refine ⟨h.1, ?_⟩
  rcases h.2 with h2 | ⟨b, off, rfl, hlt, hc⟩
  · exact .inl h2
  · exact .inr ⟨b, off, rfl, Nat.lt_of_lt_of_le hlt hb.size, fun i hi => by rw [hb.cell (p := ⟨b, off + i, none⟩) hlt]; exact hc i hi⟩
/-- The numbers as values. -/
abbrev vals (zs : List Int) : List Value := zs.map (Value.int .i64)
/-- k, k + 1, .. : n numbers. -/
def marks (k : Int) (n : Nat) : List Int := (List.range n).map fun (i : Nat) => k + (i : Int)
theorem marks_len (k : Int) (n : Nat) : (marks k n).length = n := by simp [marks]
theorem marks_at (k : Int) (n i : Nat) (h : i < n) : (marks k n).getD i 0 = k + (i : Int) := by
  unfold marks
  rw [List.getD_eq_getElem?_getD, List.getElem?_map, List.getElem?_range h]; rfl
/-- A row of the call's own that reads as zs. -/
def OwnI (w : World) (B : Nat) (v : Value) (zs : List Int) : Prop := w.ownsRow B 3 1 v zs.length (vals zs)
theorem OwnI.ints {w : World} {B : Nat} {a : Option Addr} {len cap : Nat} {zs : List Int} (h : OwnI w B (.slice a len cap) zs) : IntsAt w a len zs := by
  rcases h.2 with ⟨hv, hn⟩ | ⟨g, c, cur, hv, hb, hg, hnc, hcm, hcs, htake⟩
  · simp only [Value.slice.injEq] at hv
    exact ⟨by omega, .inl (List.eq_nil_of_length_eq_zero hn)⟩
  · simp only [Value.slice.injEq] at hv
    obtain ⟨rfl, rfl, rfl⟩ := hv
    refine ⟨rfl, .inr ⟨g, 0, rfl, (Array.getElem?_eq_some_iff.1 hg).1, fun i hi => ?_⟩⟩
    rw [Nat.zero_add, World.ownsRow.cellAt h i (by omega), List.getElem?_map, List.getD_eq_getElem?_getD, List.getElem?_eq_getElem hi]
    rfl
theorem OwnI.next {w w' : World} {B : Nat} {v : Value} {zs : List Int} (h : OwnI w B v zs) (hb : Below w.heap.size w w') : OwnI w' B v zs := by
  refine World.ownsRow.kept (row := none) h ⟨hb.os, hb.tape, hb.output, hb.size, fun k hk _ => hb.block k hk⟩ ?_
  cases v.ownBlock <;> simp
theorem szIntS (a : Option Addr) (len cap : Nat) (left : Int) (w : World) (h0 : 0 ≤ left) (h1 : left ≤ 1048576) (hl : len ≤ 9223372036854775807) :
    Calls Tryd.prog 66 #[.slice a len cap, .int .i64 left] w fun e w' => e = .returned (.int .i64 (if left < len then -1 else left - len)) ∧ w = w' := by
  by_cases h : left < len
  · rw [if_pos h]
    go_enter Tryd.func66, Tryd.ntmps66
    go_wp2
    go_ret
    exact ⟨rfl, rfl⟩
  · rw [if_neg h]
    go_enter Tryd.func66, Tryd.ntmps66
    go_wp2
    go_ret
    exact ⟨rfl, rfl⟩
theorem heldIntS (a : Option Addr) (len cap : Nat) (k : Int) (w : World) (h : IntsAt w a len (marks k len)) (hk0 : 0 ≤ k) (hk1 : k ≤ 1099511627776) (hl : len ≤ 1073741824) :
    Calls Tryd.prog 43 #[.slice a len cap, .int .i64 k] w fun e w' => e = .returned (.int .i64 (k + len)) ∧ w = w' := by
  rcases h.2 with h2 | ⟨b, off, rfl, hlt, hc⟩
  · have h3 : len = 0 := by rw [← marks_len k len, h2]; rfl
    subst h3
    clear h h2
    go_enter Tryd.func43, Tryd.ntmps43
    go_wp2
    go_loop [1, 5] (fun kk i => kk = .int .i64 k ∧ i = .int .i64 0) (fun _ _ => 0)
    case atStart => exact ⟨rfl, rfl⟩
    case round =>
      obtain ⟨rfl, rfl⟩ := hrel
      go_wp2
      go_ret
      exact ⟨ret_int (by omega), rfl⟩
  · have HC := Lib.hid (fun i (hi : i < len) => (hc i (by rw [marks_len]; exact hi)).trans (by rw [marks_at k len i hi]))
    clear h hc
    go_enter Tryd.func43, Tryd.ntmps43
    go_wp2
    go_loop [1, 5] (fun kk i => ∃ j : Nat, j ≤ len ∧ kk = .int .i64 (k + (j : Int)) ∧ i = .int .i64 (j : Int)) (fun _ i => len - (intOf i).toNat)
    case atStart => exact ⟨0, Nat.zero_le _, by simp, rfl⟩
    case round =>
      obtain ⟨j, hj, rfl, rfl⟩ := hrel
      by_cases hlt2 : j < len
      · have hcj := HC.out j hlt2
        have e0 : (k + (j : Int) != k + (j : Int)) = false := by simp
        go_wp2
        go_round
        case rel => exact ⟨j + 1, by omega, by congr 1; omega, by congr 1⟩
        case measure => simp [intOf]; omega
      · obtain rfl : j = len := by omega
        go_wp2
        go_ret
        exact ⟨rfl, rfl⟩
set_option maxHeartbeats 400000 in
theorem eqIntS (a b : Option Addr) (len len2 cap cap2 : Nat) (zs : List Int) (w : World) (h : IntsAt w a len zs) (h2 : IntsAt w b len2 zs) (hl : len ≤ 9223372036854775807) :
    Calls Tryd.prog 27 #[.slice a len cap, .slice b len2 cap2] w fun e w' => e = .returned (.bool true) ∧ Below w.heap.size w w' := by
  obtain rfl : len2 = len := by rw [h.1, h2.1]
  have e0 : ((len2 : Int) != (len2 : Int)) = false := by simp
  rcases h.2 with h3 | ⟨b1, o1, rfl, lt1, c1⟩
  · have h4 : len2 = 0 := by rw [h.1, h3]; rfl
    subst h4
    clear h h2 h3
    go_enter Tryd.func27, Tryd.ntmps27
    go_wp2
    go_loopw [5] (fun i wr => i = .int .i64 0 ∧ Hid (Below w.heap.size w wr)) (fun _ _ => 0)
    case atStart => exact ⟨rfl, Lib.hid (Below.refl _ _)⟩
    case round =>
      obtain ⟨rfl, HW⟩ := hrel
      go_wp2
      go_ret
      exact ⟨rfl, HW.out⟩
  · rcases h2.2 with h3 | ⟨b2, o2, rfl, lt2, c2⟩
    · have h4 : len2 = 0 := by rw [h.1, h3]; rfl
      subst h4
      clear h h2 h3 c1
      go_enter Tryd.func27, Tryd.ntmps27
      go_wp2
      go_loopw [5] (fun i wr => i = .int .i64 0 ∧ Hid (Below w.heap.size w wr)) (fun _ _ => 0)
      case atStart => exact ⟨rfl, Lib.hid (Below.refl _ _)⟩
      case round =>
        obtain ⟨rfl, HW⟩ := hrel
        go_wp2
        go_ret
        exact ⟨rfl, HW.out⟩
    · have hn := h.1
      have HC1 := Lib.hid (fun i (hi : i < len2) => c1 i (by rw [← hn]; exact hi))
      have HC2 := Lib.hid (fun i (hi : i < len2) => c2 i (by rw [← hn]; exact hi))
      clear h h2 c1 c2 hn
      go_enter Tryd.func27, Tryd.ntmps27
      go_wp2
      go_loopw [5] (fun i wr => ∃ j : Nat, j ≤ len2 ∧ i = .int .i64 (j : Int) ∧ Hid (Below w.heap.size w wr)) (fun i _ => len2 - (intOf i).toNat)
      case atStart => exact ⟨0, Nat.zero_le _, rfl, Lib.hid (Below.refl _ _)⟩
      case round =>
        obtain ⟨j, hj, rfl, HW⟩ := hrel
        by_cases hlt : j < len2
        · have d1 : wr.cell? ⟨b1, o1 + j, none⟩ = _ := (HW.out.cell (p := ⟨b1, o1 + j, none⟩) lt1).trans (HC1.out j hlt)
          have d2 : wr.cell? ⟨b2, o2 + j, none⟩ = _ := (HW.out.cell (p := ⟨b2, o2 + j, none⟩) lt2).trans (HC2.out j hlt)
          have e1 : (zs.getD j 0 != zs.getD j 0) = false := by simp
          generalize zs.getD j 0 = z at *
          have i0 : (0 : Int) ≤ (j : Int) := by omega
          have i1 : (j : Int) < (len2 : Int) := by omega
          go_wp2
          go_region_held3 (fun u => u.cell? ⟨b1, o1 + j, none⟩ = some (.int .i64 z) ∧ u.cell? ⟨b2, o2 + j, none⟩ = some (.int .i64 z)) (exact ⟨d1, d2⟩) (fail)
          go_wp2
          go_roundw
          case rel => exact ⟨j + 1, by omega, by congr 1, Lib.hid HW.out.drew⟩
          case measure => simp [intOf]; omega
        · obtain rfl : j = len2 := by omega
          go_wp2
          go_ret
          exact ⟨rfl, HW.out⟩
set_option maxHeartbeats 400000 in
theorem sameInts (a b : Option Addr) (len len2 cap cap2 : Nat) (zs : List Int) (w : World) (h : IntsAt w a len zs) (h2 : IntsAt w b len2 zs) (hl : len ≤ 9223372036854775807) :
    Calls Tryd.prog 40 #[.slice a len cap, .slice b len2 cap2] w fun e w' => e = .returned (.bool true) ∧ Below w.heap.size w w' := by
  obtain rfl : len2 = len := by rw [h.1, h2.1]
  have e0 : ((len2 : Int) != (len2 : Int)) = false := by simp
  rcases h.2 with h3 | ⟨b1, o1, rfl, lt1, c1⟩
  · have h4 : len2 = 0 := by rw [h.1, h3]; rfl
    subst h4
    clear h h2 h3
    go_enter Tryd.func40, Tryd.ntmps40
    go_wp2
    go_loopw [5] (fun i wr => i = .int .i64 0 ∧ Hid (Below w.heap.size w wr)) (fun _ _ => 0)
    case atStart => exact ⟨rfl, Lib.hid (Below.refl _ _)⟩
    case round =>
      obtain ⟨rfl, HW⟩ := hrel
      go_wp2
      go_ret
      exact ⟨rfl, HW.out⟩
  · rcases h2.2 with h3 | ⟨b2, o2, rfl, lt2, c2⟩
    · have h4 : len2 = 0 := by rw [h.1, h3]; rfl
      subst h4
      clear h h2 h3 c1
      go_enter Tryd.func40, Tryd.ntmps40
      go_wp2
      go_loopw [5] (fun i wr => i = .int .i64 0 ∧ Hid (Below w.heap.size w wr)) (fun _ _ => 0)
      case atStart => exact ⟨rfl, Lib.hid (Below.refl _ _)⟩
      case round =>
        obtain ⟨rfl, HW⟩ := hrel
        go_wp2
        go_ret
        exact ⟨rfl, HW.out⟩
    · have hn := h.1
      have HC1 := Lib.hid (fun i (hi : i < len2) => c1 i (by rw [← hn]; exact hi))
      have HC2 := Lib.hid (fun i (hi : i < len2) => c2 i (by rw [← hn]; exact hi))
      clear h h2 c1 c2 hn
      go_enter Tryd.func40, Tryd.ntmps40
      go_wp2
      go_loopw [5] (fun i wr => ∃ j : Nat, j ≤ len2 ∧ i = .int .i64 (j : Int) ∧ Hid (Below w.heap.size w wr)) (fun i _ => len2 - (intOf i).toNat)
      case atStart => exact ⟨0, Nat.zero_le _, rfl, Lib.hid (Below.refl _ _)⟩
      case round =>
        obtain ⟨j, hj, rfl, HW⟩ := hrel
        by_cases hlt : j < len2
        · have d1 : wr.cell? ⟨b1, o1 + j, none⟩ = _ := (HW.out.cell (p := ⟨b1, o1 + j, none⟩) lt1).trans (HC1.out j hlt)
          have d2 : wr.cell? ⟨b2, o2 + j, none⟩ = _ := (HW.out.cell (p := ⟨b2, o2 + j, none⟩) lt2).trans (HC2.out j hlt)
          have e1 : (zs.getD j 0 != zs.getD j 0) = false := by simp
          generalize zs.getD j 0 = z at *
          have i0 : (0 : Int) ≤ (j : Int) := by omega
          have i1 : (j : Int) < (len2 : Int) := by omega
          go_wp2
          go_region_held3 (fun u => u.cell? ⟨b1, o1 + j, none⟩ = some (.int .i64 z) ∧ u.cell? ⟨b2, o2 + j, none⟩ = some (.int .i64 z)) (exact ⟨d1, d2⟩) (fail)
          go_wp2
          go_roundw
          case rel => exact ⟨j + 1, by omega, by congr 1, Lib.hid HW.out.drew⟩
          case measure => simp [intOf]; omega
        · obtain rfl : j = len2 := by omega
          go_wp2
          go_ret
          exact ⟨rfl, HW.out⟩
/-- What a copy holds when j of its numbers are there. -/
def part (f : Nat → Int) (zs : List Int) (j : Nat) : List Value := (List.range zs.length).map fun (i : Nat) => Value.int .i64 (if i < j then f i else zs.getD i 0)
theorem part_set (f : Nat → Int) (zs : List Int) (j : Nat) : (part f zs j).set j (.int .i64 (f j)) = part f zs (j + 1) := by
  unfold part
  apply List.ext_getElem?
  intro i
  rw [List.getElem?_set, List.getElem?_map, List.getElem?_map, List.length_map, List.length_range]
  by_cases hi : i < zs.length
  · rw [List.getElem?_range hi]
    by_cases hj : j = i
    · subst hj; simp [hi]
    · rw [if_neg hj]
      simp only [Option.map_some]
      by_cases h1 : i < j
      · rw [if_pos h1, if_pos (by omega)]
      · rw [if_neg h1, if_neg (by omega)]
  · rw [List.getElem?_eq_none (by simp; omega)]
    by_cases hj : j = i
    · subst hj; simp [hi]
    · rw [if_neg hj]; rfl
theorem part_zero (f : Nat → Int) (zs : List Int) : part f zs 0 = vals zs := by
  unfold part vals
  apply List.ext_getElem?
  intro i
  rw [List.getElem?_map, List.getElem?_map]
  by_cases hi : i < zs.length
  · rw [List.getElem?_range hi, List.getElem?_eq_getElem hi]
    simp [List.getD_eq_getElem?_getD, List.getElem?_eq_getElem hi]
  · rw [List.getElem?_eq_none (by simp; omega), List.getElem?_eq_none (by omega)]; rfl
theorem part_all (f : Nat → Int) (zs ys : List Int) (hl : ys.length = zs.length) (h : ∀ i, i < zs.length → f i = ys.getD i 0) : part f zs zs.length = vals ys := by
  unfold part vals
  apply List.ext_getElem?
  intro i
  rw [List.getElem?_map, List.getElem?_map]
  by_cases hi : i < zs.length
  · rw [List.getElem?_range hi, List.getElem?_eq_getElem (by omega)]
    simp [hi, h i hi, List.getD_eq_getElem?_getD, List.getElem?_eq_getElem (show i < ys.length by omega)]
  · rw [List.getElem?_eq_none (by simp; omega), List.getElem?_eq_none (by omega)]; rfl
theorem part_len (f : Nat → Int) (zs : List Int) (j : Nat) : (part f zs j).length = zs.length := by simp [part]
theorem infoInt : (Tryd.prog.info? 3).map (fun i => (i.zero, i.size, i.bytes)) = some (some (.int .i64 0), 1, 8) := by kernel_rfl
theorem made_zero (n : Nat) (f : Nat → Int) : (madeCells (Value.int .i64 0).cells (n * 1)).toList = part f (List.replicate n 0) 0 := by
  rw [part_zero]
  show (madeCells #[Value.int .i64 0] (n * 1)).toList = _
  rw [Nat.mul_one, toList_madeCells_one, vals, List.map_replicate]
set_option maxHeartbeats 400000 in
theorem toIntS (a : Option Addr) (len cap : Nat) (zs : List Int) (w : World) (h : IntsAt w a len zs) (hl : len ≤ 1048576) :
    Calls Tryd.prog 24 #[.slice a len cap] w fun e w' => e = .returned (.slice (some ⟨w.heap.size, 0, none⟩) len len) ∧ OwnI w' w.heap.size (.slice (some ⟨w.heap.size, 0, none⟩) len len) zs ∧ Below w.heap.size w w' := by
  obtain ⟨i0, hi, hz0, hz1, hz2⟩ := info_parts infoInt
  obtain ⟨hn, h2⟩ := h
  subst hn
  have HM := Lib.hid (made_zero zs.length fun i => zs.getD i 0)
  have HF := Lib.hid (part_all (fun i => zs.getD i 0) (List.replicate zs.length 0) zs (by simp) (fun _ _ => rfl))
  have HP := Lib.hid (fun j => part_set (fun i => zs.getD i 0) (List.replicate zs.length 0) j)
  go_enter Tryd.func24, Tryd.ntmps24
  go_wp2_with (first
    | (at_make; refine wpList_make_full _ rfl _ _ 23 rfl w.heap.size 3 i0 (.int .i64 0) 1 Tryd.underlying23 hi hz0 hz1 .i64 .i64 _ _ zs.length rfl rfl rfl rfl (by rw [hz2]; omega) (by unfold maxLen; omega) (Nat.le_refl _) ?_; intro w1 own1 grow1))
  have own2 : w1.ownsRow w.heap.size 3 1 (.slice (some ⟨w.heap.size, 0, none⟩) zs.length zs.length) zs.length (part (fun i => zs.getD i 0) (List.replicate zs.length 0) 0) := by rw [← HM.out]; exact own1
  have HG : Below w.heap.size w w1 := (Below.refl _ _).grown grow1 (Nat.le_refl _) (fun k hk => by cases hk)
  clear own1 grow1
  go_loopw [4] (fun i wr => ∃ j : Nat, j ≤ zs.length ∧ i = .int .i64 (j : Int) ∧ Hid (wr.ownsRow w.heap.size 3 1 (.slice (some ⟨w.heap.size, 0, none⟩) zs.length zs.length) zs.length (part (fun i => zs.getD i 0) (List.replicate zs.length 0) j)) ∧ Hid (Below w.heap.size w wr)) (fun i _ => zs.length - (intOf i).toNat)
  case atStart => exact ⟨0, Nat.zero_le _, rfl, Lib.hid own2, Lib.hid HG⟩
  case round =>
    obtain ⟨j, hj, rfl, HO, HW⟩ := hrel
    clear own2 HG
    by_cases hlt : j < zs.length
    · rcases h2 with h3 | ⟨b, off, rfl, ltb, hc⟩
      · rw [h3] at hlt; simp at hlt
      · have d1 : wr.cell? ⟨b, off + j, none⟩ = _ := (HW.out.cell (p := ⟨b, off + j, none⟩) ltb).trans (hc j hlt)
        have d2 := HO.out.cellAt j (by omega)
        have d3 := HO.out.frozenAt j
        have HS := Lib.hid (HO.out.stored j (.int .i64 (zs.getD j 0)))
        rw [List.getElem?_eq_getElem (by rw [part_len]; simpa using hlt)] at d2
        clear hc
        generalize hz : zs.getD j 0 = z at *
        go_wp2
        go_roundw
        case rel => exact ⟨j + 1, by omega, by congr 1, Lib.hid (by rw [← HP.out j, hz]; exact HS.out.1), Lib.hid (HW.out.grown HS.out.2 HW.out.size (fun k hk => by injection hk with hk; omega))⟩
        case measure => simp [intOf]; omega
    · obtain rfl : j = zs.length := by omega
      go_wp2
      go_ret
      refine ⟨rfl, ?_, HW.out⟩
      unfold OwnI
      rw [← HF.out, List.length_replicate]
      exact HO.out
/-- What marking a row of the call's own says: the marks are there, nothing else has changed. -/
def Marked (B : Nat) (v : Value) (n : Nat) (k : Int) (w : World) (e : Ending) (w' : World) : Prop :=
  e = .returned (.int .i64 (k + n)) ∧ OwnI w' B v (marks k n) ∧ w.grownBy w' v.ownBlock ∧ w'.heap.size = w.heap.size
set_option maxHeartbeats 400000 in
theorem markIntS (a : Option Addr) (len cap B : Nat) (zs : List Int) (k : Int) (w : World) (h : OwnI w B (.slice a len cap) zs) (hk0 : 0 ≤ k) (hk1 : k ≤ 1099511627776) (hl : len ≤ 1073741824) :
    Calls Tryd.prog 29 #[.slice a len cap, .int .i64 k] w (Marked B (.slice a len cap) len k w) := by
  rcases h.2 with ⟨hv, hn⟩ | ⟨g, c, cur, hv, hb, hg, hnc, hcm, hcs, htake⟩
  · simp only [Value.slice.injEq] at hv
    obtain ⟨rfl, rfl, rfl⟩ := hv
    clear h
    go_enter Tryd.func29, Tryd.ntmps29
    go_wp2
    go_loop [1, 5] (fun kk i => kk = .int .i64 k ∧ i = .int .i64 0) (fun _ _ => 0)
    case atStart => exact ⟨rfl, rfl⟩
    case round =>
      obtain ⟨rfl, rfl⟩ := hrel
      go_wp2
      go_ret
      exact ⟨ret_int (by omega), World.ownsRow_nil _ _ _ _, World.grownBy.refl _ _, rfl⟩
  · simp only [Value.slice.injEq] at hv
    obtain ⟨rfl, rfl, rfl⟩ := hv
    have H0 : w.ownsRow B 3 1 (.slice (some ⟨g, 0, none⟩) zs.length cap) zs.length (part (fun i => k + (i : Int)) zs 0) := by rw [part_zero]; exact h
    have HF := Lib.hid (part_all (fun i => k + (i : Int)) zs (marks k zs.length) (by rw [marks_len]) (fun i hi => (marks_at k _ i hi).symm))
    have HP := Lib.hid (fun j => part_set (fun i => k + (i : Int)) zs j)
    clear hb hg hnc hcm hcs htake h
    go_enter Tryd.func29, Tryd.ntmps29
    go_wp2
    go_loopw [1, 5] (fun kk i wr => ∃ j : Nat, j ≤ zs.length ∧ kk = .int .i64 (k + (j : Int)) ∧ i = .int .i64 (j : Int) ∧ Hid (wr.ownsRow B 3 1 (.slice (some ⟨g, 0, none⟩) zs.length cap) zs.length (part (fun i => k + (i : Int)) zs j)) ∧ Hid (w.grownBy wr (some g)) ∧ Hid (wr.heap.size = w.heap.size)) (fun _ i _ => zs.length - (intOf i).toNat)
    case atStart => exact ⟨0, Nat.zero_le _, by simp, rfl, Lib.hid H0, Lib.hid (World.grownBy.refl _ _), Lib.hid rfl⟩
    case round =>
      obtain ⟨j, hj, rfl, rfl, HO, HW, HS⟩ := hrel
      clear H0
      by_cases hlt : j < zs.length
      · have d2 := HO.out.cellAt j (by omega)
        have d3 := HO.out.frozenAt j
        have HT := Lib.hid (HO.out.stored j (.int .i64 (k + (j : Int))))
        rw [List.getElem?_eq_getElem (by rw [part_len]; exact hlt)] at d2
        go_wp2
        go_roundw
        case rel => exact ⟨j + 1, by omega, by congr 1; omega, by congr 1, Lib.hid (by rw [← HP.out j]; exact HT.out.1), Lib.hid (HW.out.trans HT.out.2), Lib.hid (by simpa [World.setCell] using HS.out)⟩
        case measure => simp [intOf]; omega
      · obtain rfl : j = zs.length := by omega
        go_wp2
        go_ret
        refine ⟨rfl, ?_, HW.out, HS.out⟩
        unfold OwnI
        rw [marks_len, ← HF.out]
        exact HO.out
end Go.Proofs.YtolkihibjabmhaaDoor
