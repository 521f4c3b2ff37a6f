/- Slices of bools and tables of them: what they read as, opened as a law's argument, measured, copied, compared and marked by the laws' own helpers. -/
import Derived.Test.YtmdkihaiognpgaaZbArm
import Derived.Test.YtmdkihaiognpgaaPts3
import Derived.Test.YtmdkihaiognpgaaZbChn
import Derived.Test.YtmdkihaiognpgaaZbKt
import Derived.Laws.MakeOwn
import Derived.Deep.Slices
import Derived.OpenShut
import Derived.Lib.SmallJoins
import Derived.ChangeArms
import Derived.Outline
import Derived.Deep.DeepCutAuto
import Derived.Deep.RegionHeld3
namespace Go.Proofs.Ytmdkihaiognpgaa.Bol
set_option maxRecDepth 100000
open Go.ChangeShapes Go.WideShapes Go.ChangeAt Go.RowKit Go.Joins
attribute [local go_sem ↓] Go.wp_at_zero Go.wp_at_succ
/-- A slice as a value. -/
def slQ (s : Sl) : Value := .slice s.a s.len s.cap

/-- A slice reads as the numbers zs. -/
def BoolsAt (w : World) (a : Option Addr) (len : Nat) (zs : List Bool) : Prop :=
  len = zs.length ∧ (zs = [] ∨ ∃ b off, a = some ⟨b, off, none⟩ ∧ b < w.heap.size ∧ ∀ i, i < zs.length → w.cell? ⟨b, off + i, none⟩ = some (.bool (zs.getD i false)))
theorem BoolsAt.next {w w' : World} {a : Option Addr} {len : Nat} {zs : List Bool} (h : BoolsAt w a len zs) (hb : Below w.heap.size w w') : BoolsAt w' a len zs := by
  refine ⟨h.1, ?_⟩
  rcases h.2 with h2 | ⟨b, off, rfl, hlt, hc⟩
  · exact .inl h2
  · exact .inr ⟨b, off, rfl, Nat.lt_of_lt_of_le hlt hb.size, fun i hi => by rw [hb.cell (p := ⟨b, off + i, none⟩) hlt]; exact hc i hi⟩
theorem BoolsAt.some {w : World} {a : Option Addr} {len : Nat} {zs : List Bool} (h : BoolsAt w a len zs) (hl : 1 ≤ len) : ∃ b off, a = Option.some ⟨b, off, none⟩ ∧ b < w.heap.size ∧ ∀ i, i < len → w.cell? ⟨b, off + i, none⟩ = Option.some (.bool (zs.getD i false)) := by
  rcases h.2 with h2 | ⟨b, off, h3, h4, h5⟩
  · have := h.1; rw [h2] at this; simp at this; omega
  · exact ⟨b, off, h3, h4, fun i hi => h5 i (by rw [← h.1]; exact hi)⟩
/-- The numbers as values. -/
abbrev vals (zs : List Bool) : List Value := zs.map Value.bool
/-- The marks from k on: every third is true. -/
def marks (k : Int) (n : Nat) : List Bool := (List.range n).map fun (i : Nat) => ((k + (i : Int)) % 3 == 0)
theorem marks_len (k : Int) (n : Nat) : (marks k n).length = n := by simp [marks]
theorem marks_at (k : Int) (n i : Nat) (h : i < n) : (marks k n).getD i false = ((k + (i : Int)) % 3 == 0) := by
  unfold marks
  rw [List.getD_eq_getElem?_getD, List.getElem?_map, List.getElem?_range h]; rfl
/-- A row of the call's own that reads as zs. -/
def OwnB (w : World) (B : Nat) (v : Value) (zs : List Bool) : Prop := w.ownsRow B 4 1 v zs.length (vals zs)
theorem OwnB.ints {w : World} {B : Nat} {a : Option Addr} {len cap : Nat} {zs : List Bool} (h : OwnB w B (.slice a len cap) zs) : BoolsAt w a len zs := by
  rcases h.2 with ⟨hv, hn⟩ | ⟨g, c, cur, hv, hb, hg, hnc, hcm, hcs, htake⟩
  · simp only [Value.slice.injEq] at hv
    exact ⟨by omega, .inl (List.eq_nil_of_length_eq_zero hn)⟩
  · simp only [Value.slice.injEq] at hv
    obtain ⟨rfl, rfl, rfl⟩ := hv
    refine ⟨rfl, .inr ⟨g, 0, rfl, (Array.getElem?_eq_some_iff.1 hg).1, fun i hi => ?_⟩⟩
    rw [Nat.zero_add, World.ownsRow.cellAt h i (by omega), List.getElem?_map, List.getD_eq_getElem?_getD, List.getElem?_eq_getElem hi]
    rfl
theorem OwnB.next {w w' : World} {B : Nat} {v : Value} {zs : List Bool} (h : OwnB w B v zs) (hb : Below w.heap.size w w') : OwnB w' B v zs := by
  refine World.ownsRow.kept (row := none) h ⟨hb.os, hb.tape, hb.output, hb.size, fun k hk _ => hb.block k hk⟩ ?_
  cases v.ownBlock <;> simp
theorem szBoolS (a : Option Addr) (len cap : Nat) (left : Int) (w : World) (h0 : 0 ≤ left) (h1 : left ≤ 1048576) (hl : len ≤ 9223372036854775807) :
    Calls Try.prog 77 #[.slice a len cap, .int .i64 left] w fun e w' => e = .returned (.int .i64 (if left < len then -1 else left - len)) ∧ w = w' := by
  by_cases h : left < len
  · rw [if_pos h]
    go_enter Try.func77, Try.ntmps77
    go_wp2
    go_ret
    exact ⟨rfl, rfl⟩
  · rw [if_neg h]
    go_enter Try.func77, Try.ntmps77
    go_wp2
    go_ret
    exact ⟨rfl, rfl⟩
set_option maxHeartbeats 400000 in
theorem eqBoolS (a b : Option Addr) (len len2 cap cap2 : Nat) (zs : List Bool) (w : World) (h : BoolsAt w a len zs) (h2 : BoolsAt w b len2 zs) (hl : len ≤ 9223372036854775807) :
    Calls Try.prog 80 #[.slice a len cap, .slice b len2 cap2] w fun e w' => e = .returned (.bool true) ∧ Below w.heap.size w w' := by
  obtain rfl : len2 = len := by rw [h.1, h2.1]
  have e0 : ((len2 : Int) != (len2 : Int)) = false := by simp
  rcases h.2 with h3 | ⟨b1, o1, rfl, lt1, c1⟩
  · have h4 : len2 = 0 := by rw [h.1, h3]; rfl
    subst h4
    clear h h2 h3
    go_enter Try.func80, Try.ntmps80
    go_wp2
    go_loopw [5] (fun i wr => i = .int .i64 0 ∧ Hid (Below w.heap.size w wr)) (fun _ _ => 0)
    case atStart => exact ⟨rfl, Lib.hid (Below.refl _ _)⟩
    case round =>
      obtain ⟨rfl, HW⟩ := hrel
      go_wp2
      go_ret
      exact ⟨rfl, HW.out⟩
  · rcases h2.2 with h3 | ⟨b2, o2, rfl, lt2, c2⟩
    · have h4 : len2 = 0 := by rw [h.1, h3]; rfl
      subst h4
      clear h h2 h3 c1
      go_enter Try.func80, Try.ntmps80
      go_wp2
      go_loopw [5] (fun i wr => i = .int .i64 0 ∧ Hid (Below w.heap.size w wr)) (fun _ _ => 0)
      case atStart => exact ⟨rfl, Lib.hid (Below.refl _ _)⟩
      case round =>
        obtain ⟨rfl, HW⟩ := hrel
        go_wp2
        go_ret
        exact ⟨rfl, HW.out⟩
    · have hn := h.1
      have HC1 := Lib.hid (fun i (hi : i < len2) => c1 i (by rw [← hn]; exact hi))
      have HC2 := Lib.hid (fun i (hi : i < len2) => c2 i (by rw [← hn]; exact hi))
      clear h h2 c1 c2 hn
      go_enter Try.func80, Try.ntmps80
      go_wp2
      go_loopw [5] (fun i wr => ∃ j : Nat, j ≤ len2 ∧ i = .int .i64 (j : Int) ∧ Hid (Below w.heap.size w wr)) (fun i _ => len2 - (intOf i).toNat)
      case atStart => exact ⟨0, Nat.zero_le _, rfl, Lib.hid (Below.refl _ _)⟩
      case round =>
        obtain ⟨j, hj, rfl, HW⟩ := hrel
        by_cases hlt : j < len2
        · have d1 : wr.cell? ⟨b1, o1 + j, none⟩ = _ := (HW.out.cell (p := ⟨b1, o1 + j, none⟩) lt1).trans (HC1.out j hlt)
          have d2 : wr.cell? ⟨b2, o2 + j, none⟩ = _ := (HW.out.cell (p := ⟨b2, o2 + j, none⟩) lt2).trans (HC2.out j hlt)
          have e1 : (zs.getD j false != zs.getD j false) = false := by simp
          generalize zs.getD j false = z at *
          have i0 : (0 : Int) ≤ (j : Int) := by omega
          have i1 : (j : Int) < (len2 : Int) := by omega
          go_wp2
          go_region_held3 (fun u => u.cell? ⟨b1, o1 + j, none⟩ = some (.bool z) ∧ u.cell? ⟨b2, o2 + j, none⟩ = some (.bool z)) (exact ⟨d1, d2⟩) (fail)
          go_wp2
          go_roundw
          case rel => exact ⟨j + 1, by omega, by congr 1, Lib.hid HW.out.drew⟩
          case measure => simp [intOf]; omega
        · obtain rfl : j = len2 := by omega
          go_wp2
          go_ret
          exact ⟨rfl, HW.out⟩
/-- What a copy holds when j of its numbers are there. -/
def part (f : Nat → Bool) (zs : List Bool) (j : Nat) : List Value := (List.range zs.length).map fun (i : Nat) => Value.bool (if i < j then f i else zs.getD i false)
theorem part_set (f : Nat → Bool) (zs : List Bool) (j : Nat) : (part f zs j).set j (.bool (f j)) = part f zs (j + 1) := by
  unfold part
  apply List.ext_getElem?
  intro i
  rw [List.getElem?_set, List.getElem?_map, List.getElem?_map, List.length_map, List.length_range]
  by_cases hi : i < zs.length
  · rw [List.getElem?_range hi]
    by_cases hj : j = i
    · subst hj; simp [hi]
    · rw [if_neg hj]
      simp only [Option.map_some]
      by_cases h1 : i < j
      · rw [if_pos h1, if_pos (by omega)]
      · rw [if_neg h1, if_neg (by omega)]
  · rw [List.getElem?_eq_none (by simp; omega)]
    by_cases hj : j = i
    · subst hj; simp [hi]
    · rw [if_neg hj]; rfl
theorem part_zero (f : Nat → Bool) (zs : List Bool) : part f zs 0 = vals zs := by
  unfold part vals
  apply List.ext_getElem?
  intro i
  rw [List.getElem?_map, List.getElem?_map]
  by_cases hi : i < zs.length
  · rw [List.getElem?_range hi, List.getElem?_eq_getElem hi]
    simp [List.getD_eq_getElem?_getD, List.getElem?_eq_getElem hi]
  · rw [List.getElem?_eq_none (by simp; omega), List.getElem?_eq_none (by omega)]; rfl
theorem part_all (f : Nat → Bool) (zs ys : List Bool) (hl : ys.length = zs.length) (h : ∀ i, i < zs.length → f i = ys.getD i false) : part f zs zs.length = vals ys := by
  unfold part vals
  apply List.ext_getElem?
  intro i
  rw [List.getElem?_map, List.getElem?_map]
  by_cases hi : i < zs.length
  · rw [List.getElem?_range hi, List.getElem?_eq_getElem (by omega)]
    simp [hi, h i hi, List.getD_eq_getElem?_getD, List.getElem?_eq_getElem (show i < ys.length by omega)]
  · rw [List.getElem?_eq_none (by simp; omega), List.getElem?_eq_none (by omega)]; rfl
theorem part_len (f : Nat → Bool) (zs : List Bool) (j : Nat) : (part f zs j).length = zs.length := by simp [part]
theorem infoBool : (Try.prog.info? 4).map (fun i => (i.zero, i.size, i.bytes)) = some (some (.bool false), 1, 1) := by kernel_rfl
theorem made_zero (n : Nat) (f : Nat → Bool) : (madeCells (Value.bool false).cells (n * 1)).toList = part f (List.replicate n false) 0 := by
  rw [part_zero]
  show (madeCells #[Value.bool false] (n * 1)).toList = _
  rw [Nat.mul_one, toList_madeCells_one, vals, List.map_replicate]
set_option maxHeartbeats 400000 in
theorem toBoolS (a : Option Addr) (len cap : Nat) (zs : List Bool) (w : World) (h : BoolsAt w a len zs) (hl : len ≤ 1048576) :
    Calls Try.prog 78 #[.slice a len cap] w fun e w' => e = .returned (.slice (some ⟨w.heap.size, 0, none⟩) len len) ∧ OwnB w' w.heap.size (.slice (some ⟨w.heap.size, 0, none⟩) len len) zs ∧ Below w.heap.size w w' := by
  obtain ⟨i0, hi, hz0, hz1, hz2⟩ := info_parts infoBool
  obtain ⟨hn, h2⟩ := h
  subst hn
  have HM := Lib.hid (made_zero zs.length fun i => zs.getD i false)
  have HF := Lib.hid (part_all (fun i => zs.getD i false) (List.replicate zs.length false) zs (by simp) (fun _ _ => rfl))
  have HP := Lib.hid (fun j => part_set (fun i => zs.getD i false) (List.replicate zs.length false) j)
  go_enter Try.func78, Try.ntmps78
  go_wp2_with (first
    | (at_make; refine wpList_make_full _ rfl _ _ 46 rfl w.heap.size 4 i0 (.bool false) 1 Try.underlying46 hi hz0 hz1 .i64 .i64 _ _ zs.length rfl rfl rfl rfl (by rw [hz2]; omega) (by unfold maxLen; omega) (Nat.le_refl _) ?_; intro w1 own1 grow1))
  have own2 : w1.ownsRow w.heap.size 4 1 (.slice (some ⟨w.heap.size, 0, none⟩) zs.length zs.length) zs.length (part (fun i => zs.getD i false) (List.replicate zs.length false) 0) := by rw [← HM.out]; exact own1
  have HG : Below w.heap.size w w1 := (Below.refl _ _).grown grow1 (Nat.le_refl _) (fun k hk => by cases hk)
  clear own1 grow1
  go_loopw [4] (fun i wr => ∃ j : Nat, j ≤ zs.length ∧ i = .int .i64 (j : Int) ∧ Hid (wr.ownsRow w.heap.size 4 1 (.slice (some ⟨w.heap.size, 0, none⟩) zs.length zs.length) zs.length (part (fun i => zs.getD i false) (List.replicate zs.length false) j)) ∧ Hid (Below w.heap.size w wr)) (fun i _ => zs.length - (intOf i).toNat)
  case atStart => exact ⟨0, Nat.zero_le _, rfl, Lib.hid own2, Lib.hid HG⟩
  case round =>
    obtain ⟨j, hj, rfl, HO, HW⟩ := hrel
    clear own2 HG
    by_cases hlt : j < zs.length
    · rcases h2 with h3 | ⟨b, off, rfl, ltb, hc⟩
      · rw [h3] at hlt; simp at hlt
      · have d1 : wr.cell? ⟨b, off + j, none⟩ = _ := (HW.out.cell (p := ⟨b, off + j, none⟩) ltb).trans (hc j hlt)
        have d2 := HO.out.cellAt j (by omega)
        have d3 := HO.out.frozenAt j
        have HS := Lib.hid (HO.out.stored j (.bool (zs.getD j false)))
        rw [List.getElem?_eq_getElem (by rw [part_len]; simpa using hlt)] at d2
        clear hc
        generalize hz : zs.getD j false = z at *
        go_wp2
        go_roundw
        case rel => exact ⟨j + 1, by omega, by congr 1, Lib.hid (by rw [← HP.out j, hz]; exact HS.out.1), Lib.hid (HW.out.grown HS.out.2 HW.out.size (fun k hk => by injection hk with hk; omega))⟩
        case measure => simp [intOf]; omega
    · obtain rfl : j = zs.length := by omega
      go_wp2
      go_ret
      refine ⟨rfl, ?_, HW.out⟩
      unfold OwnB
      rw [← HF.out, List.length_replicate]
      exact HO.out
/-- What marking a row of the call's own says: the marks are there, nothing else has changed. -/
def Marked (B : Nat) (v : Value) (n : Nat) (k : Int) (w : World) (e : Ending) (w' : World) : Prop :=
  e = .returned (.int .i64 (k + n)) ∧ OwnB w' B v (marks k n) ∧ w.grownBy w' v.ownBlock ∧ w'.heap.size = w.heap.size
set_option maxHeartbeats 400000 in
theorem markBoolS (a : Option Addr) (len cap B : Nat) (zs : List Bool) (k : Int) (w : World) (h : OwnB w B (.slice a len cap) zs) (hk0 : 0 ≤ k) (hk1 : k ≤ 1099511627776) (hl : len ≤ 1073741824) :
    Calls Try.prog 81 #[.slice a len cap, .int .i64 k] w (Marked B (.slice a len cap) len k w) := by
  rcases h.2 with ⟨hv, hn⟩ | ⟨g, c, cur, hv, hb, hg, hnc, hcm, hcs, htake⟩
  · simp only [Value.slice.injEq] at hv
    obtain ⟨rfl, rfl, rfl⟩ := hv
    clear h
    go_enter Try.func81, Try.ntmps81
    go_wp2
    go_loop [1, 5] (fun kk i => kk = .int .i64 k ∧ i = .int .i64 0) (fun _ _ => 0)
    case atStart => exact ⟨rfl, rfl⟩
    case round =>
      obtain ⟨rfl, rfl⟩ := hrel
      go_wp2
      go_ret
      exact ⟨ret_int (by omega), World.ownsRow_nil _ _ _ _, World.grownBy.refl _ _, rfl⟩
  · simp only [Value.slice.injEq] at hv
    obtain ⟨rfl, rfl, rfl⟩ := hv
    have H0 : w.ownsRow B 4 1 (.slice (some ⟨g, 0, none⟩) zs.length cap) zs.length (part (fun i => ((k + (i : Int)) % 3 == 0)) zs 0) := by rw [part_zero]; exact h
    have HF := Lib.hid (part_all (fun i => ((k + (i : Int)) % 3 == 0)) zs (marks k zs.length) (by rw [marks_len]) (fun i hi => (marks_at k _ i hi).symm))
    have HP := Lib.hid (fun j => part_set (fun i => ((k + (i : Int)) % 3 == 0)) zs j)
    clear hb hg hnc hcm hcs htake h
    go_enter Try.func81, Try.ntmps81
    go_wp2
    go_loopw [1, 5] (fun kk i wr => ∃ j : Nat, j ≤ zs.length ∧ kk = .int .i64 (k + (j : Int)) ∧ i = .int .i64 (j : Int) ∧ Hid (wr.ownsRow B 4 1 (.slice (some ⟨g, 0, none⟩) zs.length cap) zs.length (part (fun i => ((k + (i : Int)) % 3 == 0)) zs j)) ∧ Hid (w.grownBy wr (some g)) ∧ Hid (wr.heap.size = w.heap.size)) (fun _ i _ => zs.length - (intOf i).toNat)
    case atStart => exact ⟨0, Nat.zero_le _, by simp, rfl, Lib.hid H0, Lib.hid (World.grownBy.refl _ _), Lib.hid rfl⟩
    case round =>
      obtain ⟨j, hj, rfl, rfl, HO, HW, HS⟩ := hrel
      clear H0
      by_cases hlt : j < zs.length
      · have d2 := HO.out.cellAt j (by omega)
        have d3 := HO.out.frozenAt j
        have HT := Lib.hid (HO.out.stored j (.bool (((k + (j : Int)) % 3 == 0))))
        rw [List.getElem?_eq_getElem (by rw [part_len]; exact hlt)] at d2
        go_wp2
        go_roundw
        case rel => exact ⟨j + 1, by omega, by congr 1; omega, by congr 1, Lib.hid (by rw [← HP.out j]; exact HT.out.1), Lib.hid (HW.out.trans HT.out.2), Lib.hid (by simpa [World.setCell] using HS.out)⟩
        case measure => simp [intOf]; omega
      · obtain rfl : j = zs.length := by omega
        go_wp2
        go_ret
        refine ⟨rfl, ?_, HW.out, HS.out⟩
        unfold OwnB
        rw [marks_len, ← HF.out]
        exact HO.out
theorem bools_of {H : Type} {enc : TypeId × Value → H} {W : World} {v : Value} {n : Nat} {y : DataW H × List MemPlace} (hf : DataW.trod enc Try.prog W 0 (fun _ => true) true n 46 [v] = some y) :
    ∃ (s : Sl) (zs : List Bool), v = .slice s.a s.len s.cap ∧ BoolsAt W s.a s.len zs ∧ s.len ≤ 9223372036854775807 := by
  rcases Go.Deep.open_slice1 Try.underlying46 (by kernel_rfl) hf with ⟨hcs, _⟩ | ⟨x, l, c, m, n', V, D, Pl, hcs, _, hl, hm, hmm, _, hx⟩
  · simp at hcs
    subst hcs
    exact ⟨⟨none, 0, 0⟩, [], rfl, ⟨rfl, .inl rfl⟩, Nat.zero_le _⟩
  · simp at hcs
    subst hcs
    unfold maxLen at hm
    simp only [if_true] at hmm
    obtain ⟨B, hB⟩ := Go.Deep.choose_lt (α := Bool) (n := l) (p := fun i b => V i = .bool b) (fun i hi => by
      obtain ⟨b, h1, h2⟩ := DataW.trod_bool Try.underlying4 (hx i (by omega)).2
      exact ⟨b, by simpa using h1⟩)
    refine ⟨⟨some x, l, c⟩, (List.range l).map B, rfl, ⟨by simp, ?_⟩, by simp only; omega⟩
    by_cases h0 : l = 0
    · left; subst h0; simp
    · right
      obtain ⟨b, off, spot⟩ := x
      have hc := (hx 0 (by omega)).1
      have hspot : spot = none := by simpa [Addr.add] using World.cell?_spot hc
      subst hspot
      refine ⟨b, off, rfl, World.block_lt_of_cell? W ⟨b, off + 0, none⟩ (by simpa [Addr.add] using hc), fun i hi => ?_⟩
      simp at hi
      have k0 := (hx i (by omega)).1
      rw [hB i hi] at k0
      have e : ((List.range l).map B).getD i false = B i := by rw [List.getD_eq_getElem?_getD, List.getElem?_map, List.getElem?_range hi]; rfl
      rw [e]
      by_cases h1 : i = 0
      · subst h1; simpa [Addr.add] using k0
      · simpa [Addr.add, h1] using k0
theorem OwnB.downI {w : World} {B B' : Nat} {v : Value} {zs : List Bool} (h : OwnB w B v zs) (hB : B' ≤ B) : OwnB w B' v zs := World.ownsRow_down h hB
theorem OwnB.sl10 {w : World} {B : Nat} {v : Value} {zs : List Bool} (h : OwnB w B v zs) : ∃ s : Sl, v = .slice s.a s.len s.cap ∧ s.len = zs.length := by
  rcases h.2 with ⟨hv, hn⟩ | ⟨g, c, cur, hv, _⟩
  · exact ⟨⟨none, 0, 0⟩, hv, hn.symm⟩
  · exact ⟨⟨some ⟨g, 0, none⟩, zs.length, c⟩, hv, rfl⟩
theorem OwnB.ints10 {w : World} {B : Nat} {s : Sl} {zs : List Bool} (h : OwnB w B (slQ s) zs) : BoolsAt w s.a s.len zs := OwnB.ints h
/-- A law's slice of slices reads as pss. -/
def RowIn10 (w : World) (a : Option Addr) (len : Nat) (pss : List (List Bool)) : Prop :=
  len = pss.length ∧ (pss = [] ∨ ∃ b off, a = some ⟨b, off, none⟩ ∧ b < w.heap.size ∧ ∀ i, i < pss.length → ∃ s : Sl, w.cell? ⟨b, off + i, none⟩ = some (slQ s) ∧ BoolsAt w s.a s.len (pss.getD i []) ∧ s.len ≤ 9223372036854775807)
theorem RowIn10.next {w w' : World} {a : Option Addr} {len : Nat} {pss : List (List Bool)} (h : RowIn10 w a len pss) (hb : Below w.heap.size w w') : RowIn10 w' a len pss :=
  ⟨h.1, h.2.imp id fun ⟨b, off, h1, h2, h3⟩ => ⟨b, off, h1, Nat.lt_of_lt_of_le h2 hb.size, fun i hi => by
    obtain ⟨s, h4, h5, h6⟩ := h3 i hi
    exact ⟨s, (hb.cell (p := ⟨b, off + i, none⟩) h2).trans h4, h5.next hb, h6⟩⟩⟩
theorem RowIn10.some {w : World} {a : Option Addr} {len : Nat} {pss : List (List Bool)} (h : RowIn10 w a len pss) (hl : 1 ≤ len) : ∃ b off, a = Option.some ⟨b, off, none⟩ ∧ b < w.heap.size ∧ ∀ i, i < len → ∃ s : Sl, w.cell? ⟨b, off + i, none⟩ = Option.some (slQ s) ∧ BoolsAt w s.a s.len (pss.getD i []) ∧ s.len ≤ 9223372036854775807 := by
  rcases h.2 with h2 | ⟨b, off, h1, h2, h3⟩
  · have := h.1; rw [h2] at this; simp at this; omega
  · exact ⟨b, off, h1, h2, fun i hi => h3 i (by rw [← h.1]; exact hi)⟩
/-- A slice of slices that reads as pss, from its block's begin. -/
def RSA (w : World) (a : Option Addr) (len : Nat) (pss : List (List Bool)) : Prop :=
  len = pss.length ∧ (pss = [] ∨ ∃ b, a = some ⟨b, 0, none⟩ ∧ b < w.heap.size ∧ ∀ i, i < pss.length → ∃ s : Sl, w.cell? ⟨b, i, none⟩ = some (slQ s) ∧ BoolsAt w s.a s.len (pss.getD i []) ∧ s.len ≤ 9223372036854775807)
theorem RSA.next {w w' : World} {a : Option Addr} {len : Nat} {pss : List (List Bool)} (h : RSA w a len pss) (hb : Below w.heap.size w w') : RSA w' a len pss :=
  ⟨h.1, h.2.imp id fun ⟨b, h1, h2, h3⟩ => ⟨b, h1, Nat.lt_of_lt_of_le h2 hb.size, fun i hi => by
    obtain ⟨s, h4, h5, h6⟩ := h3 i hi
    exact ⟨s, (hb.cell (p := ⟨b, i, none⟩) h2).trans h4, h5.next hb, h6⟩⟩⟩
theorem RSA.some {w : World} {a : Option Addr} {len : Nat} {pss : List (List Bool)} (h : RSA w a len pss) (hl : 1 ≤ len) : ∃ b, a = Option.some ⟨b, 0, none⟩ ∧ b < w.heap.size ∧ ∀ i, i < len → ∃ s : Sl, w.cell? ⟨b, i, none⟩ = Option.some (slQ s) ∧ BoolsAt w s.a s.len (pss.getD i []) ∧ s.len ≤ 9223372036854775807 := by
  rcases h.2 with h2 | ⟨b, h1, h2, h3⟩
  · have := h.1; rw [h2] at this; simp at this; omega
  · exact ⟨b, h1, h2, fun i hi => h3 i (by rw [← h.1]; exact hi)⟩
/-- A row of the call's own stays where another block is written. -/
theorem OwnB.off9 {u u' : World} {B : Nat} {v : Value} {ps : List Bool} {ob : Option Nat} (h : OwnB u B v ps) (hg : u.grownBy u' ob) (hb : ∀ k, ob = some k → k < B) : OwnB u' B v ps :=
  World.ownsRow.kept h hg (by
    rcases h.2 with ⟨rfl, _⟩ | ⟨g, c, cur, rfl, hB, _⟩
    · exact .inl rfl
    · refine .inr fun e => ?_
      have := hb g e.symm
      omega)
/-- The first k rows of a copy. -/
def RowsI9 (w0 wr : World) (len k : Nat) (pss : List (List Bool)) : Prop :=
  ∃ vs : List Value, wr.ownsRow w0.heap.size 46 1 (.slice (some ⟨w0.heap.size, 0, none⟩) len len) len vs ∧ ∀ i, i < k → ∃ v, vs[i]? = some v ∧ OwnB wr (w0.heap.size + 1) v (pss.getD i [])
theorem RowsI9.pss {w0 wr : World} {len : Nat} {pss : List (List Bool)} (h : RowsI9 w0 wr len len pss) (hl : len = pss.length) (hr : ∀ i, i < len → (pss.getD i []).length ≤ 1048576) : RSA wr (some ⟨w0.heap.size, 0, none⟩) len pss := by
  obtain ⟨vs, h1, h2⟩ := h
  by_cases h0 : len = 0
  · subst h0; exact ⟨hl, .inl (List.eq_nil_of_length_eq_zero hl.symm)⟩
  · refine ⟨hl, .inr ⟨w0.heap.size, rfl, (World.ownsRow.lt h1 _ rfl).2, fun i hi => ?_⟩⟩
    obtain ⟨v, e, o⟩ := h2 i (by omega)
    obtain ⟨s, rfl, hs⟩ := o.sl10
    exact ⟨s, (World.ownsRow.cellAt h1 i (by omega)).trans e, o.ints10, by have := hr i (by omega); omega⟩
theorem cellsSlB : Try.prog.cellsOf 46 = 1 := by kernel_rfl
theorem open_rowsArg {H : Type} {enc : TypeId × Value → H} {W : World} {base : Nat} {v : Value} {d : DataW H} {p : List MemPlace} (hv : Value.okWide Try.prog W .any base 39 v) (h : DataW.Trod enc Try.prog W 0 (fun _ => true) true 39 v d p) :
    ∃ (s : Sl) (pss : List (List Bool)), v = .slice s.a s.len s.cap ∧ RowIn10 W s.a s.len pss ∧ s.len ≤ 9223372036854775807 := by
  obtain ⟨a, len, cap, rfl⟩ := okWide_slice Try.underlying39 hv
  obtain ⟨fuel, hf⟩ := h
  have hf' : DataW.trod enc Try.prog W 0 (fun _ => true) true fuel 39 [.slice a len cap] = some (d, p) := by simpa [Value.cells] using hf
  rcases Go.Deep.open_slice1 Try.underlying39 cellsSlB hf' with ⟨hcs, _⟩ | ⟨x, l, c, m, n', V, D, Pl, hcs, _, hl, hm, hmm, _, hx⟩
  · simp at hcs
    obtain ⟨rfl, rfl, rfl⟩ := hcs
    exact ⟨⟨none, 0, 0⟩, [], rfl, ⟨rfl, .inl rfl⟩, Nat.zero_le _⟩
  · simp at hcs
    obtain ⟨rfl, rfl, rfl⟩ := hcs
    unfold maxLen at hm
    simp only [if_true] at hmm
    have each : ∀ i, i < len → ∃ q : Sl × List Bool, V i = slQ q.1 ∧ BoolsAt W q.1.a q.1.len q.2 ∧ q.1.len ≤ 9223372036854775807 := fun i hi => by
      obtain ⟨s, ps, e, h1, h2⟩ := bools_of (hx i (by omega)).2
      exact ⟨(s, ps), e, h1, h2⟩
    haveI : Inhabited (Sl × List Bool) := ⟨(⟨none, 0, 0⟩, [])⟩
    obtain ⟨f, hfx⟩ := Go.Deep.choose_lt each
    refine ⟨⟨some x, len, cap⟩, (List.range len).map fun (k : Nat) => (f k).2, rfl, ⟨by simp, ?_⟩, by simp only; omega⟩
    by_cases h0 : len = 0
    · left; subst h0; simp
    · right
      obtain ⟨b, off, spot⟩ := x
      have hc := (hx 0 (by omega)).1
      have hspot : spot = none := by simpa [Addr.add] using World.cell?_spot hc
      subst hspot
      refine ⟨b, off, rfl, World.block_lt_of_cell? W ⟨b, off + 0, none⟩ (by simpa [Addr.add] using hc), fun i hi => ?_⟩
      simp at hi
      obtain ⟨e1, e2, e3⟩ := hfx i hi
      have k0 := (hx i (by omega)).1
      rw [e1] at k0
      refine ⟨(f i).1, ?_, ?_, e3⟩
      · by_cases h1 : i = 0
        · subst h1; simpa [Addr.add] using k0
        · simpa [Addr.add, h1] using k0
      · rw [List.getD_eq_getElem?_getD, List.getElem?_map, List.getElem?_range hi]
        exact e2
/-- What is left behind the rows. -/
def szLi : List (List Bool) → Int → Int
  | [], l => l
  | ps :: r, l => if l < (ps.length : Int) then -1 else szLi r (l - ps.length)
theorem szLi_neg : ∀ (pss : List (List Bool)) (l : Int), 0 ≤ l → szLi pss l = -1 ∨ (0 ≤ szLi pss l ∧ szLi pss l ≤ l ∧ ∀ i, i < pss.length → ((pss.getD i []).length : Int) ≤ l)
  | [], l, h => .inr ⟨h, Int.le_refl _, fun i hi => by simp at hi⟩
  | ps :: r, l, h => by
    unfold szLi
    split
    · exact .inl rfl
    · rename_i hk
      rcases szLi_neg r (l - ps.length) (by omega) with e | ⟨e1, e2, e3⟩
      · exact .inl e
      · refine .inr ⟨e1, by omega, fun i hi => ?_⟩
        cases i with
        | zero => simp; omega
        | succ i =>
          have := e3 i (by simpa using hi)
          simp only [List.getD_cons_succ]
          omega
/-- What the measuring of a slice of slices answers. -/
def szXi (left : Int) (pss : List (List Bool)) : Int := if left < (pss.length : Int) then -1 else szLi pss (left - pss.length)
/-- -1, or all fit in. -/
def Szi9 (left : Int) (len : Nat) (pss : List (List Bool)) (x : Int) : Prop := x = -1 ∨ (0 ≤ x ∧ x ≤ left ∧ (len : Int) ≤ left ∧ ∀ i, i < len → ((pss.getD i []).length : Int) ≤ left)
theorem szXi_is (left : Int) (len : Nat) (pss : List (List Bool)) (hl : len = pss.length) (h : 0 ≤ left) : Szi9 left len pss (szXi left pss) := by
  subst hl
  unfold szXi
  split
  · exact .inl rfl
  · rename_i hk
    rcases szLi_neg pss (left - pss.length) (by omega) with e | ⟨e1, e2, e3⟩
    · exact .inl e
    · exact .inr ⟨e1, by omega, by omega, fun i hi => by have := e3 i hi; omega⟩
theorem szLi_drop {pss : List (List Bool)} {j : Nat} (h : j < pss.length) (l : Int) : szLi (pss.drop j) l = if l < ((pss.getD j []).length : Int) then -1 else szLi (pss.drop (j + 1)) (l - (pss.getD j []).length) := by
  rw [List.drop_eq_getElem_cons h, List.getD_eq_getElem?_getD, List.getElem?_eq_getElem h]
  rfl
set_option maxHeartbeats 1000000 in
theorem szBoolSS (a : Option Addr) (len cap : Nat) (left : Int) (pss : List (List Bool)) {w : World} (h : RowIn10 w a len pss) (h0 : 0 ≤ left) (h1 : left ≤ 1048576) (hl : len ≤ 9223372036854775807) :
    ∃ x, Szi9 left len pss x ∧ ∀ u, Below w.heap.size w u → Calls Try.prog 41 #[.slice a len cap, .int .i64 left] u fun e w' => e = .returned (.int .i64 x) ∧ u = w' := by
  refine ⟨szXi left pss, szXi_is left len pss h.1 h0, fun u hu => ?_⟩
  have hn := h.1
  have hx : szXi left pss = if left < (len : Int) then -1 else szLi pss (left - len) := by unfold szXi; rw [hn]
  have hk := h.next hu
  by_cases hneg : left < (len : Int)
  · rw [if_pos hneg] at hx
    rw [hx]
    clear h hk hx hn
    go_enter Try.func41, Try.ntmps41
    go_wp2
    go_ret
    exact ⟨rfl, rfl⟩
  · rw [if_neg hneg] at hx
    generalize szXi left pss = x at *
    have HX : Hid (szLi (pss.drop 0) (left - len) = x) := Lib.hid hx.symm
    have HS := Lib.hid (fun j (hj : j < len) l => szLi_drop (pss := pss) (j := j) (by omega) l)
    have HE : Hid (∀ l, szLi (pss.drop len) l = l) := Lib.hid fun l => by rw [hn, List.drop_length]; rfl
    have HK := Lib.hid hk
    clear h hk hx hn
    go_enter Try.func41, Try.ntmps41
    go_wp2
    go_loopw [1, 5] (fun lv iv wr => ∃ (j : Nat) (l : Int), j ≤ len ∧ lv = .int .i64 l ∧ iv = .int .i64 (j : Int) ∧ 0 ≤ l ∧ l ≤ 1048576 ∧ Hid (szLi (pss.drop j) l = x) ∧ Hid (u = wr)) (fun _ iv _ => len - (intOf iv).toNat)
    case atStart => exact ⟨0, _, Nat.zero_le _, rfl, rfl, by omega, by omega, HX, Lib.hid rfl⟩
    case round =>
      obtain ⟨j, l, hj, rfl, rfl, l0, l1, HL, HU⟩ := hrel
      obtain rfl := HU.out
      by_cases hlt : j < len
      · obtain ⟨b, off, rfl, lt, hc⟩ := HK.out.some (by omega)
        obtain ⟨s, d1, I1, I2⟩ := hc j hlt
        have e := HS.out j hlt l
        rw [HL.out, ← I1.1] at e
        have j1 : (0 : Int) ≤ (j : Int) := by omega
        have j2 : (j : Int) < (len : Int) := by omega
        unfold slQ at d1
        replace e := Lib.hid e
        clear hc I1 HX
        by_cases hb : l < (s.len : Int)
        · have HZ := Lib.hid (szBoolS s.a s.len s.cap l u l0 l1 I2)
          rw [if_pos hb] at HZ e
          replace hb := Lib.hid hb
          clear HL
          go_wp2_with fail
          refine HZ.out.mono ?_
          rintro e w' ⟨rfl, rfl⟩
          go_wp2
          go_ret
          exact ⟨ret_int e.out.symm, rfl⟩
        · have HZ := Lib.hid (szBoolS s.a s.len s.cap l u l0 l1 I2)
          rw [if_neg hb] at HZ e
          have HL2 : Hid (szLi (pss.drop (j + 1)) (l - (s.len : Int)) = x) := Lib.hid e.out.symm
          have hg : ¬ (l - (s.len : Int) < 0) := by omega
          have hw : IntKind.i64.wrap (l - (s.len : Int)) = l - (s.len : Int) := wrap_in (by omega) (by omega)
          clear HL e
          go_wp2_with fail
          refine HZ.out.mono ?_
          rintro e w' ⟨rfl, rfl⟩
          go_wp2
          go_roundw
          case rel => exact ⟨j + 1, _, by omega, rfl, by congr 1, by omega, by omega, HL2, Lib.hid (by trivial)⟩
          case measure => simp [intOf]; omega
      · obtain rfl : j = len := by omega
        have e := HL.out
        rw [HE.out] at e
        subst e
        have j2 : ¬ ((j : Int) < (j : Int)) := by omega
        go_wp2
        go_ret
        exact ⟨rfl, rfl⟩
theorem infoSlB : (Try.prog.info? 46).map (fun i => (i.zero, i.size, i.bytes)) = some (some (.slice none 0 0), 1, 24) := by kernel_rfl
set_option maxHeartbeats 2000000 in
theorem toBoolSS (a : Option Addr) (len cap : Nat) (pss : List (List Bool)) (w : World) (h : RowIn10 w a len pss) (hl : len ≤ 1048576) (hr : ∀ i, i < len → (pss.getD i []).length ≤ 1048576) :
    Calls Try.prog 42 #[.slice a len cap] w fun e w' => e = .returned (.slice (some ⟨w.heap.size, 0, none⟩) len len) ∧ RSA w' (some ⟨w.heap.size, 0, none⟩) len pss ∧ Below w.heap.size w w' := by
  obtain ⟨i0, hi0, hz0, hz1, hz2⟩ := info_parts infoSlB
  have HK := Lib.hid h
  have HR := Lib.hid hr
  clear h hr
  go_enter Try.func42, Try.ntmps42
  go_wp2_with (first
    | (at_make; refine wpList_make_full _ rfl _ _ 39 rfl w.heap.size 46 i0 (.slice none 0 0) 1 Try.underlying39 hi0 hz0 hz1 .i64 .i64 _ _ len rfl rfl (by omega) (by omega) (by rw [hz2]; omega) (by unfold maxLen; omega) (Nat.le_refl _) ?_; intro w1 own1 grow1))
  have HG : Below w.heap.size w w1 := (Below.refl _ _).grown grow1 (Nat.le_refl _) (fun k hk => by cases hk)
  have HO1 : Hid (RowsI9 w w1 len 0 pss) := Lib.hid ⟨_, own1, fun i hi => by omega⟩
  clear own1 grow1
  go_loopw [4] (fun i wr => ∃ k : Nat, k ≤ len ∧ i = .int .i64 (k : Int) ∧ Hid (RowsI9 w wr len k pss) ∧ Hid (Below w.heap.size w wr)) (fun i _ => len - (intOf i).toNat)
  case atStart => exact ⟨0, Nat.zero_le _, rfl, HO1, Lib.hid HG⟩
  case round =>
    obtain ⟨k, hk, rfl, HO, HW⟩ := hrel
    clear HO1 HG
    by_cases hlt : k < len
    · obtain ⟨b, off, rfl, lt, hc⟩ := HK.out.some (by omega)
      obtain ⟨s, d1, I1, I2⟩ := hc k hlt
      have d2 : wr.cell? ⟨b, off + k, none⟩ = _ := (HW.out.cell (p := ⟨b, off + k, none⟩) lt).trans d1
      have J1 := I1.next HW.out
      have hrk := HR.out k hlt
      have hsl : s.len ≤ 1048576 := by rw [J1.1]; exact hrk
      have j1 : (0 : Int) ≤ (k : Int) := by omega
      have j2 : (k : Int) < (len : Int) := by omega
      obtain ⟨vs, ho, hv⟩ := HO.out
      have HHO := Lib.hid ho
      have HHV := Lib.hid hv
      have hsz := (World.ownsRow.lt ho w.heap.size rfl).2
      unfold slQ at d2
      clear hc d1 I1 HO ho hv lt
      go_wp2_with fail
      refine (toBoolS s.a s.len s.cap (pss.getD k []) _ J1 hsl).mono ?_
      rintro e w2 ⟨rfl, O2, B2⟩
      have HO2 := Lib.hid (World.ownsRow.kept (row := none) HHO.out ⟨B2.os, B2.tape, B2.output, B2.size, fun k hk _ => B2.block k hk⟩ (.inr (by simp [Value.ownBlock])))
      have hvl : vs.length = len := by have := HHO.out.1; simpa using this
      have r1 := HO2.out.cellAt k (by omega)
      rw [List.getElem?_eq_getElem (by omega)] at r1
      have r2 := HO2.out.frozenAt k
      have s1 := HO2.out.stored k (.slice (some ⟨wr.heap.size, 0, none⟩) s.len s.len)
      have HN : Hid (RowsI9 w (w2.setCell ⟨w.heap.size, k, none⟩ (.slice (some ⟨wr.heap.size, 0, none⟩) s.len s.len)) len (k + 1) pss) := Lib.hid ⟨_, s1.1, fun i hi => by
        by_cases hik : i = k
        · subst hik
          exact ⟨_, by rw [List.getElem?_set_self (by omega)], (OwnB.downI (B' := w.heap.size + 1) O2 (by omega)).off9 s1.2 (fun q hq => by injection hq with hq; omega)⟩
        · obtain ⟨v, e1, e2⟩ := HHV.out i (by omega)
          exact ⟨v, by rw [List.getElem?_set_ne (by omega)]; exact e1, (e2.next B2).off9 s1.2 (fun q hq => by injection hq with hq; omega)⟩⟩
      have HW2 := Lib.hid ((below_call HW.out B2).grown s1.2 (below_call HW.out B2).size (fun q hq => by injection hq with hq; omega))
      clear s1 O2 B2 d2 J1 HHO HHV
      go_wp2
      go_roundw
      case rel => exact ⟨k + 1, by omega, by congr 1, HN, HW2⟩
      case measure => simp [intOf]; omega
    · obtain rfl : k = len := by omega
      go_wp2
      go_ret
      exact ⟨rfl, HO.out.pss HK.out.1 HR.out, HW.out⟩
set_option maxHeartbeats 1000000 in
theorem eqBoolSSW (a b : Option Addr) (len len2 cap cap2 : Nat) (pss : List (List Bool)) (w : World) (h : RSA w a len pss) (h2 : RSA w b len2 pss) (hl : len ≤ 1048576) (hr : ∀ i, i < len → (pss.getD i []).length ≤ 1048576) :
    Calls Try.prog 44 #[.slice a len cap, .slice b len2 cap2] w fun e w' => e = .returned (.bool true) ∧ Below w.heap.size w w' := by
  obtain rfl : len2 = len := by rw [h.1, h2.1]
  have e0 : ((len2 : Int) != (len2 : Int)) = false := by simp
  by_cases hn : 1 ≤ len2
  · obtain ⟨b1, rfl, lt1, c1⟩ := h.some hn
    obtain ⟨b2, rfl, lt2, c2⟩ := h2.some hn
    have HC1 := Lib.hid c1
    have HC2 := Lib.hid c2
    have HR := Lib.hid hr
    clear h h2 c1 c2 hn hr
    go_enter Try.func44, Try.ntmps44
    go_wp2
    go_loopw [5] (fun i wr => ∃ j : Nat, j ≤ len2 ∧ i = .int .i64 (j : Int) ∧ Hid (Below w.heap.size w wr)) (fun i _ => len2 - (intOf i).toNat)
    case atStart => exact ⟨0, Nat.zero_le _, rfl, Lib.hid (Below.refl _ _)⟩
    case round =>
      obtain ⟨j, hj, rfl, HW⟩ := hrel
      by_cases hlt : j < len2
      · obtain ⟨⟨sa, sl, sc⟩, d1, I1, _⟩ := HC1.out j hlt
        obtain ⟨⟨ta, tl, tc⟩, d2, I2, _⟩ := HC2.out j hlt
        unfold slQ at d1 d2
        simp only at d1 d2 I1 I2
        have k1 := keptCell (Nat.lt_of_lt_of_le lt1 HW.out.size) ((HW.out.cell (p := ⟨b1, j, none⟩) lt1).trans d1)
        have k2 := keptCell (Nat.lt_of_lt_of_le lt2 HW.out.size) ((HW.out.cell (p := ⟨b2, j, none⟩) lt2).trans d2)
        have hls : sl ≤ 9223372036854775807 := by rw [I1.1]; have := HR.out j hlt; omega
        have HQ := Lib.hid (fun (q : Kept wr) => keptCall (eqBoolS sa ta sl tl sc tc (pss.getD j []) q.u ((I1.next HW.out).next q.b) ((I2.next HW.out).next q.b) hls))
        have j1 : (0 : Int) ≤ (j : Int) := by omega
        have j2 : (j : Int) < (len2 : Int) := by omega
        clear I1 I2 d1 d2
        go_upto_region 6 with fail
        refine wp_region_kept (by kernel_rfl) (by kernel_rfl) ?_
        repeat (go_big_quiet_step ((go_at_call 80; with_reducible exact HQ.out _)))
        refine wpQuiet_nil ?_
        rintro w2 ⟨⟨_, B2⟩, rfl⟩
        have HW2 := Lib.hid (below_call HW.out B2)
        clear k1 k2 B2 HQ
        go_wp2
        go_roundw
        case rel => exact ⟨j + 1, by omega, by congr 1, HW2⟩
        case measure => simp [intOf]; omega
      · obtain rfl : j = len2 := by omega
        have j2 : ¬ ((j : Int) < (j : Int)) := by omega
        go_wp2
        go_ret
        exact ⟨rfl, HW.out⟩
  · obtain rfl : len2 = 0 := by omega
    clear h h2 hn hr
    go_enter Try.func44, Try.ntmps44
    go_wp2
    go_loopw [5] (fun i wr => i = .int .i64 0 ∧ Hid (Below w.heap.size w wr)) (fun _ _ => 0)
    case atStart => exact ⟨rfl, Lib.hid (Below.refl _ _)⟩
    case round =>
      obtain ⟨rfl, HW⟩ := hrel
      go_wp2
      go_ret
      exact ⟨rfl, HW.out⟩
end Go.Proofs.Ytmdkihaiognpgaa.Bol
