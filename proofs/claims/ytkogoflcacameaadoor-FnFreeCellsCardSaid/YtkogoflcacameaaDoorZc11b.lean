/- Several of my texts in one: Bo11, Ce11, Bd11. -/
import Derived.Test.YtkogoflcacameaaDoorZbArm
import Derived.Test.YtkogoflcacameaaDoorZcPts
import Derived.Test.YtkogoflcacameaaDoorZbChn
import Derived.Test.YtkogoflcacameaaDoorZbKt
import Derived.Laws.MakeOwn
import Derived.Deep.Slices
import Derived.OpenShut
import Derived.Lib.SmallJoins
import Derived.ChangeArms
import Derived.Outline
import Derived.Deep.DeepCutAuto
import Derived.Deep.RegionHeld3
import Derived.Test.YtkogoflcacameaaDoorZbNum
import Derived.Deep.AppendLies
import Derived.Deep.SlicePairs
namespace Go.Proofs.YtkogoflcacameaaDoor.Bol
set_option maxRecDepth 100000
open Go.ChangeShapes Go.WideShapes Go.ChangeAt Go.RowKit Go.Joins
attribute [local go_sem ↓] Go.wp_at_zero Go.wp_at_succ
/-- A slice as a value. -/
def slQ (s : Sl) : Value := .slice s.a s.len s.cap

/-- A slice reads as the numbers zs. -/
def BoolsAt (w : World) (a : Option Addr) (len : Nat) (zs : List Bool) : Prop :=
  len = zs.length ∧ (zs = [] ∨ ∃ b off, a = some ⟨b, off, none⟩ ∧ b < w.heap.size ∧ ∀ i, i < zs.length → w.cell? ⟨b, off + i, none⟩ = some (.bool (zs.getD i false)))
theorem BoolsAt.next {w w' : World} {a : Option Addr} {len : Nat} {zs : List Bool} (h : BoolsAt w a len zs) (hb : Below w.heap.size w w') : BoolsAt w' a len zs := by
  refine ⟨h.1, ?_⟩
  rcases h.2 with h2 | ⟨b, off, rfl, hlt, hc⟩
  · exact .inl h2
  · exact .inr ⟨b, off, rfl, Nat.lt_of_lt_of_le hlt hb.size, fun i hi => by rw [hb.cell (p := ⟨b, off + i, none⟩) hlt]; exact hc i hi⟩
theorem BoolsAt.some {w : World} {a : Option Addr} {len : Nat} {zs : List Bool} (h : BoolsAt w a len zs) (hl : 1 ≤ len) : ∃ b off, a = Option.some ⟨b, off, none⟩ ∧ b < w.heap.size ∧ ∀ i, i < len → w.cell? ⟨b, off + i, none⟩ = Option.some (.bool (zs.getD i false)) := by
  rcases h.2 with h2 | ⟨b, off, h3, h4, h5⟩
  · have := h.1; rw [h2] at this; simp at this; omega
  · exact ⟨b, off, h3, h4, fun i hi => h5 i (by rw [← h.1]; exact hi)⟩
/-- The numbers as values. -/
abbrev vals (zs : List Bool) : List Value := zs.map Value.bool
/-- The marks from k on: every third is true. -/
def marks (k : Int) (n : Nat) : List Bool := (List.range n).map fun (i : Nat) => ((k + (i : Int)) % 3 == 0)
theorem marks_len (k : Int) (n : Nat) : (marks k n).length = n := by simp [marks]
theorem marks_at (k : Int) (n i : Nat) (h : i < n) : (marks k n).getD i false = ((k + (i : Int)) % 3 == 0) := by
  unfold marks
  rw [List.getD_eq_getElem?_getD, List.getElem?_map, List.getElem?_range h]; rfl
/-- A row of the call's own that reads as zs. -/
def OwnB (w : World) (B : Nat) (v : Value) (zs : List Bool) : Prop := w.ownsRow B 4 1 v zs.length (vals zs)
theorem OwnB.ints {w : World} {B : Nat} {a : Option Addr} {len cap : Nat} {zs : List Bool} (h : OwnB w B (.slice a len cap) zs) : BoolsAt w a len zs := by
  rcases h.2 with ⟨hv, hn⟩ | ⟨g, c, cur, hv, hb, hg, hnc, hcm, hcs, htake⟩
  · simp only [Value.slice.injEq] at hv
    exact ⟨by omega, .inl (List.eq_nil_of_length_eq_zero hn)⟩
  · simp only [Value.slice.injEq] at hv
    obtain ⟨rfl, rfl, rfl⟩ := hv
    refine ⟨rfl, .inr ⟨g, 0, rfl, (Array.getElem?_eq_some_iff.1 hg).1, fun i hi => ?_⟩⟩
    rw [Nat.zero_add, World.ownsRow.cellAt h i (by omega), List.getElem?_map, List.getD_eq_getElem?_getD, List.getElem?_eq_getElem hi]
    rfl
theorem OwnB.next {w w' : World} {B : Nat} {v : Value} {zs : List Bool} (h : OwnB w B v zs) (hb : Below w.heap.size w w') : OwnB w' B v zs := by
  refine World.ownsRow.kept (row := none) h ⟨hb.os, hb.tape, hb.output, hb.size, fun k hk _ => hb.block k hk⟩ ?_
  cases v.ownBlock <;> simp
theorem heldBoolS (a : Option Addr) (len cap : Nat) (k : Int) (w : World) (h : BoolsAt w a len (marks k len)) (hk0 : 0 ≤ k) (hk1 : k ≤ 1099511627776) (hl : len ≤ 1073741824) :
    Calls Tryd.prog 47 #[.slice a len cap, .int .i64 k] w fun e w' => e = .returned (.int .i64 (k + len)) ∧ w = w' := by
  rcases h.2 with h2 | ⟨b, off, rfl, hlt, hc⟩
  · have h3 : len = 0 := by rw [← marks_len k len, h2]; rfl
    subst h3
    clear h h2
    go_enter Tryd.func47, Tryd.ntmps47
    go_wp2
    go_loop [1, 5] (fun kk i => kk = .int .i64 k ∧ i = .int .i64 0) (fun _ _ => 0)
    case atStart => exact ⟨rfl, rfl⟩
    case round =>
      obtain ⟨rfl, rfl⟩ := hrel
      go_wp2
      go_ret
      exact ⟨ret_int (by omega), rfl⟩
  · have HC := Lib.hid (fun i (hi : i < len) => (hc i (by rw [marks_len]; exact hi)).trans (by rw [marks_at k len i hi]))
    clear h hc
    go_enter Tryd.func47, Tryd.ntmps47
    go_wp2
    go_loop [1, 5] (fun kk i => ∃ j : Nat, j ≤ len ∧ kk = .int .i64 (k + (j : Int)) ∧ i = .int .i64 (j : Int)) (fun _ i => len - (intOf i).toNat)
    case atStart => exact ⟨0, Nat.zero_le _, by simp, rfl⟩
    case round =>
      obtain ⟨j, hj, rfl, rfl⟩ := hrel
      by_cases hlt2 : j < len
      · have hcj := HC.out j hlt2
        have e0 : (((k + (j : Int)) % 3 == 0) != ((k + (j : Int)) % 3 == 0)) = false := by simp
        go_wp2
        go_round
        case rel => exact ⟨j + 1, by omega, by congr 1; omega, by congr 1⟩
        case measure => simp [intOf]; omega
      · obtain rfl : j = len := by omega
        go_wp2
        go_ret
        exact ⟨rfl, rfl⟩
set_option maxHeartbeats 400000 in
theorem eqBoolS (a b : Option Addr) (len len2 cap cap2 : Nat) (zs : List Bool) (w : World) (h : BoolsAt w a len zs) (h2 : BoolsAt w b len2 zs) (hl : len ≤ 9223372036854775807) :
    Calls Tryd.prog 41 #[.slice a len cap, .slice b len2 cap2] w fun e w' => e = .returned (.bool true) ∧ Below w.heap.size w w' := by
  obtain rfl : len2 = len := by rw [h.1, h2.1]
  have e0 : ((len2 : Int) != (len2 : Int)) = false := by simp
  rcases h.2 with h3 | ⟨b1, o1, rfl, lt1, c1⟩
  · have h4 : len2 = 0 := by rw [h.1, h3]; rfl
    subst h4
    clear h h2 h3
    go_enter Tryd.func41, Tryd.ntmps41
    go_wp2
    go_loopw [5] (fun i wr => i = .int .i64 0 ∧ Hid (Below w.heap.size w wr)) (fun _ _ => 0)
    case atStart => exact ⟨rfl, Lib.hid (Below.refl _ _)⟩
    case round =>
      obtain ⟨rfl, HW⟩ := hrel
      go_wp2
      go_ret
      exact ⟨rfl, HW.out⟩
  · rcases h2.2 with h3 | ⟨b2, o2, rfl, lt2, c2⟩
    · have h4 : len2 = 0 := by rw [h.1, h3]; rfl
      subst h4
      clear h h2 h3 c1
      go_enter Tryd.func41, Tryd.ntmps41
      go_wp2
      go_loopw [5] (fun i wr => i = .int .i64 0 ∧ Hid (Below w.heap.size w wr)) (fun _ _ => 0)
      case atStart => exact ⟨rfl, Lib.hid (Below.refl _ _)⟩
      case round =>
        obtain ⟨rfl, HW⟩ := hrel
        go_wp2
        go_ret
        exact ⟨rfl, HW.out⟩
    · have hn := h.1
      have HC1 := Lib.hid (fun i (hi : i < len2) => c1 i (by rw [← hn]; exact hi))
      have HC2 := Lib.hid (fun i (hi : i < len2) => c2 i (by rw [← hn]; exact hi))
      clear h h2 c1 c2 hn
      go_enter Tryd.func41, Tryd.ntmps41
      go_wp2
      go_loopw [5] (fun i wr => ∃ j : Nat, j ≤ len2 ∧ i = .int .i64 (j : Int) ∧ Hid (Below w.heap.size w wr)) (fun i _ => len2 - (intOf i).toNat)
      case atStart => exact ⟨0, Nat.zero_le _, rfl, Lib.hid (Below.refl _ _)⟩
      case round =>
        obtain ⟨j, hj, rfl, HW⟩ := hrel
        by_cases hlt : j < len2
        · have d1 : wr.cell? ⟨b1, o1 + j, none⟩ = _ := (HW.out.cell (p := ⟨b1, o1 + j, none⟩) lt1).trans (HC1.out j hlt)
          have d2 : wr.cell? ⟨b2, o2 + j, none⟩ = _ := (HW.out.cell (p := ⟨b2, o2 + j, none⟩) lt2).trans (HC2.out j hlt)
          have e1 : (zs.getD j false != zs.getD j false) = false := by simp
          generalize zs.getD j false = z at *
          have i0 : (0 : Int) ≤ (j : Int) := by omega
          have i1 : (j : Int) < (len2 : Int) := by omega
          go_wp2
          go_region_held3 (fun u => u.cell? ⟨b1, o1 + j, none⟩ = some (.bool z) ∧ u.cell? ⟨b2, o2 + j, none⟩ = some (.bool z)) (exact ⟨d1, d2⟩) (fail)
          go_wp2
          go_roundw
          case rel => exact ⟨j + 1, by omega, by congr 1, Lib.hid HW.out.drew⟩
          case measure => simp [intOf]; omega
        · obtain rfl : j = len2 := by omega
          go_wp2
          go_ret
          exact ⟨rfl, HW.out⟩
/-- What a copy holds when j of its numbers are there. -/
def part (f : Nat → Bool) (zs : List Bool) (j : Nat) : List Value := (List.range zs.length).map fun (i : Nat) => Value.bool (if i < j then f i else zs.getD i false)
theorem part_set (f : Nat → Bool) (zs : List Bool) (j : Nat) : (part f zs j).set j (.bool (f j)) = part f zs (j + 1) := by
  unfold part
  apply List.ext_getElem?
  intro i
  rw [List.getElem?_set, List.getElem?_map, List.getElem?_map, List.length_map, List.length_range]
  by_cases hi : i < zs.length
  · rw [List.getElem?_range hi]
    by_cases hj : j = i
    · subst hj; simp [hi]
    · rw [if_neg hj]
      simp only [Option.map_some]
      by_cases h1 : i < j
      · rw [if_pos h1, if_pos (by omega)]
      · rw [if_neg h1, if_neg (by omega)]
  · rw [List.getElem?_eq_none (by simp; omega)]
    by_cases hj : j = i
    · subst hj; simp [hi]
    · rw [if_neg hj]; rfl
theorem part_zero (f : Nat → Bool) (zs : List Bool) : part f zs 0 = vals zs := by
  unfold part vals
  apply List.ext_getElem?
  intro i
  rw [List.getElem?_map, List.getElem?_map]
  by_cases hi : i < zs.length
  · rw [List.getElem?_range hi, List.getElem?_eq_getElem hi]
    simp [List.getD_eq_getElem?_getD, List.getElem?_eq_getElem hi]
  · rw [List.getElem?_eq_none (by simp; omega), List.getElem?_eq_none (by omega)]; rfl
theorem part_all (f : Nat → Bool) (zs ys : List Bool) (hl : ys.length = zs.length) (h : ∀ i, i < zs.length → f i = ys.getD i false) : part f zs zs.length = vals ys := by
  unfold part vals
  apply List.ext_getElem?
  intro i
  rw [List.getElem?_map, List.getElem?_map]
  by_cases hi : i < zs.length
  · rw [List.getElem?_range hi, List.getElem?_eq_getElem (by omega)]
    simp [hi, h i hi, List.getD_eq_getElem?_getD, List.getElem?_eq_getElem (show i < ys.length by omega)]
  · rw [List.getElem?_eq_none (by simp; omega), List.getElem?_eq_none (by omega)]; rfl
theorem part_len (f : Nat → Bool) (zs : List Bool) (j : Nat) : (part f zs j).length = zs.length := by simp [part]
theorem infoBool : (Tryd.prog.info? 4).map (fun i => (i.zero, i.size, i.bytes)) = some (some (.bool false), 1, 1) := by kernel_rfl
theorem made_zero (n : Nat) (f : Nat → Bool) : (madeCells (Value.bool false).cells (n * 1)).toList = part f (List.replicate n false) 0 := by
  rw [part_zero]
  show (madeCells #[Value.bool false] (n * 1)).toList = _
  rw [Nat.mul_one, toList_madeCells_one, vals, List.map_replicate]
/-- What marking a row of the call's own says: the marks are there, nothing else has changed. -/
def Marked (B : Nat) (v : Value) (n : Nat) (k : Int) (w : World) (e : Ending) (w' : World) : Prop :=
  e = .returned (.int .i64 (k + n)) ∧ OwnB w' B v (marks k n) ∧ w.grownBy w' v.ownBlock ∧ w'.heap.size = w.heap.size
set_option maxHeartbeats 400000 in
theorem markBoolS (a : Option Addr) (len cap B : Nat) (zs : List Bool) (k : Int) (w : World) (h : OwnB w B (.slice a len cap) zs) (hk0 : 0 ≤ k) (hk1 : k ≤ 1099511627776) (hl : len ≤ 1073741824) :
    Calls Tryd.prog 46 #[.slice a len cap, .int .i64 k] w (Marked B (.slice a len cap) len k w) := by
  rcases h.2 with ⟨hv, hn⟩ | ⟨g, c, cur, hv, hb, hg, hnc, hcm, hcs, htake⟩
  · simp only [Value.slice.injEq] at hv
    obtain ⟨rfl, rfl, rfl⟩ := hv
    clear h
    go_enter Tryd.func46, Tryd.ntmps46
    go_wp2
    go_loop [1, 5] (fun kk i => kk = .int .i64 k ∧ i = .int .i64 0) (fun _ _ => 0)
    case atStart => exact ⟨rfl, rfl⟩
    case round =>
      obtain ⟨rfl, rfl⟩ := hrel
      go_wp2
      go_ret
      exact ⟨ret_int (by omega), World.ownsRow_nil _ _ _ _, World.grownBy.refl _ _, rfl⟩
  · simp only [Value.slice.injEq] at hv
    obtain ⟨rfl, rfl, rfl⟩ := hv
    have H0 : w.ownsRow B 4 1 (.slice (some ⟨g, 0, none⟩) zs.length cap) zs.length (part (fun i => ((k + (i : Int)) % 3 == 0)) zs 0) := by rw [part_zero]; exact h
    have HF := Lib.hid (part_all (fun i => ((k + (i : Int)) % 3 == 0)) zs (marks k zs.length) (by rw [marks_len]) (fun i hi => (marks_at k _ i hi).symm))
    have HP := Lib.hid (fun j => part_set (fun i => ((k + (i : Int)) % 3 == 0)) zs j)
    clear hb hg hnc hcm hcs htake h
    go_enter Tryd.func46, Tryd.ntmps46
    go_wp2
    go_loopw [1, 5] (fun kk i wr => ∃ j : Nat, j ≤ zs.length ∧ kk = .int .i64 (k + (j : Int)) ∧ i = .int .i64 (j : Int) ∧ Hid (wr.ownsRow B 4 1 (.slice (some ⟨g, 0, none⟩) zs.length cap) zs.length (part (fun i => ((k + (i : Int)) % 3 == 0)) zs j)) ∧ Hid (w.grownBy wr (some g)) ∧ Hid (wr.heap.size = w.heap.size)) (fun _ i _ => zs.length - (intOf i).toNat)
    case atStart => exact ⟨0, Nat.zero_le _, by simp, rfl, Lib.hid H0, Lib.hid (World.grownBy.refl _ _), Lib.hid rfl⟩
    case round =>
      obtain ⟨j, hj, rfl, rfl, HO, HW, HS⟩ := hrel
      clear H0
      by_cases hlt : j < zs.length
      · have d2 := HO.out.cellAt j (by omega)
        have d3 := HO.out.frozenAt j
        have HT := Lib.hid (HO.out.stored j (.bool (((k + (j : Int)) % 3 == 0))))
        rw [List.getElem?_eq_getElem (by rw [part_len]; exact hlt)] at d2
        go_wp2
        go_roundw
        case rel => exact ⟨j + 1, by omega, by congr 1; omega, by congr 1, Lib.hid (by rw [← HP.out j]; exact HT.out.1), Lib.hid (HW.out.trans HT.out.2), Lib.hid (by simpa [World.setCell] using HS.out)⟩
        case measure => simp [intOf]; omega
      · obtain rfl : j = zs.length := by omega
        go_wp2
        go_ret
        refine ⟨rfl, ?_, HW.out, HS.out⟩
        unfold OwnB
        rw [marks_len, ← HF.out]
        exact HO.out
theorem bools_of {H : Type} {enc : TypeId × Value → H} {W : World} {v : Value} {n : Nat} {y : DataW H × List MemPlace} (hf : DataW.trod enc Tryd.prog W 0 (fun _ => true) true n 34 [v] = some y) :
    ∃ (s : Sl) (zs : List Bool), v = .slice s.a s.len s.cap ∧ BoolsAt W s.a s.len zs ∧ s.len ≤ 9223372036854775807 := by
  rcases Go.Deep.open_slice1 Tryd.underlying34 (by kernel_rfl) hf with ⟨hcs, _⟩ | ⟨x, l, c, m, n', V, D, Pl, hcs, _, hl, hm, hmm, _, hx⟩
  · simp at hcs
    subst hcs
    exact ⟨⟨none, 0, 0⟩, [], rfl, ⟨rfl, .inl rfl⟩, Nat.zero_le _⟩
  · simp at hcs
    subst hcs
    unfold maxLen at hm
    simp only [if_true] at hmm
    obtain ⟨B, hB⟩ := Go.Deep.choose_lt (α := Bool) (n := l) (p := fun i b => V i = .bool b) (fun i hi => by
      obtain ⟨b, h1, h2⟩ := DataW.trod_bool Tryd.underlying4 (hx i (by omega)).2
      exact ⟨b, by simpa using h1⟩)
    refine ⟨⟨some x, l, c⟩, (List.range l).map B, rfl, ⟨by simp, ?_⟩, by simp only; omega⟩
    by_cases h0 : l = 0
    · left; subst h0; simp
    · right
      obtain ⟨b, off, spot⟩ := x
      have hc := (hx 0 (by omega)).1
      have hspot : spot = none := by simpa [Addr.add] using World.cell?_spot hc
      subst hspot
      refine ⟨b, off, rfl, World.block_lt_of_cell? W ⟨b, off + 0, none⟩ (by simpa [Addr.add] using hc), fun i hi => ?_⟩
      simp at hi
      have k0 := (hx i (by omega)).1
      rw [hB i hi] at k0
      have e : ((List.range l).map B).getD i false = B i := by rw [List.getD_eq_getElem?_getD, List.getElem?_map, List.getElem?_range hi]; rfl
      rw [e]
      by_cases h1 : i = 0
      · subst h1; simpa [Addr.add] using k0
      · simpa [Addr.add, h1] using k0
theorem OwnB.downI {w : World} {B B' : Nat} {v : Value} {zs : List Bool} (h : OwnB w B v zs) (hB : B' ≤ B) : OwnB w B' v zs := World.ownsRow_down h hB
theorem OwnB.sl10 {w : World} {B : Nat} {v : Value} {zs : List Bool} (h : OwnB w B v zs) : ∃ s : Sl, v = .slice s.a s.len s.cap ∧ s.len = zs.length := by
  rcases h.2 with ⟨hv, hn⟩ | ⟨g, c, cur, hv, _⟩
  · exact ⟨⟨none, 0, 0⟩, hv, hn.symm⟩
  · exact ⟨⟨some ⟨g, 0, none⟩, zs.length, c⟩, hv, rfl⟩
theorem OwnB.ints10 {w : World} {B : Nat} {s : Sl} {zs : List Bool} (h : OwnB w B (slQ s) zs) : BoolsAt w s.a s.len zs := OwnB.ints h
/-- A law's slice of slices reads as pss. -/
def RowIn10 (w : World) (a : Option Addr) (len : Nat) (pss : List (List Bool)) : Prop :=
  len = pss.length ∧ (pss = [] ∨ ∃ b off, a = some ⟨b, off, none⟩ ∧ b < w.heap.size ∧ ∀ i, i < pss.length → ∃ s : Sl, w.cell? ⟨b, off + i, none⟩ = some (slQ s) ∧ BoolsAt w s.a s.len (pss.getD i []) ∧ s.len ≤ 9223372036854775807)
theorem RowIn10.next {w w' : World} {a : Option Addr} {len : Nat} {pss : List (List Bool)} (h : RowIn10 w a len pss) (hb : Below w.heap.size w w') : RowIn10 w' a len pss :=
  ⟨h.1, h.2.imp id fun ⟨b, off, h1, h2, h3⟩ => ⟨b, off, h1, Nat.lt_of_lt_of_le h2 hb.size, fun i hi => by
    obtain ⟨s, h4, h5, h6⟩ := h3 i hi
    exact ⟨s, (hb.cell (p := ⟨b, off + i, none⟩) h2).trans h4, h5.next hb, h6⟩⟩⟩
theorem RowIn10.some {w : World} {a : Option Addr} {len : Nat} {pss : List (List Bool)} (h : RowIn10 w a len pss) (hl : 1 ≤ len) : ∃ b off, a = Option.some ⟨b, off, none⟩ ∧ b < w.heap.size ∧ ∀ i, i < len → ∃ s : Sl, w.cell? ⟨b, off + i, none⟩ = Option.some (slQ s) ∧ BoolsAt w s.a s.len (pss.getD i []) ∧ s.len ≤ 9223372036854775807 := by
  rcases h.2 with h2 | ⟨b, off, h1, h2, h3⟩
  · have := h.1; rw [h2] at this; simp at this; omega
  · exact ⟨b, off, h1, h2, fun i hi => h3 i (by rw [← h.1]; exact hi)⟩
/-- A slice of slices that reads as pss, from its block's begin. -/
def RSA (w : World) (a : Option Addr) (len : Nat) (pss : List (List Bool)) : Prop :=
  len = pss.length ∧ (pss = [] ∨ ∃ b, a = some ⟨b, 0, none⟩ ∧ b < w.heap.size ∧ ∀ i, i < pss.length → ∃ s : Sl, w.cell? ⟨b, i, none⟩ = some (slQ s) ∧ BoolsAt w s.a s.len (pss.getD i []) ∧ s.len ≤ 9223372036854775807)
theorem RSA.next {w w' : World} {a : Option Addr} {len : Nat} {pss : List (List Bool)} (h : RSA w a len pss) (hb : Below w.heap.size w w') : RSA w' a len pss :=
  ⟨h.1, h.2.imp id fun ⟨b, h1, h2, h3⟩ => ⟨b, h1, Nat.lt_of_lt_of_le h2 hb.size, fun i hi => by
    obtain ⟨s, h4, h5, h6⟩ := h3 i hi
    exact ⟨s, (hb.cell (p := ⟨b, i, none⟩) h2).trans h4, h5.next hb, h6⟩⟩⟩
theorem RSA.some {w : World} {a : Option Addr} {len : Nat} {pss : List (List Bool)} (h : RSA w a len pss) (hl : 1 ≤ len) : ∃ b, a = Option.some ⟨b, 0, none⟩ ∧ b < w.heap.size ∧ ∀ i, i < len → ∃ s : Sl, w.cell? ⟨b, i, none⟩ = Option.some (slQ s) ∧ BoolsAt w s.a s.len (pss.getD i []) ∧ s.len ≤ 9223372036854775807 := by
  rcases h.2 with h2 | ⟨b, h1, h2, h3⟩
  · have := h.1; rw [h2] at this; simp at this; omega
  · exact ⟨b, h1, h2, fun i hi => h3 i (by rw [← h.1]; exact hi)⟩
/-- A row of the call's own stays where another block is written. -/
theorem OwnB.off9 {u u' : World} {B : Nat} {v : Value} {ps : List Bool} {ob : Option Nat} (h : OwnB u B v ps) (hg : u.grownBy u' ob) (hb : ∀ k, ob = some k → k < B) : OwnB u' B v ps :=
  World.ownsRow.kept h hg (by
    rcases h.2 with ⟨rfl, _⟩ | ⟨g, c, cur, rfl, hB, _⟩
    · exact .inl rfl
    · refine .inr fun e => ?_
      have := hb g e.symm
      omega)
/-- The first k rows of a copy. -/
def RowsI9 (w0 wr : World) (len k : Nat) (pss : List (List Bool)) : Prop :=
  ∃ vs : List Value, wr.ownsRow w0.heap.size 34 1 (.slice (some ⟨w0.heap.size, 0, none⟩) len len) len vs ∧ ∀ i, i < k → ∃ v, vs[i]? = some v ∧ OwnB wr (w0.heap.size + 1) v (pss.getD i [])
theorem RowsI9.pss {w0 wr : World} {len : Nat} {pss : List (List Bool)} (h : RowsI9 w0 wr len len pss) (hl : len = pss.length) (hr : ∀ i, i < len → (pss.getD i []).length ≤ 1048576) : RSA wr (some ⟨w0.heap.size, 0, none⟩) len pss := by
  obtain ⟨vs, h1, h2⟩ := h
  by_cases h0 : len = 0
  · subst h0; exact ⟨hl, .inl (List.eq_nil_of_length_eq_zero hl.symm)⟩
  · refine ⟨hl, .inr ⟨w0.heap.size, rfl, (World.ownsRow.lt h1 _ rfl).2, fun i hi => ?_⟩⟩
    obtain ⟨v, e, o⟩ := h2 i (by omega)
    obtain ⟨s, rfl, hs⟩ := o.sl10
    exact ⟨s, (World.ownsRow.cellAt h1 i (by omega)).trans e, o.ints10, by have := hr i (by omega); omega⟩
theorem cellsSlB : Tryd.prog.cellsOf 34 = 1 := by kernel_rfl
theorem open_rowsArg {H : Type} {enc : TypeId × Value → H} {W : World} {base : Nat} {v : Value} {d : DataW H} {p : List MemPlace} (hv : Value.okWide Tryd.prog W .any base 29 v) (h : DataW.Trod enc Tryd.prog W 0 (fun _ => true) true 29 v d p) :
    ∃ (s : Sl) (pss : List (List Bool)), v = .slice s.a s.len s.cap ∧ RowIn10 W s.a s.len pss ∧ s.len ≤ 9223372036854775807 := by
  obtain ⟨a, len, cap, rfl⟩ := okWide_slice Tryd.underlying29 hv
  obtain ⟨fuel, hf⟩ := h
  have hf' : DataW.trod enc Tryd.prog W 0 (fun _ => true) true fuel 29 [.slice a len cap] = some (d, p) := by simpa [Value.cells] using hf
  rcases Go.Deep.open_slice1 Tryd.underlying29 cellsSlB hf' with ⟨hcs, _⟩ | ⟨x, l, c, m, n', V, D, Pl, hcs, _, hl, hm, hmm, _, hx⟩
  · simp at hcs
    obtain ⟨rfl, rfl, rfl⟩ := hcs
    exact ⟨⟨none, 0, 0⟩, [], rfl, ⟨rfl, .inl rfl⟩, Nat.zero_le _⟩
  · simp at hcs
    obtain ⟨rfl, rfl, rfl⟩ := hcs
    unfold maxLen at hm
    simp only [if_true] at hmm
    have each : ∀ i, i < len → ∃ q : Sl × List Bool, V i = slQ q.1 ∧ BoolsAt W q.1.a q.1.len q.2 ∧ q.1.len ≤ 9223372036854775807 := fun i hi => by
      obtain ⟨s, ps, e, h1, h2⟩ := bools_of (hx i (by omega)).2
      exact ⟨(s, ps), e, h1, h2⟩
    haveI : Inhabited (Sl × List Bool) := ⟨(⟨none, 0, 0⟩, [])⟩
    obtain ⟨f, hfx⟩ := Go.Deep.choose_lt each
    refine ⟨⟨some x, len, cap⟩, (List.range len).map fun (k : Nat) => (f k).2, rfl, ⟨by simp, ?_⟩, by simp only; omega⟩
    by_cases h0 : len = 0
    · left; subst h0; simp
    · right
      obtain ⟨b, off, spot⟩ := x
      have hc := (hx 0 (by omega)).1
      have hspot : spot = none := by simpa [Addr.add] using World.cell?_spot hc
      subst hspot
      refine ⟨b, off, rfl, World.block_lt_of_cell? W ⟨b, off + 0, none⟩ (by simpa [Addr.add] using hc), fun i hi => ?_⟩
      simp at hi
      obtain ⟨e1, e2, e3⟩ := hfx i hi
      have k0 := (hx i (by omega)).1
      rw [e1] at k0
      refine ⟨(f i).1, ?_, ?_, e3⟩
      · by_cases h1 : i = 0
        · subst h1; simpa [Addr.add] using k0
        · simpa [Addr.add, h1] using k0
      · rw [List.getD_eq_getElem?_getD, List.getElem?_map, List.getElem?_range hi]
        exact e2
/-- What is left behind the rows. -/
def szLi : List (List Bool) → Int → Int
  | [], l => l
  | ps :: r, l => if l < (ps.length : Int) then -1 else szLi r (l - ps.length)
theorem szLi_neg : ∀ (pss : List (List Bool)) (l : Int), 0 ≤ l → szLi pss l = -1 ∨ (0 ≤ szLi pss l ∧ szLi pss l ≤ l ∧ ∀ i, i < pss.length → ((pss.getD i []).length : Int) ≤ l)
  | [], l, h => .inr ⟨h, Int.le_refl _, fun i hi => by simp at hi⟩
  | ps :: r, l, h => by
    unfold szLi
    split
    · exact .inl rfl
    · rename_i hk
      rcases szLi_neg r (l - ps.length) (by omega) with e | ⟨e1, e2, e3⟩
      · exact .inl e
      · refine .inr ⟨e1, by omega, fun i hi => ?_⟩
        cases i with
        | zero => simp; omega
        | succ i =>
          have := e3 i (by simpa using hi)
          simp only [List.getD_cons_succ]
          omega
/-- What the measuring of a slice of slices answers. -/
def szXi (left : Int) (pss : List (List Bool)) : Int := if left < (pss.length : Int) then -1 else szLi pss (left - pss.length)
/-- -1, or all fit in. -/
def Szi9 (left : Int) (len : Nat) (pss : List (List Bool)) (x : Int) : Prop := x = -1 ∨ (0 ≤ x ∧ x ≤ left ∧ (len : Int) ≤ left ∧ ∀ i, i < len → ((pss.getD i []).length : Int) ≤ left)
theorem szXi_is (left : Int) (len : Nat) (pss : List (List Bool)) (hl : len = pss.length) (h : 0 ≤ left) : Szi9 left len pss (szXi left pss) := by
  subst hl
  unfold szXi
  split
  · exact .inl rfl
  · rename_i hk
    rcases szLi_neg pss (left - pss.length) (by omega) with e | ⟨e1, e2, e3⟩
    · exact .inl e
    · exact .inr ⟨e1, by omega, by omega, fun i hi => by have := e3 i hi; omega⟩
theorem szLi_drop {pss : List (List Bool)} {j : Nat} (h : j < pss.length) (l : Int) : szLi (pss.drop j) l = if l < ((pss.getD j []).length : Int) then -1 else szLi (pss.drop (j + 1)) (l - (pss.getD j []).length) := by
  rw [List.drop_eq_getElem_cons h, List.getD_eq_getElem?_getD, List.getElem?_eq_getElem h]
  rfl
theorem infoSlB : (Tryd.prog.info? 34).map (fun i => (i.zero, i.size, i.bytes)) = some (some (.slice none 0 0), 1, 24) := by kernel_rfl
set_option maxHeartbeats 1000000 in
theorem eqBoolSSW (a b : Option Addr) (len len2 cap cap2 : Nat) (pss : List (List Bool)) (w : World) (h : RSA w a len pss) (h2 : RSA w b len2 pss) (hl : len ≤ 1048576) (hr : ∀ i, i < len → (pss.getD i []).length ≤ 1048576) :
    Calls Tryd.prog 16 #[.slice a len cap, .slice b len2 cap2] w fun e w' => e = .returned (.bool true) ∧ Below w.heap.size w w' := by
  obtain rfl : len2 = len := by rw [h.1, h2.1]
  have e0 : ((len2 : Int) != (len2 : Int)) = false := by simp
  by_cases hn : 1 ≤ len2
  · obtain ⟨b1, rfl, lt1, c1⟩ := h.some hn
    obtain ⟨b2, rfl, lt2, c2⟩ := h2.some hn
    have HC1 := Lib.hid c1
    have HC2 := Lib.hid c2
    have HR := Lib.hid hr
    clear h h2 c1 c2 hn hr
    go_enter Tryd.func16, Tryd.ntmps16
    go_wp2
    go_loopw [5] (fun i wr => ∃ j : Nat, j ≤ len2 ∧ i = .int .i64 (j : Int) ∧ Hid (Below w.heap.size w wr)) (fun i _ => len2 - (intOf i).toNat)
    case atStart => exact ⟨0, Nat.zero_le _, rfl, Lib.hid (Below.refl _ _)⟩
    case round =>
      obtain ⟨j, hj, rfl, HW⟩ := hrel
      by_cases hlt : j < len2
      · obtain ⟨⟨sa, sl, sc⟩, d1, I1, _⟩ := HC1.out j hlt
        obtain ⟨⟨ta, tl, tc⟩, d2, I2, _⟩ := HC2.out j hlt
        unfold slQ at d1 d2
        simp only at d1 d2 I1 I2
        have k1 := keptCell (Nat.lt_of_lt_of_le lt1 HW.out.size) ((HW.out.cell (p := ⟨b1, j, none⟩) lt1).trans d1)
        have k2 := keptCell (Nat.lt_of_lt_of_le lt2 HW.out.size) ((HW.out.cell (p := ⟨b2, j, none⟩) lt2).trans d2)
        have hls : sl ≤ 9223372036854775807 := by rw [I1.1]; have := HR.out j hlt; omega
        have HQ := Lib.hid (fun (q : Kept wr) => keptCall (eqBoolS sa ta sl tl sc tc (pss.getD j []) q.u ((I1.next HW.out).next q.b) ((I2.next HW.out).next q.b) hls))
        have j1 : (0 : Int) ≤ (j : Int) := by omega
        have j2 : (j : Int) < (len2 : Int) := by omega
        clear I1 I2 d1 d2
        go_upto_region 6 with fail
        refine wp_region_kept (by kernel_rfl) (by kernel_rfl) ?_
        repeat (go_big_quiet_step ((go_at_call 41; with_reducible exact HQ.out _)))
        refine wpQuiet_nil ?_
        rintro w2 ⟨⟨_, B2⟩, rfl⟩
        have HW2 := Lib.hid (below_call HW.out B2)
        clear k1 k2 B2 HQ
        go_wp2
        go_roundw
        case rel => exact ⟨j + 1, by omega, by congr 1, HW2⟩
        case measure => simp [intOf]; omega
      · obtain rfl : j = len2 := by omega
        have j2 : ¬ ((j : Int) < (j : Int)) := by omega
        go_wp2
        go_ret
        exact ⟨rfl, HW.out⟩
  · obtain rfl : len2 = 0 := by omega
    clear h h2 hn hr
    go_enter Tryd.func16, Tryd.ntmps16
    go_wp2
    go_loopw [5] (fun i wr => i = .int .i64 0 ∧ Hid (Below w.heap.size w wr)) (fun _ _ => 0)
    case atStart => exact ⟨rfl, Lib.hid (Below.refl _ _)⟩
    case round =>
      obtain ⟨rfl, HW⟩ := hrel
      go_wp2
      go_ret
      exact ⟨rfl, HW.out⟩
end Go.Proofs.YtkogoflcacameaaDoor.Bol
namespace Go.Proofs.YtkogoflcacameaaDoor.Cel
set_option maxRecDepth 100000
open Go.ChangeShapes Go.WideShapes Go.ChangeAt Go.RowKit Go.Joins
attribute [local go_sem ↓] Go.wp_at_zero Go.wp_at_succ
/-- A coordinate of a list of points, by its place among the cells. -/
def cz (ps : List (Int × Int)) (j : Nat) : Int := if j % 2 = 0 then (ps.getD (j / 2) (0, 0)).1 else (ps.getD (j / 2) (0, 0)).2
/-- The points as values. -/
def pvals (ps : List (Int × Int)) : List Value := (List.range (ps.length * 2)).map fun (j : Nat) => Value.int .i64 (cz ps j)
theorem pvals_len (ps : List (Int × Int)) : (pvals ps).length = ps.length * 2 := by simp [pvals]
theorem pvals_at (ps : List (Int × Int)) (j : Nat) (h : j < ps.length * 2) : (pvals ps)[j]? = some (.int .i64 (cz ps j)) := by
  unfold pvals; rw [List.getElem?_map, List.getElem?_range h]; rfl
theorem cz0 (ps : List (Int × Int)) (i : Nat) : cz ps (i * 2) = (ps.getD i (0, 0)).1 := by
  unfold cz; rw [if_pos (by omega), show i * 2 / 2 = i by omega]
theorem cz1 (ps : List (Int × Int)) (i : Nat) : cz ps (i * 2 + 1) = (ps.getD i (0, 0)).2 := by
  unfold cz; rw [if_neg (by omega), show (i * 2 + 1) / 2 = i by omega]
/-- A row of points reads as ps. -/
def PtsAt (w : World) (a : Option Addr) (len : Nat) (ps : List (Int × Int)) : Prop :=
  len = ps.length ∧ (ps = [] ∨ ∃ b, a = some ⟨b, 0, none⟩ ∧ b < w.heap.size ∧ ∀ i, i < ps.length → w.cell? ⟨b, i * 2, none⟩ = some (.int .i64 (ps.getD i (0, 0)).1) ∧ w.cell? ⟨b, i * 2 + 1, none⟩ = some (.int .i64 (ps.getD i (0, 0)).2))
theorem PtsAt.some {w : World} {a : Option Addr} {len : Nat} {ps : List (Int × Int)} (h : PtsAt w a len ps) (hl : 1 ≤ len) : ∃ b, a = Option.some ⟨b, 0, none⟩ ∧ b < w.heap.size ∧ ∀ i, i < len → w.cell? ⟨b, i * 2, none⟩ = Option.some (.int .i64 (ps.getD i (0, 0)).1) ∧ w.cell? ⟨b, i * 2 + 1, none⟩ = Option.some (.int .i64 (ps.getD i (0, 0)).2) := by
  rcases h.2 with h2 | ⟨b, h1, h2, h3⟩
  · have := h.1; rw [h2] at this; simp at this; omega
  · exact ⟨b, h1, h2, fun i hi => h3 i (by rw [← h.1]; exact hi)⟩
/-- A row of points of the call's own. -/
def OwnPt (w : World) (B : Nat) (v : Value) (ps : List (Int × Int)) : Prop := w.ownsRow B 38 2 v ps.length (pvals ps)
theorem OwnPt.ints {w : World} {B n cap : Nat} {a : Option Addr} {ps : List (Int × Int)} (h : OwnPt w B (.slice a n cap) ps) : PtsAt w a n ps := by
  rcases h.2 with ⟨hv, hn⟩ | ⟨g, c, cur, hv, hb, hg, rest⟩
  · simp only [Value.slice.injEq] at hv
    exact ⟨by omega, .inl (List.eq_nil_of_length_eq_zero hn)⟩
  · simp only [Value.slice.injEq] at hv
    obtain ⟨rfl, rfl, rfl⟩ := hv
    refine ⟨rfl, .inr ⟨g, rfl, (World.ownsRow.lt h g rfl).2, fun i hi => ?_⟩⟩
    have c0 := World.ownsRow.cellAt h (i * 2) (by omega)
    have c1 := World.ownsRow.cellAt h (i * 2 + 1) (by omega)
    rw [pvals_at ps _ (by omega), cz0] at c0
    rw [pvals_at ps _ (by omega), cz1] at c1
    exact ⟨c0, c1⟩
theorem OwnPt.next {w w' : World} {B : Nat} {v : Value} {ps : List (Int × Int)} (h : OwnPt w B v ps) (hb : Below w.heap.size w w') : OwnPt w' B v ps := by
  refine World.ownsRow.kept (row := none) h ⟨hb.os, hb.tape, hb.output, hb.size, fun k hk _ => hb.block k hk⟩ ?_
  cases v.ownBlock <;> simp
theorem OwnPt.same {w w' : World} {B n cap : Nat} {a : Option Addr} {ps : List (Int × Int)} (h : OwnPt w B (.slice a n cap) ps) (hb : ∀ g, (Value.slice a n cap).ownBlock = some g → w'.heap[g]? = w.heap[g]?) : OwnPt w' B (.slice a n cap) ps := by
  refine ⟨h.1, ?_⟩
  rcases h.2 with h2 | ⟨g, c, cur, hv, hb', hg, rest⟩
  · exact .inl h2
  · exact .inr ⟨g, c, cur, hv, hb', by rw [hb g (by rw [hv]; rfl)]; exact hg, rest⟩
theorem OwnPt.sl {w : World} {B : Nat} {v : Value} {ps : List (Int × Int)} (h : OwnPt w B v ps) : ∃ s : Sl, v = .slice s.a s.len s.cap ∧ s.len = ps.length := by
  rcases h.2 with ⟨hv, hn⟩ | ⟨g, c, cur, hv, _⟩
  · exact ⟨⟨none, 0, 0⟩, hv, hn.symm⟩
  · exact ⟨⟨some ⟨g, 0, none⟩, ps.length, c⟩, hv, rfl⟩
/-- k, k + 1, .. as points. -/
def pmarks (k : Int) (n : Nat) : List (Int × Int) := (List.range n).map fun (i : Nat) => (k + 2 * (i : Int), k + 2 * (i : Int) + 1)
theorem pmarks_len (k : Int) (n : Nat) : (pmarks k n).length = n := by simp [pmarks]
theorem pmarks_at (k : Int) (n i : Nat) (h : i < n) : (pmarks k n).getD i (0, 0) = (k + 2 * (i : Int), k + 2 * (i : Int) + 1) := by
  unfold pmarks; rw [List.getD_eq_getElem?_getD, List.getElem?_map, List.getElem?_range h]; rfl
/-- Cells of which the first m are f's, the others g's. -/
def cpart (f g : Nat → Int) (n m : Nat) : List Value := (List.range n).map fun (i : Nat) => Value.int .i64 (if i < m then f i else g i)
theorem cpart_len (f g : Nat → Int) (n m : Nat) : (cpart f g n m).length = n := by simp [cpart]
theorem cpart_at (f g : Nat → Int) (n m i : Nat) (h : i < n) : (cpart f g n m)[i]? = some (.int .i64 (if i < m then f i else g i)) := by
  unfold cpart; rw [List.getElem?_map, List.getElem?_range h]; rfl
theorem cpart_set (f g : Nat → Int) (n m : Nat) : (cpart f g n m).set m (.int .i64 (f m)) = cpart f g n (m + 1) := by
  apply List.ext_getElem?
  intro i
  rw [List.getElem?_set, cpart_len]
  by_cases hi : i < n
  · rw [cpart_at f g n m i hi, cpart_at f g n (m + 1) i hi]
    by_cases hj : m = i
    · subst hj; rw [if_pos rfl, if_pos hi, if_pos (by omega)]
    · rw [if_neg hj]
      by_cases h1 : i < m
      · rw [if_pos h1, if_pos (by omega)]
      · rw [if_neg h1, if_neg (by omega)]
  · rw [List.getElem?_eq_none (by rw [cpart_len]; omega), List.getElem?_eq_none (by rw [cpart_len]; omega)]
    split
    · rw [if_neg (by omega)]
    · rfl
theorem cpart_congr (f g f' g' : Nat → Int) (n m m' : Nat) (h : ∀ i, i < n → (if i < m then f i else g i) = if i < m' then f' i else g' i) : cpart f g n m = cpart f' g' n m' := by
  apply List.ext_getElem?
  intro i
  by_cases hi : i < n
  · rw [cpart_at f g n m i hi, cpart_at f' g' n m' i hi, h i hi]
  · rw [List.getElem?_eq_none (by rw [cpart_len]; omega), List.getElem?_eq_none (by rw [cpart_len]; omega)]
theorem pvals_cpart (ps : List (Int × Int)) (g : Nat → Int) : pvals ps = cpart (cz ps) g (ps.length * 2) (ps.length * 2) := by
  apply List.ext_getElem?
  intro i
  by_cases hi : i < ps.length * 2
  · rw [pvals_at ps i hi, cpart_at _ _ _ _ i hi, if_pos hi]
  · rw [List.getElem?_eq_none (by rw [pvals_len]; omega), List.getElem?_eq_none (by rw [cpart_len]; omega)]
theorem cz_pmarks (k : Int) (n j : Nat) (h : j < n * 2) : cz (pmarks k n) j = k + (j : Int) := by
  unfold cz
  rw [pmarks_at k n (j / 2) (by omega)]
  split <;> simp only <;> omega
/-- What marking a row of points says. -/
def MarkedP (B : Nat) (v : Value) (n : Nat) (k : Int) (w : World) (e : Ending) (w' : World) : Prop :=
  e = .returned (.int .i64 (k + 2 * n)) ∧ OwnPt w' B v (pmarks k n) ∧ w.grownBy w' v.ownBlock ∧ w'.heap.size = w.heap.size
/-- A slice of points of the call's own that reads as ps. -/
def PtRow (ps : List (Int × Int)) (w : World) (e : Ending) (w' : World) : Prop :=
  ∃ s : Sl, e = .returned (.slice s.a s.len s.cap) ∧ s.len = ps.length ∧ OwnPt w' w.heap.size (.slice s.a s.len s.cap) ps ∧ Below w.heap.size w w'
theorem OwnPt.down6 {w : World} {B B' : Nat} {v : Value} {ps : List (Int × Int)} (h : OwnPt w B v ps) (hB : B' ≤ B) : OwnPt w B' v ps := World.ownsRow_down h hB
theorem OwnPt.slv {w : World} {B : Nat} {v : Value} {ps : List (Int × Int)} (h : OwnPt w B v ps) (w0 : World) (hB : w0.heap.size ≤ B) (hb : Below w0.heap.size w0 w) : PtRow ps w0 (.returned v) w := by
  obtain ⟨s, rfl, hs⟩ := h.sl
  exact ⟨s, rfl, hs, h.down6 hB, hb⟩
theorem infoPt6 : (Tryd.prog.info? 38).map (fun i => (i.zero, i.size, i.bytes)) = some (some (pt 0 0), 2, 16) := by kernel_rfl
theorem made6 (f : Nat → Int) (n : Nat) : (madeCells (pt 0 0).cells (n * 2)).toList = cpart f (fun _ => 0) (n * 2) (0 * 2) := by
  unfold cpart madeCells
  show (Array.map _ (Array.range (n * 2))).toList = _
  rw [Array.toList_map, Array.toList_range]
  apply List.map_congr_left
  intro j _
  have hm : j % 2 = 0 ∨ j % 2 = 1 := by omega
  have e : (if j < 0 * 2 then f j else 0) = 0 := by simp
  rw [e]
  show (#[Value.int .i64 0, Value.int .i64 0] : Array Value)[j % 2]! = _
  rcases hm with h | h <;> rw [h] <;> simp
theorem nilPt (w w' : World) (hb : Below w.heap.size w w') : PtRow [] w (.returned (.slice none 0 0)) w' := ⟨⟨none, 0, 0⟩, rfl, rfl, World.ownsRow_nil _ _ _ _, hb⟩
theorem ownPt_empty (w : World) (T : TypeId) (hT : T = 38) : OwnPt (w.alloc (.cells #[] T)) w.heap.size (.slice (some ⟨w.heap.size, 0, none⟩) 0 0) [] := by
  subst hT
  have := World.ownsRow_lit (base := w.heap.size) (e := 38) (size := 2) w #[] 0 (Nat.le_refl _) (Nat.zero_le _) rfl
  unfold OwnPt
  simpa [pvals] using this
/-- A slice reads as the points ps, wherever in its block it begins. -/
def PtsIn (w : World) (a : Option Addr) (len : Nat) (ps : List (Int × Int)) : Prop :=
  len = ps.length ∧ (ps = [] ∨ ∃ b off, a = some ⟨b, off, none⟩ ∧ b < w.heap.size ∧ ∀ i, i < ps.length → w.cell? ⟨b, off + i * 2, none⟩ = some (.int .i64 (pX ps i)) ∧ w.cell? ⟨b, off + i * 2 + 1, none⟩ = some (.int .i64 (pY ps i)))
/-- The coordinates fit. -/
def FitP (ps : List (Int × Int)) : Prop := ∀ i, (-9223372036854775808 ≤ pX ps i ∧ pX ps i ≤ 9223372036854775807) ∧ -9223372036854775808 ≤ pY ps i ∧ pY ps i ≤ 9223372036854775807
theorem ptsMk7 (f g : Nat → Int) (n i : Nat) (h : i < n) : pX ((List.range n).map fun (k : Nat) => (f k, g k)) i = f i ∧ pY ((List.range n).map fun (k : Nat) => (f k, g k)) i = g i := by
  unfold pX pY
  rw [List.getD_eq_getElem?_getD, List.getElem?_map, List.getElem?_range h]
  exact ⟨rfl, rfl⟩
end Go.Proofs.YtkogoflcacameaaDoor.Cel
namespace Go.Proofs.YtkogoflcacameaaDoor.Bol
set_option maxRecDepth 100000
open Go.RowKit
attribute [local go_sem ↓] Go.wp_at_zero Go.wp_at_succ
/-- A row's length. -/
def rl (pss : List (List Bool)) (i : Nat) : Nat := (pss.getD i []).length
/-- The first k rows lie in blocks of their own. -/
structure RowsM (u : World) (g len k : Nat) (pss : List (List Bool)) (vs : List Value) (bk : Nat → Nat) : Prop where
  own : u.ownsRow g 34 1 (.slice (some ⟨g, 0, none⟩) len len) len vs
  val : ∀ i, i < k → vs[i]? = some (.slice (some ⟨bk i, 0, none⟩) (rl pss i) (rl pss i))
  row : ∀ i, i < k → OwnB u (g + 1) (.slice (some ⟨bk i, 0, none⟩) (rl pss i) (rl pss i)) (pss.getD i [])
  gt : ∀ i, i < k → g < bk i
  lt : ∀ i, i < k → bk i < u.heap.size
  inc : ∀ i j, i < j → j < k → bk i < bk j
theorem RowsM.next {u u' : World} {g len k : Nat} {pss : List (List Bool)} {vs : List Value} {bk : Nat → Nat} (h : RowsM u g len k pss vs bk) (hb : Below u.heap.size u u') : RowsM u' g len k pss vs bk :=
  ⟨World.ownsRow.kept (row := none) h.own ⟨hb.os, hb.tape, hb.output, hb.size, fun k hk _ => hb.block k hk⟩ (.inr (by simp [Value.ownBlock])), h.val, fun i hi => (h.row i hi).next hb, h.gt, fun i hi => Nat.lt_of_lt_of_le (h.lt i hi) hb.size, h.inc⟩
theorem RowsM.rsa {u : World} {g len : Nat} {pss : List (List Bool)} {vs : List Value} {bk : Nat → Nat} (h : RowsM u g len len pss vs bk) (hl : len = pss.length) (hr : ∀ i, i < len → (pss.getD i []).length ≤ 1048576) : RSA u (some ⟨g, 0, none⟩) len pss := by
  by_cases h0 : len = 0
  · subst h0; exact ⟨hl, .inl (List.eq_nil_of_length_eq_zero hl.symm)⟩
  · refine ⟨hl, .inr ⟨g, rfl, (World.ownsRow.lt h.own _ rfl).2, fun i hi => ?_⟩⟩
    have hi' : i < len := by omega
    exact ⟨⟨some ⟨bk i, 0, none⟩, rl pss i, rl pss i⟩, (World.ownsRow.cellAt h.own i (by omega)).trans (h.val i hi'), OwnB.ints (h.row i hi'), by have := hr i hi'; unfold rl; simp only; omega⟩
/-- The lengths of the rows ahead of row i. -/
def preL (pss : List (List Bool)) : Nat → Nat
  | 0 => 0
  | i + 1 => preL pss i + rl pss i
theorem preL_le {pss : List (List Bool)} {len : Nat} (h : ∀ i, i < len → (pss.getD i []).length ≤ 1048576) : ∀ {j : Nat}, j ≤ len → preL pss j ≤ j * 1048576
  | 0, _ => by simp [preL]
  | j + 1, hj => by
    have h1 := preL_le h (j := j) (by omega)
    have h2 := h j (by omega)
    show preL pss j + rl pss j ≤ _
    unfold rl
    omega
/-- The first j rows marked. -/
def mkTo (pss : List (List Bool)) (k : Int) (j : Nat) : List (List Bool) := (List.range pss.length).map fun i => if i < j then marks (k + (preL pss i : Int)) (rl pss i) else pss.getD i []
theorem mkTo_len (pss : List (List Bool)) (k : Int) (j : Nat) : (mkTo pss k j).length = pss.length := by simp [mkTo]
theorem mkTo_at (pss : List (List Bool)) (k : Int) (j i : Nat) (h : i < pss.length) : (mkTo pss k j).getD i [] = if i < j then marks (k + (preL pss i : Int)) (rl pss i) else pss.getD i [] := by
  unfold mkTo
  rw [List.getD_eq_getElem?_getD, List.getElem?_map, List.getElem?_range h]; rfl
theorem mkTo_rl (pss : List (List Bool)) (k : Int) (j i : Nat) (h : i < pss.length) : rl (mkTo pss k j) i = rl pss i := by
  unfold rl
  rw [mkTo_at pss k j i h]
  split
  · rw [marks_len]; rfl
  · rfl
theorem mkTo_zero (pss : List (List Bool)) (k : Int) : mkTo pss k 0 = pss := by
  apply List.ext_getElem?
  intro i
  by_cases h : i < pss.length
  · unfold mkTo
    rw [List.getElem?_map, List.getElem?_range h, List.getElem?_eq_getElem h]
    simp only [Option.map_some, Nat.not_lt_zero, if_false, List.getD_eq_getElem?_getD, List.getElem?_eq_getElem h, Option.getD_some]
  · rw [List.getElem?_eq_none (by rw [mkTo_len]; omega), List.getElem?_eq_none (by omega)]
/-- Only the rows' blocks have changed. -/
structure Rows0 (u u' : World) (len : Nat) (bk : Nat → Nat) : Prop where
  os : u'.os = u.os
  tape : u'.tape = u.tape
  output : u'.output = u.output
  size : u'.heap.size = u.heap.size
  block : ∀ q, (∀ i, i < len → q ≠ bk i) → u'.heap[q]? = u.heap[q]?
/-- What marking leaves. -/
def MarkedSS (g len : Nat) (pss : List (List Bool)) (vs : List Value) (bk : Nat → Nat) (k : Int) (w : World) (e : Ending) (w' : World) : Prop :=
  e = .returned (.int .i64 (k + (preL pss len : Int))) ∧ RowsM w' g len len (mkTo pss k len) vs bk ∧ Rows0 w w' len bk
theorem OwnB.away {u u' : World} {B : Nat} {v : Value} {ps : List Bool} {ob : Option Nat} (h : OwnB u B v ps) (hg : u.grownBy u' ob) (hb : ∀ k, ob = some k → v.ownBlock ≠ some k) : OwnB u' B v ps :=
  World.ownsRow.kept h hg (by
    rcases h.2 with ⟨rfl, _⟩ | ⟨g, c, cur, rfl, hB, _⟩
    · exact .inl rfl
    · exact .inr fun e => hb g e.symm rfl)
theorem RowsM.mark {u u' : World} {g len j : Nat} {pss : List (List Bool)} {vs : List Value} {bk : Nat → Nat} {k : Int} (h : RowsM u g len len (mkTo pss k j) vs bk) (hn : len = pss.length) (hj : j < len) (hO : OwnB u' (g + 1) (.slice (some ⟨bk j, 0, none⟩) (rl pss j) (rl pss j)) (marks (k + (preL pss j : Int)) (rl pss j))) (hG : u.grownBy u' (some (bk j))) (hS : u'.heap.size = u.heap.size) :
    RowsM u' g len len (mkTo pss k (j + 1)) vs bk := by
  have hg := h.gt j hj
  refine ⟨World.ownsRow.kept h.own hG (.inr (by simp [Value.ownBlock]; omega)), fun i hi => ?_, fun i hi => ?_, h.gt, fun i hi => by rw [hS]; exact h.lt i hi, h.inc⟩
  · rw [mkTo_rl pss k (j + 1) i (by omega)]
    have := h.val i hi
    rw [mkTo_rl pss k j i (by omega)] at this
    exact this
  · rw [mkTo_rl pss k (j + 1) i (by omega), mkTo_at pss k (j + 1) i (by omega)]
    by_cases e : i = j
    · subst e
      rw [if_pos (by omega)]; exact hO
    · have := h.row i hi
      rw [mkTo_rl pss k j i (by omega), mkTo_at pss k j i (by omega)] at this
      have e2 : (if i < j + 1 then marks (k + (preL pss i : Int)) (rl pss i) else pss.getD i []) = if i < j then marks (k + (preL pss i : Int)) (rl pss i) else pss.getD i [] := by
        by_cases c : i < j
        · rw [if_pos c, if_pos (by omega)]
        · rw [if_neg c, if_neg (by omega)]
      rw [e2]
      refine this.away hG (fun q hq => ?_)
      injection hq with hq
      subst hq
      intro q2
      have q3 : bk i = bk j := Option.some.inj q2
      rcases Nat.lt_or_ge i j with c | c
      · have := h.inc i j c hj; omega
      · have := h.inc j i (by omega) hi; omega
theorem Rows0.step {w u u' : World} {len j : Nat} {bk : Nat → Nat} (h : Rows0 w u len bk) (hj : j < len) (hG : u.grownBy u' (some (bk j))) (hS : u'.heap.size = u.heap.size) : Rows0 w u' len bk :=
  ⟨hG.os.trans h.os, hG.tape.trans h.tape, hG.output.trans h.output, hS.trans h.size, fun q hq => by
    by_cases e : q < u.heap.size
    · exact (hG.block q e (fun e2 => hq j hj (Option.some.inj e2))).trans (h.block q hq)
    · rw [Array.getElem?_eq_none (by omega), Array.getElem?_eq_none (by rw [← h.size]; omega)]⟩
set_option maxHeartbeats 2000000 in
theorem markBoolSS (g len : Nat) (pss : List (List Bool)) (vs : List Value) (bk : Nat → Nat) (k : Int) (w : World) (h : RowsM w g len len pss vs bk) (hn : len = pss.length) (hl : len ≤ 1048576) (hr : ∀ i, i < len → (pss.getD i []).length ≤ 1048576) (hk0 : 0 ≤ k) (hk1 : k ≤ 1048576) :
    Calls Tryd.prog 21 #[.slice (some ⟨g, 0, none⟩) len len, .int .i64 k] w (MarkedSS g len pss vs bk k w) := by
  unfold MarkedSS
  have HR := Lib.hid hr
  have HN := Lib.hid hn
  have HM0 := Lib.hid (show RowsM w g len len (mkTo pss k 0) vs bk by rw [mkTo_zero]; exact h)
  clear h hr hn
  go_enter Tryd.func21, Tryd.ntmps21
  go_wp2
  go_loopw [1, 5] (fun kk i wr => ∃ j : Nat, j ≤ len ∧ kk = .int .i64 (k + (preL pss j : Int)) ∧ i = .int .i64 (j : Int) ∧ Hid (RowsM wr g len len (mkTo pss k j) vs bk) ∧ Hid (Rows0 w wr len bk)) (fun _ i _ => len - (intOf i).toNat)
  case atStart => exact ⟨0, Nat.zero_le _, by simp [preL], rfl, HM0, Lib.hid ⟨rfl, rfl, rfl, rfl, fun _ _ => rfl⟩⟩
  case round =>
    obtain ⟨j, hj, rfl, rfl, HO, HW⟩ := hrel
    clear HM0
    by_cases hlt : j < len
    · have hjl : j < pss.length := by have := HN.out; omega
      have r1 := HO.out.own.cellAt j (by omega)
      rw [HO.out.val j hlt, mkTo_rl pss k j j hjl] at r1
      have r2 := HO.out.own.frozenAt j
      have j1 : (0 : Int) ≤ (j : Int) := by omega
      have j2 : (j : Int) < (len : Int) := by omega
      have hrow := HO.out.row j hlt
      rw [mkTo_rl pss k j j hjl, mkTo_at pss k j j hjl, if_neg (by omega)] at hrow
      have hrn : rl pss j ≤ 1048576 := HR.out j hlt
      have hpj := preL_le HR.out (by omega : j ≤ len)
      have HMK := Lib.hid (markBoolS (some ⟨bk j, 0, none⟩) (rl pss j) (rl pss j) (g + 1) (pss.getD j []) (k + (preL pss j : Int)) wr hrow (by omega) (by omega) (by omega))
      clear hrow
      have HO2 := HO
      go_wp2_with fail
      refine HMK.out.mono ?_
      rintro e w2 ⟨rfl, O2, G2, S2⟩
      have HM := Lib.hid (HO2.out.mark HN.out hlt O2 G2 S2)
      have HW2 := Lib.hid (HW.out.step hlt G2 S2)
      clear HMK HO HO2 HW O2 G2 S2 r1 r2
      go_wp2
      go_roundw
      case rel => exact ⟨j + 1, by omega, by congr 1; show _ = k + ((preL pss j + rl pss j : Nat) : Int); omega, by congr 1, HM, HW2⟩
      case measure => simp [intOf]; omega
    · obtain rfl : j = len := by omega
      go_wp2
      go_ret
      exact ⟨rfl, HO.out, HW.out⟩
section
variable {w u u' : World} {len B : Nat} {bk : Nat → Nat}
theorem Rows0.below (h : Rows0 u u' len bk) (hb : Below B w u) (hk : ∀ i, i < len → B ≤ bk i) : Below B w u' :=
  hb.trans ⟨h.os, h.tape, h.output, by rw [h.size]; exact Nat.le_refl _, fun q hq => h.block q (fun i hi => by have := hk i hi; omega)⟩
theorem Rows0.atp {c : Nat} {x y : Int} (h : Rows0 u u' len bk) (hp : AtP u c x y) (hk : ∀ i, i < len → c ≠ bk i) : AtP u' c x y :=
  have e := h.block c hk
  ⟨by rw [h.size]; exact hp.lt, (World.cell?_of_block (a := ⟨c, 0, none⟩) e).trans hp.c0, (World.cell?_of_block (a := ⟨c, 1, none⟩) e).trans hp.c1⟩
end
set_option maxHeartbeats 2000000 in
theorem heldBoolSS (g len : Nat) (pss : List (List Bool)) (vs : List Value) (bk : Nat → Nat) (k : Int) (w : World) (h : RowsM w g len len (mkTo pss k len) vs bk) (hn : len = pss.length) (hl : len ≤ 1048576) (hr : ∀ i, i < len → (pss.getD i []).length ≤ 1048576) (hk0 : 0 ≤ k) (hk1 : k ≤ 1048576) :
    Calls Tryd.prog 22 #[.slice (some ⟨g, 0, none⟩) len len, .int .i64 k] w fun e w' => e = .returned (.int .i64 (k + (preL pss len : Int))) ∧ w = w' := by
  have HR := Lib.hid hr
  have HN := Lib.hid hn
  have HO := Lib.hid h
  clear h hr hn
  go_enter Tryd.func22, Tryd.ntmps22
  go_wp2
  go_loop [1, 5] (fun kk i => ∃ j : Nat, j ≤ len ∧ kk = .int .i64 (k + (preL pss j : Int)) ∧ i = .int .i64 (j : Int)) (fun _ i => len - (intOf i).toNat)
  case atStart => exact ⟨0, Nat.zero_le _, by simp [preL], rfl⟩
  case round =>
    obtain ⟨j, hj, rfl, rfl⟩ := hrel
    by_cases hlt : j < len
    · have hjl : j < pss.length := by have := HN.out; omega
      have r1 := HO.out.own.cellAt j (by omega)
      rw [HO.out.val j hlt, mkTo_rl pss k len j hjl] at r1
      have j1 : (0 : Int) ≤ (j : Int) := by omega
      have j2 : (j : Int) < (len : Int) := by omega
      have hrow := OwnB.ints (HO.out.row j hlt)
      rw [mkTo_rl pss k len j hjl, mkTo_at pss k len j hjl, if_pos hlt] at hrow
      have hrn : rl pss j ≤ 1048576 := HR.out j hlt
      have hpj := preL_le HR.out (by omega : j ≤ len)
      have HMK := Lib.hid (heldBoolS (some ⟨bk j, 0, none⟩) (rl pss j) (rl pss j) (k + (preL pss j : Int)) w hrow (by omega) (by omega) (by omega))
      have n0 : ¬ (k + (preL pss j : Int) + (rl pss j : Int) < 0) := by omega
      clear hrow
      go_wp2_with fail
      refine HMK.out.mono ?_
      rintro e w2 ⟨rfl, rfl⟩
      clear HMK r1
      go_wp2
      go_round
      case rel => exact ⟨j + 1, by omega, by congr 1; show _ = k + ((preL pss j + rl pss j : Nat) : Int); omega, by congr 1⟩
      case measure => simp [intOf]; omega
    · obtain rfl : j = len := by omega
      go_wp2
      go_ret
      exact ⟨rfl, rfl⟩
end Go.Proofs.YtkogoflcacameaaDoor.Bol
