/- The program's links: one slice of structs for a valid arm, nil for an invalid one. -/
import Derived.Test.YtolkihibjabmhaaDoorArm3
import Derived.Test.YtolkihibjabmhaaDoorArm3c
import Derived.Deep.RegionHeld3
import Derived.Laws.MakeOwn
namespace Go.Proofs.YtolkihibjabmhaaDoor
set_option maxRecDepth 100000
open Go.RowKit
attribute [local go_sem ↓] Go.wp_at_zero Go.wp_at_succ

/-- A link's value. -/
abbrev lk (l o h : Int) : Value := .agg #[.int .i64 l, .int .i64 o, .int .i64 h]
theorem linkValidY (l o h : Int) (w : World) (hk : okLink l o h) :
    Calls Tryd.prog 85 #[lk l o h] w fun e w' => e = .returned (.bool true) ∧ Below w.heap.size w w' := by
  obtain ⟨k1, k2, k3, k4, k5, k6⟩ := hk
  have HB := Lib.hid (below_box w (.cells #[.int .i64 l, .int .i64 o, .int .i64 h] 82))
  go_enter Tryd.func85, Tryd.ntmps85
  go_wp2
  go_ret
  exact ⟨rfl, HB.out⟩
theorem linkValidN (l o h : Int) (w : World) (hk : ¬ okLink l o h) :
    Calls Tryd.prog 85 #[lk l o h] w fun e w' => e = .returned (.bool false) ∧ Below w.heap.size w w' := by
  have HB := Lib.hid (below_box w (.cells #[.int .i64 l, .int .i64 o, .int .i64 h] 82))
  have HK := Lib.hid hk
  clear hk
  by_cases k1 : 1 ≤ l
  · by_cases k2 : l ≤ 500
    · by_cases k3 : -180 ≤ o
      · by_cases k4 : o ≤ h
        · have k5 : decide (h ≤ 180) = false := decide_eq_false fun k5 => HK.out ⟨k1, k2, k3, by omega, k4, k5⟩
          go_enter Tryd.func85, Tryd.ntmps85
          go_wp2
          go_ret
          exact ⟨rfl, HB.out⟩
        · replace k4 : decide (o ≤ h) = false := decide_eq_false k4
          go_enter Tryd.func85, Tryd.ntmps85
          go_wp2
          go_ret
          exact ⟨rfl, HB.out⟩
      · replace k3 : decide (-180 ≤ o) = false := decide_eq_false k3
        go_enter Tryd.func85, Tryd.ntmps85
        go_wp2
        go_ret
        exact ⟨rfl, HB.out⟩
    · replace k2 : decide (l ≤ 500) = false := decide_eq_false k2
      go_enter Tryd.func85, Tryd.ntmps85
      go_wp2
      go_ret
      exact ⟨rfl, HB.out⟩
  · replace k1 : decide (1 ≤ l) = false := decide_eq_false k1
    go_enter Tryd.func85, Tryd.ntmps85
    go_wp2
    go_ret
    exact ⟨rfl, HB.out⟩
theorem nearest (l o h d : Int) (w : World) :
    Calls Tryd.prog 103 #[lk l o h, .int .i64 d] w fun e w' => e = .returned (.int .i64 (clip d o h)) ∧ Below w.heap.size w w' := by
  have HB := Lib.hid (below_box w (.cells #[.int .i64 l, .int .i64 o, .int .i64 h] 82))
  have HE := Lib.hid (show clip d o h = max o (min h d) from rfl)
  go_enter Tryd.func103, Tryd.ntmps103
  go_wp2
  all_goals
    go_ret
    exact ⟨ret_int (by rw [HE.out]; omega), HB.out⟩
theorem clip_in {d o h : Int} (h1 : o ≤ d) (h2 : d ≤ h) : clip d o h = d := by unfold clip; omega
theorem clip_ne {d o h : Int} (hk : ¬ (o ≤ d ∧ d ≤ h)) (hr : o ≤ h) : clip d o h ≠ d := by unfold clip; omega
theorem linkAllowsY (l o h d : Int) (w : World) (h1 : o ≤ d) (h2 : d ≤ h) :
    Calls Tryd.prog 87 #[lk l o h, .int .i64 d] w fun e w' => e = .returned (.bool true) ∧ Below w.heap.size w w' := by
  have HB := Lib.hid (below_box w (.cells #[.int .i64 l, .int .i64 o, .int .i64 h] 82))
  have e0 : (d == d) = true := by simp
  have HE := Lib.hid (clip_in h1 h2)
  clear h1 h2
  go_enter Tryd.func87, Tryd.ntmps87
  go_wp2_with fail
  refine (nearest l o h d _).mono ?_
  rw [HE.out]
  rintro e w1 ⟨rfl, B1⟩
  have HB1 := Lib.hid (below_call HB.out B1)
  clear B1
  go_wp2
  go_ret
  exact ⟨rfl, HB1.out⟩
theorem linkAllowsN (l o h d : Int) (w : World) (hr : o ≤ h) (hk : ¬ (o ≤ d ∧ d ≤ h)) :
    Calls Tryd.prog 87 #[lk l o h, .int .i64 d] w fun e w' => e = .returned (.bool false) ∧ Below w.heap.size w w' := by
  have HB := Lib.hid (below_box w (.cells #[.int .i64 l, .int .i64 o, .int .i64 h] 82))
  have HE := Lib.hid (clip_ne hk hr)
  clear hk hr
  go_enter Tryd.func87, Tryd.ntmps87
  go_wp2_with fail
  refine (nearest l o h d _).mono ?_
  rintro e w1 ⟨rfl, B1⟩
  have HB1 := Lib.hid (below_call HB.out B1)
  have e0 : (clip d o h == d) = false := by simpa using HE.out
  generalize clip d o h = c at *
  clear B1
  go_wp2
  go_ret
  exact ⟨rfl, HB1.out⟩
/-- The cells of the links, k of them there. -/
def fld (ls lo hi : List Int) (i j : Nat) : Int := if j = 0 then ls.getD i 0 else if j = 1 then lo.getD i 0 else hi.getD i 0
def lpart (ls lo hi : List Int) (n k : Nat) : List Value := (List.range (n * 3)).map fun (j : Nat) => Value.int .i64 (if j / 3 < k then fld ls lo hi (j / 3) (j % 3) else 0)
theorem lpart_len (ls lo hi : List Int) (n k : Nat) : (lpart ls lo hi n k).length = n * 3 := by simp [lpart]
theorem lpart_at (ls lo hi : List Int) (n k j : Nat) (h : j < n * 3) : (lpart ls lo hi n k)[j]? = some (Value.int .i64 (if j / 3 < k then fld ls lo hi (j / 3) (j % 3) else 0)) := by
  unfold lpart; rw [List.getElem?_map, List.getElem?_range h]; rfl
theorem lpart_set (ls lo hi : List Int) (n k : Nat) :
    (((lpart ls lo hi n k).set (k * 3) (.int .i64 (ls.getD k 0))).set (k * 3 + 1) (.int .i64 (lo.getD k 0))).set (k * 3 + 2) (.int .i64 (hi.getD k 0)) = lpart ls lo hi n (k + 1) := by
  apply List.ext_getElem?
  intro j
  by_cases hj : j < n * 3
  · rw [List.getElem?_set, List.getElem?_set, List.getElem?_set, lpart_at ls lo hi n k j hj, lpart_at ls lo hi n (k + 1) j hj]
    simp only [List.length_set, lpart_len]
    by_cases h2 : k * 3 + 2 = j
    · subst h2
      rw [if_pos rfl, if_pos hj, if_pos (by omega), show (k * 3 + 2) / 3 = k by omega, show (k * 3 + 2) % 3 = 2 by omega]; rfl
    · rw [if_neg h2]
      by_cases h1 : k * 3 + 1 = j
      · subst h1
        rw [if_pos rfl, if_pos hj, if_pos (by omega), show (k * 3 + 1) / 3 = k by omega, show (k * 3 + 1) % 3 = 1 by omega]; rfl
      · rw [if_neg h1]
        by_cases h0 : k * 3 = j
        · subst h0
          rw [if_pos rfl, if_pos hj, if_pos (by omega), show (k * 3) / 3 = k by omega, show (k * 3) % 3 = 0 by omega]; rfl
        · rw [if_neg h0]
          by_cases hq : j / 3 < k
          · rw [if_pos hq, if_pos (by omega)]
          · rw [if_neg hq, if_neg (by omega)]
  · rw [List.getElem?_eq_none (by simp [lpart_len]; omega), List.getElem?_eq_none (by rw [lpart_len]; omega)]
theorem lpart_made (ls lo hi : List Int) (n : Nat) : (madeCells (lk 0 0 0).cells (n * 3)).toList = lpart ls lo hi n 0 := by
  unfold lpart madeCells
  show (Array.map _ (Array.range (n * 3))).toList = _
  rw [Array.toList_map, Array.toList_range]
  apply List.map_congr_left
  intro j _
  have hm : j % 3 = 0 ∨ j % 3 = 1 ∨ j % 3 = 2 := by omega
  show (#[Value.int .i64 0, Value.int .i64 0, Value.int .i64 0] : Array Value)[j % 3]! = _
  rcases hm with h | h | h <;> rw [h] <;> simp
/-- The links lie in block b. -/
structure ChainAt (w : World) (b n : Nat) (ls lo hi : List Int) : Prop where
  lt : b < w.heap.size
  c : ∀ i, i < n → w.cell? ⟨b, i * 3, none⟩ = some (.int .i64 (ls.getD i 0)) ∧ w.cell? ⟨b, i * 3 + 1, none⟩ = some (.int .i64 (lo.getD i 0)) ∧ w.cell? ⟨b, i * 3 + 2, none⟩ = some (.int .i64 (hi.getD i 0))
theorem ChainAt.next {w w' : World} {b n : Nat} {ls lo hi : List Int} (h : ChainAt w b n ls lo hi) (hb : Below w.heap.size w w') : ChainAt w' b n ls lo hi :=
  ⟨Nat.lt_of_lt_of_le h.lt hb.size, fun i hi => ⟨(hb.cell (p := ⟨b, i * 3, none⟩) h.lt).trans (h.c i hi).1, (hb.cell (p := ⟨b, i * 3 + 1, none⟩) h.lt).trans (h.c i hi).2.1, (hb.cell (p := ⟨b, i * 3 + 2, none⟩) h.lt).trans (h.c i hi).2.2⟩⟩
theorem chainAt_of {w : World} {B g n cap t : Nat} {ls lo hi : List Int} (h : w.ownsRow B t 3 (.slice (some ⟨g, 0, none⟩) n cap) n (lpart ls lo hi n n)) : ChainAt w g n ls lo hi := by
  refine ⟨(World.ownsRow.lt h g rfl).2, fun i hi' => ?_⟩
  have c0 := h.cellAt (i * 3) (by omega)
  have c1 := h.cellAt (i * 3 + 1) (by omega)
  have c2 := h.cellAt (i * 3 + 2) (by omega)
  rw [lpart_at ls lo hi n n _ (by omega), if_pos (by omega)] at c0 c1 c2
  rw [show (i * 3) / 3 = i by omega, show (i * 3) % 3 = 0 by omega] at c0
  rw [show (i * 3 + 1) / 3 = i by omega, show (i * 3 + 1) % 3 = 1 by omega] at c1
  rw [show (i * 3 + 2) / 3 = i by omega, show (i * 3 + 2) % 3 = 2 by omega] at c2
  exact ⟨c0, c1, c2⟩
/-- What making the links says: they are there for a valid arm, and nil for an invalid one. -/
def Chained (ls lo hi : List Int) (w : World) (e : Ending) (w' : World) : Prop :=
  Below w.heap.size w w' ∧ ((okArm ls lo hi ∧ ∃ b, e = .returned (.slice (some ⟨b, 0, none⟩) ls.length ls.length) ∧ w.heap.size ≤ b ∧ ChainAt w' b ls.length ls lo hi) ∨ (¬ okArm ls lo hi ∧ e = .returned (.slice none 0 0)))
theorem infoLink : (Tryd.prog.info? 82).map (fun i => (i.zero, i.size, i.bytes)) = some (some (lk 0 0 0), 3, 24) := by kernel_rfl
end Go.Proofs.YtolkihibjabmhaaDoor
