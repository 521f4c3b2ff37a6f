/- A law's argument that is a slice of points: opened; measured and copied by the laws' own helpers. -/
import Derived.Test.YtkogoflcacameaaDoorZbRow
import Derived.Test.YtkogoflcacameaaDoorZbNum
import Derived.OpenShut
import Derived.Lib.SmallJoins
import Derived.Deep.SlicePairs
namespace Go.Proofs.YtkogoflcacameaaDoor
set_option maxRecDepth 100000
open Go.ChangeShapes Go.WideShapes Go.ChangeAt Go.RowKit Go.Joins
attribute [local go_sem ↓] Go.wp_at_zero Go.wp_at_succ
/-- A slice reads as the points ps, wherever in its block it begins. -/
def PtsIn (w : World) (a : Option Addr) (len : Nat) (ps : List (Int × Int)) : Prop :=
  len = ps.length ∧ (ps = [] ∨ ∃ b off, a = some ⟨b, off, none⟩ ∧ b < w.heap.size ∧ ∀ i, i < ps.length → w.cell? ⟨b, off + i * 2, none⟩ = some (.int .i64 (pX ps i)) ∧ w.cell? ⟨b, off + i * 2 + 1, none⟩ = some (.int .i64 (pY ps i)))
theorem PtsIn.next {w w' : World} {a : Option Addr} {len : Nat} {ps : List (Int × Int)} (h : PtsIn w a len ps) (hb : Below w.heap.size w w') : PtsIn w' a len ps :=
  ⟨h.1, h.2.imp id fun ⟨b, off, h1, h2, h3⟩ => ⟨b, off, h1, Nat.lt_of_lt_of_le h2 hb.size, fun i hi => ⟨(hb.cell (p := ⟨b, off + i * 2, none⟩) h2).trans (h3 i hi).1, (hb.cell (p := ⟨b, off + i * 2 + 1, none⟩) h2).trans (h3 i hi).2⟩⟩⟩
/-- The coordinates fit. -/
def FitP (ps : List (Int × Int)) : Prop := ∀ i, (-9223372036854775808 ≤ pX ps i ∧ pX ps i ≤ 9223372036854775807) ∧ -9223372036854775808 ≤ pY ps i ∧ pY ps i ≤ 9223372036854775807
theorem ptsMk7 (f g : Nat → Int) (n i : Nat) (h : i < n) : pX ((List.range n).map fun (k : Nat) => (f k, g k)) i = f i ∧ pY ((List.range n).map fun (k : Nat) => (f k, g k)) i = g i := by
  unfold pX pY
  rw [List.getD_eq_getElem?_getD, List.getElem?_map, List.getElem?_range h]
  exact ⟨rfl, rfl⟩
theorem cellsPtL : Tryd.prog.cellsOf 102 = 2 := by kernel_rfl
theorem cellsIntL : Tryd.prog.cellsOf 3 = 1 := by kernel_rfl
theorem pts_of {H : Type} {enc : TypeId × Value → H} {W : World} {v : Value} {n : Nat} {y : DataW H × List MemPlace} (hf : DataW.trod enc Tryd.prog W 0 (fun _ => true) true n 70 [v] = some y) :
    ∃ (s : Sl) (ps : List (Int × Int)), v = .slice s.a s.len s.cap ∧ PtsIn W s.a s.len ps ∧ FitP ps ∧ s.len ≤ 9223372036854775807 := by
  rcases Go.Deep.open_slice_pairs Tryd.underlying70 Tryd.underlying102 cellsPtL rfl rfl cellsIntL cellsIntL hf with ⟨hcs, _⟩ | ⟨x, l, c, m, n', V0, V1, D0, D1, P0, P1, hcs, _, hl, hm, hmm, _, hx⟩
  · simp at hcs
    subst hcs
    exact ⟨⟨none, 0, 0⟩, [], rfl, ⟨rfl, .inl rfl⟩, fun i => by unfold pX pY; simp, Nat.zero_le _⟩
  · simp at hcs
    subst hcs
    unfold maxLen at hm
    simp only [if_true] at hmm
    have each : ∀ i, i < l → (∃ z, V0 i = .int .i64 z ∧ (Lit.int .i64 z).wf = true) ∧ ∃ z, V1 i = .int .i64 z ∧ (Lit.int .i64 z).wf = true := fun i hi => by
      obtain ⟨_, _, h0, h1⟩ := hx i (by omega)
      obtain ⟨z0, e0, _, w0⟩ := DataW.trod_int Tryd.underlying3 h0
      obtain ⟨z1, e1, _, w1⟩ := DataW.trod_int Tryd.underlying3 h1
      simp at e0 e1
      exact ⟨⟨z0, e0, w0⟩, z1, e1, w1⟩
    refine ⟨⟨some x, l, c⟩, (List.range l).map fun (k : Nat) => (intOf (V0 k), intOf (V1 k)), rfl, ⟨by simp, ?_⟩, ?_, by simp only; omega⟩
    · by_cases h0 : l = 0
      · left; subst h0; simp
      · right
        obtain ⟨b, off, spot⟩ := x
        have hc := (hx 0 (by omega)).1
        have hspot : spot = none := by simpa [Addr.add] using World.cell?_spot hc
        subst hspot
        refine ⟨b, off, rfl, World.block_lt_of_cell? W ⟨b, off + 0, none⟩ (by simpa [Addr.add] using hc), fun i hi => ?_⟩
        simp at hi
        obtain ⟨k0, k1, _, _⟩ := hx i (by omega)
        obtain ⟨⟨z0, e0, _⟩, z1, e1, _⟩ := each i hi
        obtain ⟨q0, q1⟩ := ptsMk7 (fun k => intOf (V0 k)) (fun k => intOf (V1 k)) l i hi
        rw [q0, q1]
        simp only [e0, e1, intOf]
        rw [e0] at k0
        rw [e1] at k1
        refine ⟨?_, ?_⟩
        · by_cases h1 : i = 0
          · subst h1; simpa [Addr.add] using k0
          · have h2 : ¬ i * 2 = 0 := by omega
            simpa [Addr.add, h2] using k0
        have e : off + i * 2 + 1 = off + (i * 2 + 1) := by omega
        rw [e]
        simpa [Addr.add] using k1
    · intro i
      by_cases hi : i < l
      · obtain ⟨⟨z0, e0, w0⟩, z1, e1, w1⟩ := each i hi
        obtain ⟨q0, q1⟩ := ptsMk7 (fun k => intOf (V0 k)) (fun k => intOf (V1 k)) l i hi
        rw [q0, q1]
        simp only [e0, e1, intOf]
        exact ⟨bounds_i64 w0, bounds_i64 w1⟩
      · unfold pX pY
        rw [List.getD_eq_getElem?_getD, List.getElem?_eq_none (by simp; omega)]
        simp
theorem open_ptsArg {H : Type} {enc : TypeId × Value → H} {W : World} {base : Nat} {v : Value} {d : DataW H} {p : List MemPlace} (hv : Value.okWide Tryd.prog W .any base 70 v) (h : DataW.Trod enc Tryd.prog W 0 (fun _ => true) true 70 v d p) :
    ∃ (s : Sl) (ps : List (Int × Int)), v = .slice s.a s.len s.cap ∧ PtsIn W s.a s.len ps ∧ FitP ps ∧ s.len ≤ 9223372036854775807 := by
  obtain ⟨a, len, cap, rfl⟩ := okWide_slice Tryd.underlying70 hv
  obtain ⟨fuel, hf⟩ := h
  exact pts_of (y := (d, p)) (n := fuel) (by simpa [Value.cells] using hf)
theorem szPointS (a : Option Addr) (len cap : Nat) (left : Int) (w : World) (h0 : 0 ≤ left) (h1 : left ≤ 1048576) (hl : len ≤ 9223372036854775807) :
    Calls Tryd.prog 38 #[.slice a len cap, .int .i64 left] w fun e w' => e = .returned (.int .i64 (if left < len then -1 else left - len)) ∧ w = w' := by
  by_cases h : left < len
  · rw [if_pos h]
    go_enter Tryd.func38, Tryd.ntmps38
    go_wp2
    go_ret
    exact ⟨rfl, rfl⟩
  · rw [if_neg h]
    go_enter Tryd.func38, Tryd.ntmps38
    go_wp2
    go_ret
    exact ⟨rfl, rfl⟩
set_option maxHeartbeats 1000000 in
theorem toPointS (a : Option Addr) (len cap : Nat) (ps : List (Int × Int)) (w : World) (h : PtsIn w a len ps) (hl : len ≤ 1048576) :
    Calls Tryd.prog 40 #[.slice a len cap] w fun e w' => e = .returned (.slice (some ⟨w.heap.size, 0, none⟩) len len) ∧ OwnPt w' w.heap.size (.slice (some ⟨w.heap.size, 0, none⟩) len len) ps ∧ Below w.heap.size w w' := by
  obtain ⟨i0, hi0, hz0, hz1, hz2⟩ := info_parts infoPt6
  obtain ⟨hn, h2⟩ := h
  have HZ := Lib.hid (fun (k : Nat) => And.intro (cz0 ps k) (cz1 ps k))
  have HM := Lib.hid (made6 (cz ps) len)
  have HPS := Lib.hid (fun q => cpart_set (cz ps) (fun _ => 0) (len * 2) q)
  have HFIN := Lib.hid (show cpart (cz ps) (fun _ => 0) (len * 2) (len * 2) = pvals ps by have h := pvals_cpart ps (fun _ => 0); rw [← hn] at h; exact h.symm)
  have HLE := Lib.hid hn
  clear hn
  go_enter Tryd.func40, Tryd.ntmps40
  go_wp2_with (first
    | (at_make; refine wpList_make_full _ rfl _ _ 72 rfl w.heap.size 89 i0 (pt 0 0) 2 Tryd.underlying72 hi0 hz0 hz1 .i64 .i64 _ _ len rfl rfl (by omega) (by omega) (by rw [hz2]; omega) (by unfold maxLen; omega) (Nat.le_refl _) ?_; intro w1 own1 grow1))
  have own2 : w1.ownsRow w.heap.size 89 2 (.slice (some ⟨w.heap.size, 0, none⟩) len len) len (cpart (cz ps) (fun _ => 0) (len * 2) (0 * 2)) := by rw [← HM.out]; exact own1
  have HG : Below w.heap.size w w1 := (Below.refl _ _).grown grow1 (Nat.le_refl _) (fun k hk => by cases hk)
  clear own1 grow1
  go_loopw [4] (fun i wr => ∃ k : Nat, k ≤ len ∧ i = .int .i64 (k : Int) ∧ Hid (wr.ownsRow w.heap.size 89 2 (.slice (some ⟨w.heap.size, 0, none⟩) len len) len (cpart (cz ps) (fun _ => 0) (len * 2) (k * 2))) ∧ Hid (Below w.heap.size w wr)) (fun i _ => len - (intOf i).toNat)
  case atStart => exact ⟨0, Nat.zero_le _, rfl, Lib.hid own2, Lib.hid HG⟩
  case round =>
    obtain ⟨k, hk, rfl, HO, HW⟩ := hrel
    clear own2 HG
    by_cases hlt : k < len
    · rcases h2 with h3 | ⟨b, off, rfl, ltb, hc⟩
      · rw [HLE.out, h3] at hlt; simp at hlt
      · obtain ⟨c0, c1⟩ := hc k (by have := HLE.out; omega)
        have d1 : wr.cell? ⟨b, off + k * 2, none⟩ = _ := (HW.out.cell (p := ⟨b, off + k * 2, none⟩) ltb).trans c0
        have d2 : wr.cell? ⟨b, off + k * 2 + 1, none⟩ = _ := (HW.out.cell (p := ⟨b, off + k * 2 + 1, none⟩) ltb).trans c1
        have j1 : (0 : Int) ≤ (k : Int) := by omega
        have j2 : (k : Int) < (len : Int) := by omega
        have Z := HZ.out k
        clear hc c0 c1
        change _ = pX ps k ∧ _ = pY ps k at Z
        generalize pX ps k = px at *
        generalize pY ps k = py at *
        go_wp2_with fail
        refine (toPoint px py _).mono ?_
        rintro e w2 ⟨rfl, B2⟩
        have HO2 := Lib.hid (World.ownsRow.kept (row := none) HO.out ⟨B2.os, B2.tape, B2.output, B2.size, fun k hk _ => B2.block k hk⟩ (.inr (by simp [Value.ownBlock])))
        have r1 := HO2.out.cellAt (k * 2) (by omega)
        rw [cpart_at _ _ _ _ _ (by omega)] at r1
        have r2 := HO2.out.frozenAt (k * 2)
        have r3 := HO2.out.cellAt (k * 2 + 1) (by omega)
        rw [cpart_at _ _ _ _ _ (by omega)] at r3
        have r4 := HO2.out.frozenAt (k * 2 + 1)
        have s1 := HO2.out.stored (k * 2) (.int .i64 px)
        have s2 := s1.1.stored (k * 2 + 1) (.int .i64 py)
        have HT := Lib.hid (And.intro s2.1 (s1.2.trans s2.2))
        rw [← Z.1, HPS.out (k * 2), ← Z.2, HPS.out (k * 2 + 1), Z.1, Z.2] at HT
        have HW2 := Lib.hid (below_call HW.out B2)
        clear s1 s2 Z B2 d1 d2
        go_wp2
        go_roundw
        case rel => exact ⟨k + 1, by omega, by congr 1, Lib.hid (by rw [show (k + 1) * 2 = k * 2 + 1 + 1 by omega]; exact HT.out.1), Lib.hid (HW2.out.grown HT.out.2 HW2.out.size (fun q hq => by injection hq with hq; omega))⟩
        case measure => simp [intOf]; omega
    · obtain rfl : k = len := by omega
      go_wp2
      go_ret
      refine ⟨rfl, ?_, HW.out⟩
      unfold OwnPt
      rw [← HFIN.out, ← HLE.out]
      exact HO.out
end Go.Proofs.YtkogoflcacameaaDoor
