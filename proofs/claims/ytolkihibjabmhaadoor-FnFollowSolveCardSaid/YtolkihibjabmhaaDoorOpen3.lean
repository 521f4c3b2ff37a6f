/- Opening a law's arguments: a slice of whole numbers, and an arm of three of them. -/
import Derived.Test.YtolkihibjabmhaaDoorArmH
import Derived.OpenShut
import Derived.Lib.SmallJoins
namespace Go.Proofs.YtolkihibjabmhaaDoor
set_option maxRecDepth 100000
open Go.ChangeShapes Go.WideShapes Go.ChangeAt Go.RowKit Go.Joins

/-- The numbers fit. -/
def Fit (zs : List Int) : Prop := ∀ i, -9223372036854775808 ≤ zs.getD i 0 ∧ zs.getD i 0 ≤ 9223372036854775807
theorem ints_of {H : Type} {enc : TypeId × Value → H} {W : World} {v : Value} {n : Nat} {y : DataW H × List MemPlace} (hf : DataW.trod enc Tryd.prog W 0 (fun _ => true) true n 23 [v] = some y) :
    ∃ (s : Sl) (zs : List Int), v = .slice s.a s.len s.cap ∧ IntsAt W s.a s.len zs ∧ Fit zs ∧ s.len ≤ 9223372036854775807 := by
  rcases open_ints Tryd.underlying23 Tryd.underlying3 (by kernel_rfl) hf with ⟨hcs, _⟩ | ⟨x, l, c, zs, hcs, _, hl, hm, hz, _, hcell, hwz⟩
  · simp at hcs
    subst hcs
    exact ⟨⟨none, 0, 0⟩, [], rfl, ⟨rfl, .inl rfl⟩, fun i => by simp, Nat.zero_le _⟩
  · simp at hcs
    subst hcs
    unfold maxLen at hm
    have hz' : zs.length = c := by simpa using hz
    refine ⟨⟨some x, l, c⟩, zs.take l, rfl, ⟨by simp; omega, ?_⟩, ?_, by simp only; omega⟩
    · by_cases h0 : l = 0
      · left; subst h0; simp
      · right
        obtain ⟨b, off, spot⟩ := x
        have hc := hcell 0 (by omega)
        have hspot : spot = none := by simpa [Addr.add] using World.cell?_spot hc
        subst hspot
        refine ⟨b, off, rfl, World.block_lt_of_cell? W ⟨b, off + 0, none⟩ (by simpa [Addr.add] using hc), fun i hi => ?_⟩
        simp at hi
        have hi' := hcell i (by omega)
        have e : (zs.take l).getD i 0 = zs.getD i 0 := by rw [List.getD_eq_getElem?_getD, List.getD_eq_getElem?_getD, List.getElem?_take_of_lt (by omega)]
        rw [e]
        by_cases h1 : i = 0
        · subst h1; simpa [Addr.add] using hi'
        · simpa [Addr.add, h1] using hi'
    · intro i
      rw [List.getD_eq_getElem?_getD, List.getElem?_take]
      split
      · by_cases hi : i < zs.length
        · rw [List.getElem?_eq_getElem hi]
          exact bounds_i64 (hwz _ (List.getElem_mem hi))
        · rw [List.getElem?_eq_none (by omega)]; simp
      · simp
theorem open_intsArg {H : Type} {enc : TypeId × Value → H} {W : World} {base : Nat} {v : Value} {d : DataW H} {p : List MemPlace} (hv : Value.okWide Tryd.prog W .any base 23 v) (h : DataW.Trod enc Tryd.prog W 0 (fun _ => true) true 23 v d p) :
    ∃ (s : Sl) (zs : List Int), v = .slice s.a s.len s.cap ∧ IntsAt W s.a s.len zs ∧ Fit zs ∧ s.len ≤ 9223372036854775807 := by
  obtain ⟨a, len, cap, rfl⟩ := okWide_slice Tryd.underlying23 hv
  obtain ⟨fuel, hf⟩ := h
  exact ints_of (y := (d, p)) (n := fuel) (by simpa [Value.cells] using hf)
theorem cellsArm : Tryd.prog.cellsOf 37 = 3 := by kernel_rfl
theorem open_arm {H : Type} {enc : TypeId × Value → H} {W : World} {base : Nat} {v : Value} {d : DataW H} {p : List MemPlace} (hv : Value.okWide Tryd.prog W .any base 37 v) (h : DataW.Trod enc Tryd.prog W 0 (fun _ => true) true 37 v d p) :
    ∃ (x y z : Sl) (ls lo hi : List Int), v = av x y z ∧ IntsAt W x.a x.len ls ∧ IntsAt W y.a y.len lo ∧ IntsAt W z.a z.len hi ∧ Fit ls ∧ Fit lo ∧ Fit hi ∧ x.len ≤ 9223372036854775807 ∧ y.len ≤ 9223372036854775807 ∧ z.len ≤ 9223372036854775807 := by
  obtain ⟨c0, c1, c2, y0, y1, y2, n, rfl, rfl, rfl, h0, h1, h2⟩ := open_agg3 Tryd.underlying37 (by kernel_rfl) cellsArm hv h
  obtain ⟨x, ls, rfl, a1, a2, a3⟩ := ints_of h0
  obtain ⟨y, lo, rfl, b1, b2, b3⟩ := ints_of h1
  obtain ⟨z, hi, rfl, c1, c2, c3⟩ := ints_of h2
  exact ⟨x, y, z, ls, lo, hi, rfl, a1, b1, c1, a2, b2, c2, a3, b3, c3⟩
end Go.Proofs.YtolkihibjabmhaaDoor
