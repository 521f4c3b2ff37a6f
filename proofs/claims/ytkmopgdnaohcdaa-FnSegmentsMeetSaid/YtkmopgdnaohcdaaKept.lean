/- Regions that draw their order, read, and call what makes memory and hands back a plain value: one walk in the text's order. -/
import Derived.Test.YtkmopgdnaohcdaaArmH
import Derived.Deep.Quiet
import Derived.BigQuiet
namespace Go.Proofs.Ytkmopgdnaohcdaa
set_option maxRecDepth 100000
open Go.RowKit

/-- A world in which all that lay in w lies as it lay. -/
structure Kept (w : World) where
  u : World
  b : Below w.heap.size w u
instance (w : World) : Nonempty (Kept w) := ⟨⟨w, Below.refl _ _⟩⟩
theorem wp_region_kept {P : Program} {id : Nat} {Q : Exit → Act → World → Prop} {a : Act} {w : World} {l : List Oper} (hm : P.follows .mixedOrders = true) (hB : Region.lexB .any l.toArray = true)
    (h : wpQuiet P l.toArray (fun w' => ∃ n : Kept w, w' = n.u) (fun a' => ∀ w', (∃ n : Kept w, w' = n.u) → Q .normal a' w') l a) : (Code.region id l.toArray true).wp P Q a w :=
  wp_region_quiet (C := fun w' => ∃ n : Kept w, w' = n.u) hm hB ⟨⟨_, (Below.refl _ _).drew⟩, rfl⟩ (by simpa using h)
theorem keptCall {P : Program} {f : FuncId} {args : Array Value} {w : World} {n : Kept w} {v : Value} (h : Calls P f args n.u fun e w' => e = .returned v ∧ Below n.u.heap.size n.u w') :
    Calls P f args n.u fun e w'' => e = .returned v ∧ ∃ m : Kept w, w'' = m.u :=
  h.mono fun _ w' ⟨he, hb⟩ => ⟨he, ⟨w', below_call n.b hb⟩, rfl⟩
theorem keptSame {P : Program} {f : FuncId} {args : Array Value} {w : World} {n : Kept w} {v : Value} (h : Calls P f args n.u fun e w' => e = .returned v ∧ n.u = w') :
    Calls P f args n.u fun e w'' => e = .returned v ∧ ∃ m : Kept w, w'' = m.u :=
  h.mono fun _ _ ⟨he, hb⟩ => ⟨he, n, hb.symm⟩
theorem keptCell {w : World} {b o : Nat} {x : Value} (hb : b < w.heap.size) (h : w.cell? ⟨b, o, none⟩ = some x) : ∀ n : Kept w, n.u.cell? ⟨b, o, none⟩ = some x :=
  fun n => (n.b.cell (p := ⟨b, o, none⟩) hb).trans h
theorem AtA.kepts {w : World} {b : Nat} {x y z : Value} (h : AtA w b x y z) : (∀ n : Kept w, n.u.cell? ⟨b, 0, none⟩ = some x) ∧ (∀ n : Kept w, n.u.cell? ⟨b, 1, none⟩ = some y) ∧ (∀ n : Kept w, n.u.cell? ⟨b, 2, none⟩ = some z) :=
  ⟨keptCell h.lt h.c0, keptCell h.lt h.c1, keptCell h.lt h.c2⟩
theorem AtP.kepts {w : World} {b : Nat} {x y : Int} (h : AtP w b x y) : (∀ n : Kept w, n.u.cell? ⟨b, 0, none⟩ = some (.int .i64 x)) ∧ (∀ n : Kept w, n.u.cell? ⟨b, 1, none⟩ = some (.int .i64 y)) :=
  ⟨keptCell h.lt h.c0, keptCell h.lt h.c1⟩
end Go.Proofs.Ytkmopgdnaohcdaa
