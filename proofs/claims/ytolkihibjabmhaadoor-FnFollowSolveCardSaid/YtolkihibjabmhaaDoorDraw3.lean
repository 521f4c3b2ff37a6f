/- What the laws over arms draw: an arm. -/
import Derived.Test.YtolkihibjabmhaaDoorDrawB
namespace Go.Proofs.YtolkihibjabmhaaDoor
set_option maxRecDepth 100000
open Go.RowKit
attribute [local go_sem ↓] Go.wp_at_zero Go.wp_at_succ
/-- A drawn arm: its lists are short, its numbers small; nothing that was there has changed. -/
def GotArm (w : World) (e : Ending) (w' : World) : Prop :=
  ∃ (x y z : Sl) (ls lo hi : List Int), e = .returned (av x y z) ∧ IntsAt w' x.a x.len ls ∧ IntsAt w' y.a y.len lo ∧ IntsAt w' z.a z.len hi ∧ x.len ≤ 5 ∧ y.len ≤ 4 ∧ z.len ≤ 4 ∧ x.len ≤ x.cap ∧ y.len ≤ y.cap ∧ z.len ≤ z.cap ∧ Sm 2000 ls ∧ Sm 2000 lo ∧ Sm 2000 hi ∧ Below w.heap.size w w'
theorem below_of' {w w1 w2 : World} {r : Nat} (hb : Below w.heap.size w w1) (hg : w1.grownBy w2 (some r)) (hr : w.heap.size ≤ r) : Below w.heap.size w w2 :=
  hb.grown hg hb.size (fun k hk => by injection hk with hk; omega)
end Go.Proofs.YtolkihibjabmhaaDoor
