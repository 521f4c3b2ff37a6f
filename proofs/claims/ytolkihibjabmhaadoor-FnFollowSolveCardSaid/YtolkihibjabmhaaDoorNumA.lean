/- Plain facts on arms: sums and greatest of lengths. -/
import Derived.Test.YtolkihibjabmhaaDoorNum
namespace Go.Proofs.YtolkihibjabmhaaDoor
set_option maxRecDepth 100000
/-- The sum of the first k numbers. -/
def sumN (ls : List Int) : Nat → Int
  | 0 => 0
  | k + 1 => sumN ls k + ls.getD k 0
/-- The greatest of the first k numbers, at least 0. -/
def mostN (ls : List Int) : Nat → Int
  | 0 => 0
  | k + 1 => max (mostN ls k) (ls.getD k 0)
theorem sumN_bd (ls : List Int) (h : ∀ k, k < ls.length → 1 ≤ ls.getD k 0 ∧ ls.getD k 0 ≤ 500) (k : Nat) (hk : k ≤ ls.length) : 0 ≤ sumN ls k ∧ sumN ls k ≤ 500 * k ∧ 0 ≤ mostN ls k ∧ mostN ls k ≤ sumN ls k := by
  induction k with
  | zero => simp [sumN, mostN]
  | succ k ih =>
    have := ih (by omega)
    have := h k (by omega)
    simp only [sumN, mostN]
    omega
def farV (ls : List Int) : Int := sumN ls ls.length
def nearV (ls : List Int) : Int := max 0 (2 * mostN ls ls.length - sumN ls ls.length)
end Go.Proofs.YtolkihibjabmhaaDoor
