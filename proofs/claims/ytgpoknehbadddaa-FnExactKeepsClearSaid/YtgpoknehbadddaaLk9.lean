/- The functions on clearance, of the program and of the document, in the same words. -/
import Derived.Test.YtgpoknehbadddaaSp9
import Derived.Test.YtgpoknehbadddaaLk8
import Derived.Test.YtgpoknehbadddaaIc9
namespace Go.Proofs.Ytgpoknehbadddaa
set_option maxRecDepth 100000
open Go.RowKit
theorem iSqE (p a b : P2) (n : Int) (hn : ssV p a b = n) (w : World) :
    Calls Try.prog 11 #[pt p.1 p.2, pt a.1 a.2, pt b.1 b.2] w fun e w' => e = .returned (.int .i64 n) ∧ Below w.heap.size w w' := by
  subst hn; exact iSq p a b w
theorem iPqE (a : Option Addr) (len cap : Nat) (ps : List P2) (p : P2) (n : Int) (hn : psV ps p = n) (w : World) (hp : PL w a len ps) (hl : len ≤ 9223372036854775807) :
    Calls Try.prog 16 #[.slice a len cap, pt p.1 p.2] w fun e w' => e = .returned (.int .i64 n) ∧ Below w.heap.size w w' := by
  subst hn; exact iPq a len cap ps p w hp hl
theorem iKcE (a : Option Addr) (len cap : Nat) (pss : List (List P2)) (p : P2) (d : Int) (v : Bool) (hv : decide (clr9 pss p d) = v) (w : World) (hp : PSS w a len pss) (hl : len ≤ 9223372036854775807) :
    Calls Try.prog 21 #[.slice a len cap, pt p.1 p.2, .int .i64 d] w fun e w' => e = .returned (.bool v) ∧ Below w.heap.size w w' := by
  subst hv; exact iKc a len cap pss p d w hp hl
end Go.Proofs.Ytgpoknehbadddaa
