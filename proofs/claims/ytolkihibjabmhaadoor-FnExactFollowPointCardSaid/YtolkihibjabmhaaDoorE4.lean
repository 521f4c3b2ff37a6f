/- What the exact laws of stage 4 share. -/
import Derived.Test.YtolkihibjabmhaaDoorIm8
import Derived.Test.YtolkihibjabmhaaDoorChain5
import Derived.Test.YtolkihibjabmhaaDoorOpen3
import Derived.Test.YtolkihibjabmhaaDoorEArmValid
namespace Go.Proofs.YtolkihibjabmhaaDoor
set_option maxRecDepth 100000
open Go.RowKit
theorem keepE {w u : World} {b p : Nat} {x y z : Value} {s t : Int} (h : Below w.heap.size w u) (A : AtA w b x y z) (B : AtP w p s t) :
    u.cell? ⟨b, 0, none⟩ = some x ∧ u.cell? ⟨b, 1, none⟩ = some y ∧ u.cell? ⟨b, 2, none⟩ = some z ∧ u.cell? ⟨p, 0, none⟩ = some (.int .i64 s) ∧ u.cell? ⟨p, 1, none⟩ = some (.int .i64 t) :=
  ⟨(A.next h).c0, (A.next h).c1, (A.next h).c2, (B.next h).c0, (B.next h).c1⟩
theorem toPointR (x y : Int) (w0 w : World) (hw : Below w0.heap.size w0 w) :
    Calls Tryd.prog 42 #[pt x y] w fun e w' => e = .returned (pt x y) ∧ Below w0.heap.size w0 w' :=
  (toPoint x y w).mono fun _ _ ⟨he, hb⟩ => ⟨he, below_call hw hb⟩
theorem solveV_len (ls lo hi : List Int) (tx ty : Int) : (solveV ls lo hi tx ty).length ≤ 4 := by
  unfold solveV
  split
  · cases solveP ls lo hi tx ty <;> simp [pairL]
  · simp
theorem stepsV_len (ls lo hi js : List Int) (tx ty : Int) : (stepsV ls lo hi js tx ty).length ≤ 4 := by
  unfold stepsV
  split
  · rename_i h
    rw [stepV_len]
    have := h.1.2.1; have := h.1.1.2.1; omega
  · simp
theorem followV_len (ls lo hi js : List Int) (tx ty st : Int) : (followV ls lo hi js tx ty st).length ≤ 4 := by
  unfold followV
  split
  · rename_i h
    rw [followM_len]
    have := h.1.2.1; have := h.1.1.2.1; omega
  · simp
end Go.Proofs.YtolkihibjabmhaaDoor
