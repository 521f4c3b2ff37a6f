/- The contracts of Midpoint, of the program and of the document. -/
import Derived.Test.YtkogoflcacameaaPts2
import Derived.StillTailTactics
namespace Go.Proofs.Ytkogoflcacameaa
set_option maxRecDepth 100000
open Go.RowKit

/-- A block of the call's own that holds a point. -/
structure OwnP (w : World) (b : Nat) (x y : Int) : Prop extends AtP w b x y where
  z0 : w.frozen? ⟨b, 0, none⟩ = false
  z1 : w.frozen? ⟨b, 1, none⟩ = false
theorem OwnP.next {w w' : World} {b : Nat} {x y : Int} (h : OwnP w b x y) (hb : Below w.heap.size w w') : OwnP w' b x y :=
  ⟨h.toAtP.next hb, (hb.frozen (p := ⟨b, 0, none⟩) h.lt).trans h.z0, (hb.frozen (p := ⟨b, 1, none⟩) h.lt).trans h.z1⟩
theorem OwnP.box (w : World) (x y : Int) (t : Nat) : OwnP (w.alloc (.cells #[.int .i64 x, .int .i64 y] t)) w.heap.size x y :=
  ⟨AtP.box w x y t, World.frozen?_alloc_at _ _ _ _ rfl, World.frozen?_alloc_at _ _ _ _ rfl⟩
theorem at2r (w : World) (ax ay bx b_y : Int) (t : Nat) : let w0 := ((w.alloc (.cells #[.int .i64 ax, .int .i64 ay] t)).alloc (.cells #[.int .i64 bx, .int .i64 b_y] t)).alloc (.cells #[.int .i64 0, .int .i64 0] t)
    AtP w0 w.heap.size ax ay ∧ AtP w0 (w.heap.size + 1) bx b_y ∧ OwnP w0 (w.heap.size + 1 + 1) 0 0 := by
  have h := at2 w ax ay bx b_y t
  refine ⟨h.1.alloc _, h.2.alloc _, ?_⟩
  have := OwnP.box ((w.alloc (.cells #[.int .i64 ax, .int .i64 ay] t)).alloc (.cells #[.int .i64 bx, .int .i64 b_y] t)) 0 0 t
  simpa using this
theorem stillOf {P : Program} {f : FuncId} {args : Array Value} {w : World} {v : Value} (h : Calls P f args w fun e w' => e = .returned v ∧ w = w') : Calls P f args w fun e w' => e = .returned v ∧ w' = w :=
  h.mono fun _ _ ⟨he, hw⟩ => ⟨he, hw.symm⟩
theorem pt_mid {ax ay bx b_y x y : Int} (hx : midX ax ay bx b_y = x) (hy : midY ax ay bx b_y = y) : Ending.returned (pt x y) = .returned (pt (midX ax ay bx b_y) (midY ax ay bx b_y)) := by rw [hx, hy]
theorem wrap_in {n : Int} (h0 : -9223372036854775808 ≤ n) (h1 : n ≤ 9223372036854775807) : IntKind.i64.wrap n = n := IntWalk.i64_in _ ⟨h0, h1⟩
theorem below_drew (w : World) : Below w.heap.size w w.drew := (Below.refl _ _).drew
theorem below_set {w w' : World} (h : Below w.heap.size w w') {b : Nat} (hb : w.heap.size ≤ b) (u v : Value) : Below w.heap.size w ((w'.setCell ⟨b, 0, none⟩ u).setCell ⟨b, 1, none⟩ v) :=
  (h.setCell (p := ⟨b, 0, none⟩) hb u).setCell (p := ⟨b, 1, none⟩) hb v
end Go.Proofs.Ytkogoflcacameaa
