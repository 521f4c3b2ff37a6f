/- Drawing points from a code. -/
import Derived.Test.YtlajpeoadgfobaaDoorDraw2
import Derived.Deep.RegionHeld3
namespace Go.Proofs.YtlajpeoadgfobaaDoor
set_option maxRecDepth 100000
open Go.RowKit
attribute [local go_sem ↓] Go.wp_at_zero Go.wp_at_succ

def small (x : Int) : Prop := -40000 ≤ x ∧ x ≤ 40000
def GotP (w : World) (e : Ending) (w' : World) : Prop := ∃ x y : Int, small x ∧ small y ∧ e = .returned (pt x y) ∧ Below w.heap.size w w'
def GotP2 (w : World) (e : Ending) (w' : World) : Prop := ∃ x y x2 y2 : Int, (small x ∧ small y ∧ small x2 ∧ small y2) ∧ e = .returned (.tuple #[pt x y, pt x2 y2]) ∧ Below w.heap.size w w'
def GotP3 (w : World) (e : Ending) (w' : World) : Prop :=
  ∃ x y x2 y2 x3 y3 : Int, (small x ∧ small y ∧ small x2 ∧ small y2 ∧ small x3 ∧ small y3) ∧ e = .returned (.tuple #[pt x y, pt x2 y2, pt x3 y3]) ∧ Below w.heap.size w w'
theorem small_of {x : Int} (h0 : -10001 ≤ x) (h1 : x ≤ 10001) : small x := by unfold small; omega
theorem bytes_box {w : World} {a : Option Addr} {len cap : Nat} {zs : List Int} (h : Bytes w a len cap zs) (o : Obj) : Bytes (w.alloc o) a len cap zs := h.below (below_box w o)
/-- Opening a reader, its block by another name. -/
theorem open_at (w : World) (a : Option Addr) (len cap : Nat) (zs : List Int) (h : Bytes w a len cap zs) (r : Nat) (hr : w.heap.size = r) :
    Calls Tryd.prog 23 #[.slice a len cap] w fun e w' => e = .returned (.pointer (some ⟨r, 0, none⟩)) ∧ Rd r 0 w' r ∧ Below w.heap.size w w' := by
  subst hr; exact (open_code w a len cap zs h).mono fun _ _ ⟨h1, h2, h3, _⟩ => ⟨h1, h2, h3⟩
theorem below_of' {w w0 w1 w2 : World} {r : Nat} (h0 : Below w.heap.size w w0) (hb : Below w0.heap.size w0 w1) (hr : w0.heap.size ≤ r) (hg : w1.grownBy w2 (some r)) : Below w.heap.size w w2 :=
  (below_call h0 hb).grown hg (Nat.le_trans h0.size hb.size) (fun k hk => by injection hk with hk; have := h0.size; omega)
theorem own2 (w : World) (t : Nat) : let w0 := (w.alloc (.cells #[.int .i64 0, .int .i64 0] t)).alloc (.cells #[.int .i64 0, .int .i64 0] t)
    OwnP w0 w.heap.size 0 0 ∧ OwnP w0 (w.heap.size + 1) 0 0 := by
  refine ⟨(OwnP.box w 0 0 t).alloc _, ?_⟩
  have := OwnP.box (w.alloc (.cells #[.int .i64 0, .int .i64 0] t)) 0 0 t
  simpa using this
theorem own3 (w : World) (t : Nat) : let w0 := ((w.alloc (.cells #[.int .i64 0, .int .i64 0] t)).alloc (.cells #[.int .i64 0, .int .i64 0] t)).alloc (.cells #[.int .i64 0, .int .i64 0] t)
    OwnP w0 w.heap.size 0 0 ∧ OwnP w0 (w.heap.size + 1) 0 0 ∧ OwnP w0 (w.heap.size + 1 + 1) 0 0 := by
  have h := own2 w t
  refine ⟨h.1.alloc _, h.2.alloc _, ?_⟩
  have := OwnP.box ((w.alloc (.cells #[.int .i64 0, .int .i64 0] t)).alloc (.cells #[.int .i64 0, .int .i64 0] t)) 0 0 t
  simpa using this
end Go.Proofs.YtlajpeoadgfobaaDoor
