/- A new search of the program's: how it lies. -/
import Derived.Test.YtkogoflcacameaaIm11f
import Derived.Great.BuildSlice
import Derived.Deep.WholeRow
namespace Go.Proofs.Ytkogoflcacameaa
set_option maxRecDepth 100000
open Go.RowKit
attribute [local go_sem ↓] Go.wp_at_zero Go.wp_at_succ
/-- A new search. -/
def search0 (tv : Value) : Array Value := (#[tv, .slice none 0 0, .int .i64 0, .int .i64 0] ++ Array.replicate 7 (.int .u64 0)) ++ Array.replicate 800 (.int .i64 0)
theorem search0_len (tv : Value) : (#[tv, .slice none 0 0, .int .i64 0, .int .i64 0] ++ Array.replicate 7 (Value.int .u64 0)).size = 11 := by simp
theorem search0_lo (tv : Value) (i : Nat) (h : i < 11) : (search0 tv)[i]? = (#[tv, .slice none 0 0, .int .i64 0, .int .i64 0] ++ Array.replicate 7 (Value.int .u64 0))[i]? := by
  unfold search0; rw [Array.getElem?_append_left (by rw [search0_len]; exact h)]
theorem search0_sea (w : World) (tv : Value) (B : Nat) (hB : B ≤ w.heap.size) (T : TypeId) (hT : T = 77) :
    Sea B (w.alloc (.cells (search0 tv) T)) w.heap.size tv [] 0 w.heap.size (search0 tv) #[] 0 0 (fun _ => 0) := by
  subst hT
  refine ⟨⟨Blk.new w _ _, by simp [search0], by simp, by rw [search0_lo tv 1 (by omega)]; rfl, by rw [search0_lo tv 2 (by omega)]; rfl, by rw [search0_lo tv 3 (by omega)]; rfl, by simp, by omega, fun _ => rfl, fun q => absurd rfl q, fun q => absurd rfl q, fun i x hx => by simp at hx, fun j hj => by simp at hj⟩, by rw [search0_lo tv 0 (by omega)]; rfl, fun q hq => ?_, Bits11.nil, fun i hi => by simp at hi, fun i hi => by simp at hi, fun i hi => by simp at hi, hB, hB, by simp⟩
  rw [search0_lo tv (4 + q) (by omega), Array.getElem?_append_right (by simp)]
  rw [Array.getElem?_replicate, if_pos (by simp; omega)]
  rfl
theorem search0_one (a : Option Addr) (len cap : Nat) : (search0 (.slice a len cap)).all (·.oneCell') = true := by
  rw [Array.all_eq_true_iff_forall_mem]
  intro x hx
  unfold search0 at hx
  simp only [Array.mem_append, Array.mem_replicate] at hx
  rcases hx with (h | ⟨_, rfl⟩) | ⟨_, rfl⟩
  · simp at h
    rcases h with rfl | rfl | rfl <;> rfl
  · rfl
  · rfl
def zs811 : Array Value := search0 (.slice none 0 0)
theorem zero811 (w : World) : (zeroValue 77).run Try.prog w = .ok (.agg zs811) w := by kernel_rfl
theorem size811 (tv : Value) : (Try.prog.info? 77).map (·.size) = some (search0 tv).size := by rw [show (search0 tv).size = 811 by simp [search0]]; kernel_rfl
theorem same811 (tv : Value) : zs811.size = (search0 tv).size := by simp [zs811, search0]
theorem built811 (ta : Option Addr) (len cap : Nat) : Try.prog.built 77 [(0, .slice ta len cap)] = some (search0 (.slice ta len cap)) := by kernel_rfl
end Go.Proofs.Ytkogoflcacameaa
