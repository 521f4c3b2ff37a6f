/- The program's comparison of points, and its sort. -/
import Derived.Test.YtkmopgdnaohcdaaMon8b
import Derived.Test.YtkmopgdnaohcdaaRow6
import Derived.StillTailTactics
import Derived.Shelf.SlSortCmp.NoneTotal
namespace Go.Proofs.Ytkmopgdnaohcdaa
set_option maxRecDepth 100000
open Go.RowKit
attribute [local go_sem ↓] Go.wp_at_zero Go.wp_at_succ
/-- Which of two numbers is less. -/
def cmpI8 (a b : Int) : Int := if a < b then -1 else if b < a then 1 else 0
/-- The first that is not 0. -/
def orI8 (x y : Int) : Int := if x ≠ 0 then x else y
theorem compareAB8 (a b : Int) (w : World) : Calls Try.prog 80 #[.int .i64 a, .int .i64 b] w fun e w' => e = .returned (.int .i64 (cmpI8 a b)) ∧ w = w' := by
  have HE := Lib.hid (show cmpI8 a b = if a < b then -1 else if b < a then 1 else 0 from rfl)
  go_enter Try.func80, Try.ntmps80
  go_wp2_with fail
  refine (isNaN a _).mono ?_
  rintro e w' ⟨rfl, rfl⟩
  go_wp2_with fail
  refine (isNaN b _).mono ?_
  rintro e w' ⟨rfl, rfl⟩
  go_wp2
  all_goals
    go_ret
    refine ⟨ret_int ?_, rfl⟩
    rw [HE.out]
    first | (rw [if_pos (by omega)]) | (rw [if_neg (by omega), if_pos (by omega)]) | (rw [if_neg (by omega), if_neg (by omega)])
theorem cmpOr8 (b : Nat) (x y : Int) (w : World) (h0 : w.cell? ⟨b, 0, none⟩ = some (.int .i64 x)) (h1 : w.cell? ⟨b, 1, none⟩ = some (.int .i64 y)) :
    Calls Try.prog 105 #[.slice (some ⟨b, 0, none⟩) 2 2] w fun e w' => e = .returned (.int .i64 (orI8 x y)) ∧ w = w' := by
  by_cases hx : x = 0
  · subst hx
    have HE := Lib.hid (show orI8 0 y = y from rfl)
    by_cases hy : y = 0
    · subst hy
      go_enter Try.func105, Try.ntmps105
      go_wp2
      go_loop [8] (fun i => ∃ k : Nat, k ≤ 2 ∧ i = .int .i64 (k : Int)) (fun i => 2 - (intOf i).toNat)
      case atStart => exact ⟨0, by omega, rfl⟩
      case round =>
        obtain ⟨k, hk, rfl⟩ := hrel
        have h3 : k = 0 ∨ k = 1 ∨ k = 2 := by omega
        rcases h3 with rfl | rfl | rfl
        · go_wp2
          go_round
          case rel => exact ⟨1, by omega, rfl⟩
          case measure => simp [intOf]
        · go_wp2
          go_round
          case rel => exact ⟨2, by omega, rfl⟩
          case measure => simp [intOf]
        · go_wp2
          go_ret
          exact ⟨rfl, rfl⟩
    · have hy1 : (y != 0) = true := by simpa using hy
      have hy2 : (y == 0) = false := by simpa using hy
      clear hy
      go_enter Try.func105, Try.ntmps105
      go_wp2
      go_loop [8] (fun i => ∃ k : Nat, k ≤ 1 ∧ i = .int .i64 (k : Int)) (fun i => 2 - (intOf i).toNat)
      case atStart => exact ⟨0, by omega, rfl⟩
      case round =>
        obtain ⟨k, hk, rfl⟩ := hrel
        have h3 : k = 0 ∨ k = 1 := by omega
        rcases h3 with rfl | rfl
        · go_wp2
          go_round
          case rel => exact ⟨1, by omega, rfl⟩
          case measure => simp [intOf]
        · go_wp2
          go_ret
          exact ⟨ret_int HE.out.symm, rfl⟩
  · have HE := Lib.hid (show orI8 x y = x by unfold orI8; rw [if_pos hx])
    have hx1 : (x != 0) = true := by simpa using hx
    have hx2 : (x == 0) = false := by simpa using hx
    clear hx
    go_enter Try.func105, Try.ntmps105
    go_wp2
    go_loop [8] (fun i => i = .int .i64 0) (fun _ => 0)
    case atStart => rfl
    case round =>
      obtain rfl := hrel
      go_wp2
      go_ret
      exact ⟨ret_int HE.out.symm, rfl⟩
/-- The order of two points. -/
def cmp2 (x y : P2) : Int := orI8 (cmpI8 x.1 y.1) (cmpI8 x.2 y.2)
theorem cmp2_neg (x y : P2) : cmp2 x y < 0 ↔ lt2 x y := by
  unfold cmp2 orI8 cmpI8 lt2
  split <;> split at * <;> (try split at *) <;> (try split at *) <;> omega
set_option maxHeartbeats 1000000 in
theorem comparePts (x y : P2) (w : World) : Calls Try.prog 96 #[pt x.1 x.2, pt y.1 y.2] w fun e w' => e = .returned (.int .i64 (cmp2 x y)) ∧ ∃ q os', w' = Go.Sort.grow (w.drewN q) os' := by
  have HG := Lib.hid (show ∀ c : Obj, (((w.alloc (.cells #[.int .i64 x.1, .int .i64 x.2] 28)).alloc (.cells #[.int .i64 y.1, .int .i64 y.2] 28)).drew).alloc c = Go.Sort.grow (w.drewN 1) (#[.cells #[.int .i64 x.1, .int .i64 x.2] 28] ++ #[.cells #[.int .i64 y.1, .int .i64 y.2] 28] ++ #[c]) from fun c => by
    rw [Go.Sort.alloc_eq_grow, Go.Sort.alloc_eq_grow, Go.Sort.alloc_eq_grow, ← Go.Sort.grow_grow, ← Go.Sort.grow_grow]; rfl)
  have HE := Lib.hid (show orI8 (cmpI8 x.1 y.1) (cmpI8 x.2 y.2) = cmp2 x y from rfl)
  have P := (AtP.box w x.1 x.2 28).next (below_box _ (.cells #[.int .i64 y.1, .int .i64 y.2] 28))
  have Q := AtP.box (w.alloc (.cells #[.int .i64 x.1, .int .i64 x.2] 28)) y.1 y.2 28
  rw [World.size_alloc] at Q
  obtain ⟨_, x4, x5⟩ := P
  obtain ⟨_, y4, y5⟩ := Q
  go_enter Try.func96, Try.ntmps96
  go_wp2
  generalize (w.alloc (.cells #[.int .i64 x.1, .int .i64 x.2] 28)).alloc (.cells #[.int .i64 y.1, .int .i64 y.2] 28) = w0 at *
  refine wp_region_still_tail 10 (by kernel_rfl) (by kernel_rfl) ?_
  simp only [List.take_succ_cons, List.take_zero, List.drop_succ_cons, List.drop_zero]
  change wpStill _ _ w0.drew (fun a' => wpList _ _ _ _ a' w0.drew) _ _
  have x4' : w0.drew.cell? ⟨w.heap.size, 0, none⟩ = some (.int .i64 x.1) := x4
  have x5' : w0.drew.cell? ⟨w.heap.size, 1, none⟩ = some (.int .i64 x.2) := x5
  have y4' : w0.drew.cell? ⟨w.heap.size + 1, 0, none⟩ = some (.int .i64 y.1) := y4
  have y5' : w0.drew.cell? ⟨w.heap.size + 1, 1, none⟩ = some (.int .i64 y.2) := y5
  clear x4 x5 y4 y5
  generalize w0.drew = w1 at *
  repeat still_step
  still_call (stillOf (compareAB8 x.1 y.1 w1))
  repeat still_step
  still_call (stillOf (compareAB8 x.2 y.2 w1))
  repeat still_step
  refine wpStill_nil ?_
  go_wp2_with fail
  refine (cmpOr8 w1.heap.size (cmpI8 x.1 y.1) (cmpI8 x.2 y.2) _ (by simp) (by simp)).mono ?_
  rintro e w' ⟨rfl, rfl⟩
  go_wp2
  go_ret
  exact ⟨ret_int HE.out, 1, _, HG.out _⟩
open Go.Sort Go.Lib Go.Shelf
theorem lt_of8 (x y : P2) : ltOf cmp2 x y = true ↔ lt2 x y := by unfold ltOf; rw [decide_eq_true_iff]; exact cmp2_neg x y
theorem lt_no8 (x y : P2) : ltOf cmp2 x y = false ↔ ¬ lt2 x y := by rw [← lt_of8]; simp
theorem swo8 : SWO (ltOf cmp2) where
  irrefl x := by rw [lt_no8]; exact fun h => lt2_ne h rfl
  trans x y z h1 h2 := by rw [lt_of8] at *; exact lt2_of_lt_le h1 (lt2_le h2)
  ntrans x y z h1 h2 := by
    rw [lt_no8] at *
    intro h
    rcases le2_total x y with k | k
    · rcases le2_total y z with m | m
      · by_cases e : x = y
        · subst e; exact h2 h
        · exact h1 (le2_lt k e)
      · exact absurd (lt2_of_lt_le h (lt2_le m)) (fun q => h1 q)
    · exact absurd (lt2_of_lt_le k (lt2_le h)) (fun q => h2 q)
/-- The points in their order. -/
def srt (ps : List P2) : List P2 := ps.mergeSort fun x y => !(ltOf cmp2) y x
theorem srt_mem (ps : List P2) (p : P2) : p ∈ ps ↔ p ∈ srt ps := (List.mergeSort_perm ps _).mem_iff.symm
theorem srt_len (ps : List P2) : (srt ps).length = ps.length := (List.mergeSort_perm ps _).length_eq
theorem srt_asc (ps : List P2) : Asc (srt ps) := by
  have key : ∀ a b : P2, (!(ltOf cmp2) b a) = true ↔ le2 a b := fun a b => by
    rw [Bool.not_eq_true', lt_no8]
    constructor
    · intro h; rcases le2_total a b with k | k; exact k; exact absurd k h
    · intro h k; exact lt2_ne (lt2_of_lt_le k h) rfl
  have := List.pairwise_mergeSort (le := fun x y => !(ltOf cmp2) y x) (fun a b c h1 h2 => by rw [key] at *; exact le2_trans h1 h2) (fun a b => by
    rw [Bool.or_eq_true, key, key]; rcases le2_total a b with k | k; exact .inl k; exact .inr (lt2_le k)) ps
  exact this.imp fun h => (key _ _).1 h
end Go.Proofs.Ytkmopgdnaohcdaa
