/- The program's comparison of candidates, efforts and distances. -/
import Derived.Test.YtolkihibjabmhaaDoorSp8
import Derived.StillTailTactics
namespace Go.Proofs.YtolkihibjabmhaaDoor
set_option maxRecDepth 100000
open Go.RowKit
attribute [local go_sem ↓] Go.wp_at_zero Go.wp_at_succ
/-- A candidate's value; angles as an array of four; a search. -/
abbrev cv (c : Cand) : Value := .agg #[.int .i64 c.p0, .int .i64 c.p1, .int .i64 c.p2, .int .i64 c.p3, .int .i64 c.d, .int .i64 c.e]
abbrev pv4 (a b c d : Int) : Value := .agg #[.int .i64 a, .int .i64 b, .int .i64 c, .int .i64 d]
abbrev sv (b n cap : Nat) (tx ty : Int) : Value := .agg #[.slice (some ⟨b, 0, none⟩) n cap, .int .i64 tx, .int .i64 ty]
/-- Which of two numbers is less. -/
def cmpI (a b : Int) : Int := if a < b then -1 else if b < a then 1 else 0
/-- Which of two candidates is better. -/
def cmpC (x y : Cand) : Int := if cmpI x.d y.d ≠ 0 then cmpI x.d y.d else cmpI x.e y.e
/-- The first that is not 0. -/
def orI (x y : Int) : Int := if x ≠ 0 then x else y
theorem cmpC_neg (x y : Cand) : cmpC x y < 0 ↔ lessC x.d x.e y.d y.e := by
  unfold cmpC cmpI lessC
  split <;> split at * <;> (try split at *) <;> (try split at *) <;> omega
theorem compareAB (a b : Int) (w : World) : Calls Tryd.prog 98 #[.int .i64 a, .int .i64 b] w fun e w' => e = .returned (.int .i64 (cmpI a b)) ∧ w = w' := by
  have HE := Lib.hid (show cmpI a b = if a < b then -1 else if b < a then 1 else 0 from rfl)
  go_enter Tryd.func98, Tryd.ntmps98
  go_wp2_with fail
  refine (isNaN a _).mono ?_
  rintro e w' ⟨rfl, rfl⟩
  go_wp2_with fail
  refine (isNaN b _).mono ?_
  rintro e w' ⟨rfl, rfl⟩
  go_wp2
  all_goals
    go_ret
    refine ⟨ret_int ?_, rfl⟩
    rw [HE.out]
    first | (rw [if_pos (by omega)]) | (rw [if_neg (by omega), if_pos (by omega)]) | (rw [if_neg (by omega), if_neg (by omega)])
theorem cmpOr (b : Nat) (x y : Int) (w : World) (h0 : w.cell? ⟨b, 0, none⟩ = some (.int .i64 x)) (h1 : w.cell? ⟨b, 1, none⟩ = some (.int .i64 y)) :
    Calls Tryd.prog 97 #[.slice (some ⟨b, 0, none⟩) 2 2] w fun e w' => e = .returned (.int .i64 (orI x y)) ∧ w = w' := by
  by_cases hx : x = 0
  · subst hx
    have HE := Lib.hid (show orI 0 y = y from rfl)
    by_cases hy : y = 0
    · subst hy
      go_enter Tryd.func97, Tryd.ntmps97
      go_wp2
      go_loop [8] (fun i => ∃ k : Nat, k ≤ 2 ∧ i = .int .i64 (k : Int)) (fun i => 2 - (intOf i).toNat)
      case atStart => exact ⟨0, by omega, rfl⟩
      case round =>
        obtain ⟨k, hk, rfl⟩ := hrel
        have h3 : k = 0 ∨ k = 1 ∨ k = 2 := by omega
        rcases h3 with rfl | rfl | rfl
        · go_wp2
          go_round
          case rel => exact ⟨1, by omega, rfl⟩
          case measure => simp [intOf]
        · go_wp2
          go_round
          case rel => exact ⟨2, by omega, rfl⟩
          case measure => simp [intOf]
        · go_wp2
          go_ret
          exact ⟨rfl, rfl⟩
    · have hy1 : (y != 0) = true := by simpa using hy
      have hy2 : (y == 0) = false := by simpa using hy
      clear hy
      go_enter Tryd.func97, Tryd.ntmps97
      go_wp2
      go_loop [8] (fun i => ∃ k : Nat, k ≤ 1 ∧ i = .int .i64 (k : Int)) (fun i => 2 - (intOf i).toNat)
      case atStart => exact ⟨0, by omega, rfl⟩
      case round =>
        obtain ⟨k, hk, rfl⟩ := hrel
        have h3 : k = 0 ∨ k = 1 := by omega
        rcases h3 with rfl | rfl
        · go_wp2
          go_round
          case rel => exact ⟨1, by omega, rfl⟩
          case measure => simp [intOf]
        · go_wp2
          go_ret
          exact ⟨ret_int HE.out.symm, rfl⟩
  · have HE := Lib.hid (show orI x y = x by unfold orI; rw [if_pos hx])
    have hx1 : (x != 0) = true := by simpa using hx
    have hx2 : (x == 0) = false := by simpa using hx
    clear hx
    go_enter Tryd.func97, Tryd.ntmps97
    go_wp2
    go_loop [8] (fun i => i = .int .i64 0) (fun _ => 0)
    case atStart => rfl
    case round =>
      obtain rfl := hrel
      go_wp2
      go_ret
      exact ⟨ret_int HE.out.symm, rfl⟩
/-- Six numbers lie in block b. -/
structure AtC (w : World) (b : Nat) (c : Cand) : Prop where
  lt : b < w.heap.size
  c0 : w.cell? ⟨b, 0, none⟩ = some (.int .i64 c.p0)
  c1 : w.cell? ⟨b, 1, none⟩ = some (.int .i64 c.p1)
  c2 : w.cell? ⟨b, 2, none⟩ = some (.int .i64 c.p2)
  c3 : w.cell? ⟨b, 3, none⟩ = some (.int .i64 c.p3)
  c4 : w.cell? ⟨b, 4, none⟩ = some (.int .i64 c.d)
  c5 : w.cell? ⟨b, 5, none⟩ = some (.int .i64 c.e)
abbrev ccells (c : Cand) : Obj := .cells #[.int .i64 c.p0, .int .i64 c.p1, .int .i64 c.p2, .int .i64 c.p3, .int .i64 c.d, .int .i64 c.e] 93
set_option maxHeartbeats 1000000 in
theorem compareCands (x y : Cand) (w : World) : Calls Tryd.prog 76 #[cv x, cv y] w fun e w' => e = .returned (.int .i64 (cmpC x y)) ∧ Below w.heap.size w w' := by
  have HB := Lib.hid (below_box2 w (ccells x) (ccells y))
  have HE := Lib.hid (show orI (cmpI x.d y.d) (cmpI x.e y.e) = cmpC x y from rfl)
  have x4 : ((w.alloc (ccells x)).alloc (ccells y)).cell? ⟨w.heap.size, 4, none⟩ = some (.int .i64 x.d) := by simp
  have x5 : ((w.alloc (ccells x)).alloc (ccells y)).cell? ⟨w.heap.size, 5, none⟩ = some (.int .i64 x.e) := by simp
  have y4 : ((w.alloc (ccells x)).alloc (ccells y)).cell? ⟨w.heap.size + 1, 4, none⟩ = some (.int .i64 y.d) := by simp
  have y5 : ((w.alloc (ccells x)).alloc (ccells y)).cell? ⟨w.heap.size + 1, 5, none⟩ = some (.int .i64 y.e) := by simp
  go_enter Tryd.func76, Tryd.ntmps76
  go_wp2
  generalize (w.alloc (ccells x)).alloc (ccells y) = w0 at *
  refine wp_region_still_tail 10 (by kernel_rfl) (by kernel_rfl) ?_
  simp only [List.take_succ_cons, List.take_zero, List.drop_succ_cons, List.drop_zero]
  change wpStill _ _ w0.drew (fun a' => wpList _ _ _ _ a' w0.drew) _ _
  have x4' : w0.drew.cell? ⟨w.heap.size, 4, none⟩ = some (.int .i64 x.d) := x4
  have x5' : w0.drew.cell? ⟨w.heap.size, 5, none⟩ = some (.int .i64 x.e) := x5
  have y4' : w0.drew.cell? ⟨w.heap.size + 1, 4, none⟩ = some (.int .i64 y.d) := y4
  have y5' : w0.drew.cell? ⟨w.heap.size + 1, 5, none⟩ = some (.int .i64 y.e) := y5
  have HBd := Lib.hid HB.out.drew
  clear x4 x5 y4 y5
  generalize w0.drew = w1 at *
  repeat still_step
  still_call (stillOf (compareAB x.d y.d w1))
  repeat still_step
  still_call (stillOf (compareAB x.e y.e w1))
  repeat still_step
  refine wpStill_nil ?_
  go_wp2_with fail
  refine (cmpOr w1.heap.size (cmpI x.d y.d) (cmpI x.e y.e) _ (by simp) (by simp)).mono ?_
  rintro e w' ⟨rfl, rfl⟩
  go_wp2
  go_ret
  exact ⟨ret_int HE.out, below_call HBd.out (below_box _ _)⟩
end Go.Proofs.YtolkihibjabmhaaDoor
