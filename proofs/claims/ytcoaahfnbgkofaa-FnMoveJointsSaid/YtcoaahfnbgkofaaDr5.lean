/- The program's limits of motions with their table of stop distances: how they are laid, and the next speed. -/
import Derived.Test.YtcoaahfnbgkofaaMo5
import Derived.Great.BuildSlice
import Derived.Deep.RegionHeld3
import Derived.StillTailTactics
namespace Go.Proofs.Ytcoaahfnbgkofaa
set_option maxRecDepth 100000
open Go.RowKit
attribute [local go_sem ↓] Go.wp_at_zero Go.wp_at_succ

/-- New limits. -/
def drive0 (t r : Int) : Array Value := #[.int .i64 t, .int .i64 r] ++ Array.replicate 201 (.int .i64 0)
theorem drive0_at (t r : Int) (v : Nat) (h : v ≤ 200) : (drive0 t r)[2 + v]? = some (.int .i64 0) := by
  unfold drive0
  rw [Array.getElem?_append_right (by simp), Array.getElem?_replicate]
  simp; omega
theorem drive0_0 (t r : Int) : (drive0 t r)[0]? = some (.int .i64 t) := by unfold drive0; rw [Array.getElem?_append_left (by simp)]; rfl
theorem drive0_1 (t r : Int) : (drive0 t r)[1]? = some (.int .i64 r) := by unfold drive0; rw [Array.getElem?_append_left (by simp)]; rfl
/-- The limits of motions lie in block b, with the stop distances of the speeds below s. -/
structure DrvAt (w : World) (b : Nat) (t r : Int) (s : Nat) : Prop where
  lt : b < w.heap.size
  c0 : w.cell? ⟨b, 0, none⟩ = some (.int .i64 t)
  c1 : w.cell? ⟨b, 1, none⟩ = some (.int .i64 r)
  c2 : ∀ v : Nat, v ≤ 200 → v < s → w.cell? ⟨b, 2 + v, none⟩ = some (.int .i64 (stopD v r))
  c3 : ∀ v : Nat, v ≤ 200 → ∃ x, w.cell? ⟨b, 2 + v, none⟩ = some x
  fr : ∀ v : Nat, w.frozen? ⟨b, v, none⟩ = false
theorem DrvAt.next {w w' : World} {b s : Nat} {t r : Int} (h : DrvAt w b t r s) (hb : Below w.heap.size w w') : DrvAt w' b t r s :=
  ⟨Nat.lt_of_lt_of_le h.lt hb.size, (hb.cell (p := ⟨b, 0, none⟩) h.lt).trans h.c0, (hb.cell (p := ⟨b, 1, none⟩) h.lt).trans h.c1, fun v h1 h2 => (hb.cell (p := ⟨b, 2 + v, none⟩) h.lt).trans (h.c2 v h1 h2),
    fun v h1 => by obtain ⟨x, hx⟩ := h.c3 v h1; exact ⟨x, (hb.cell (p := ⟨b, 2 + v, none⟩) h.lt).trans hx⟩, fun v => (hb.frozen (p := ⟨b, v, none⟩) h.lt).trans (h.fr v)⟩
theorem DrvAt.new (w : World) (t r : Int) (T : TypeId) (hr : 1 ≤ r) : DrvAt (w.alloc (.cells (drive0 t r) T)) w.heap.size t r (r.toNat + 1) := by
  have hc : ∀ v : Nat, v ≤ 200 → (w.alloc (.cells (drive0 t r) T)).cell? ⟨w.heap.size, 2 + v, none⟩ = some (.int .i64 0) := fun v hv => by
    rw [World.cell?_alloc_at _ _ _ _ rfl]; exact drive0_at t r v hv
  refine ⟨by simp, by rw [World.cell?_alloc_at _ _ _ _ rfl]; exact drive0_0 t r, by rw [World.cell?_alloc_at _ _ _ _ rfl]; exact drive0_1 t r, fun v h1 h2 => ?_, fun v h1 => ⟨_, hc v h1⟩, fun v => World.frozen?_alloc_at _ _ _ _ rfl⟩
  rw [hc v h1, stopD_zero v r (by omega)]
theorem DrvAt.put {w : World} {b s : Nat} {t r : Int} (h : DrvAt w b t r s) (hs : s ≤ 200) : DrvAt (w.setCell ⟨b, 2 + s, none⟩ (.int .i64 (stopD s r))) b t r (s + 1) := by
  obtain ⟨x, hx⟩ := h.c3 s hs
  have hs' := World.cell?_setCell_same w ⟨b, 2 + s, none⟩ (.int .i64 (stopD s r)) hx
  refine ⟨by simpa [World.setCell] using h.lt, (World.cell?_setCell_other _ _ _ _ (by simp <;> omega)).trans h.c0, (World.cell?_setCell_other _ _ _ _ (by simp <;> omega)).trans h.c1, fun v h1 h2 => ?_, fun v h1 => ?_, fun v => (World.frozen?_setCell _ _ _ _).trans (h.fr v)⟩
  · by_cases e : v = s
    · subst e; exact hs'
    · exact (World.cell?_setCell_other _ _ _ _ (by simp <;> omega)).trans (h.c2 v h1 (by omega))
  · by_cases e : v = s
    · subst e; exact ⟨_, hs'⟩
    · obtain ⟨y, hy⟩ := h.c3 v h1
      exact ⟨y, (World.cell?_setCell_other _ _ _ _ (by simp <;> omega)).trans hy⟩
set_option maxHeartbeats 400000 in
theorem driveYes (t r : Int) (w : World) (t0 : 1 ≤ t) (t1 : t ≤ 200) (r0 : 1 ≤ r) (r1 : r ≤ 50) :
    Calls Try.prog 71 #[.int .i64 t, .int .i64 r] w fun e w' => e = .returned (.pointer (some ⟨w.heap.size, 0, none⟩)) ∧ DrvAt w' w.heap.size t r 201 ∧ Below w.heap.size w w' := by
  have D0 := DrvAt.new w t r 94 r0
  have B0 := below_box w (.cells (drive0 t r) 94)
  go_enter Try.func71, Try.ntmps71
  go_wp2_with fail
  refine (limits_yes t r _ t0 t1 r0 r1).mono ?_
  rintro e w' ⟨rfl, rfl⟩
  go_wp2_with (refine wpList_buildTo (by rfl) 94 _ (by rfl) (some 14) (by rfl) (drive0 t r) (by kernel_rfl) ?_)
  generalize w.alloc (.cells (drive0 t r) 94) = u0 at *
  go_loopw [6] (fun i wr => ∃ s : Nat, i = .int .i64 (s : Int) ∧ r < s ∧ s ≤ 201 ∧ Hid (DrvAt wr w.heap.size t r s) ∧ Hid (Below w.heap.size w wr)) (fun i _ => 201 - (intOf i).toNat)
  case atStart => exact ⟨r.toNat + 1, by congr 1; omega, by omega, by omega, Lib.hid D0, Lib.hid B0⟩
  case round =>
    obtain ⟨s, rfl, s0, s1, HD, HW⟩ := hrel
    clear D0 B0
    by_cases hlt : s ≤ 200
    · obtain ⟨l, hl⟩ : ∃ l : Nat, (s : Int) - r = (l : Int) := ⟨((s : Int) - r).toNat, by omega⟩
      have k1 : l ≤ 200 := by omega
      have k2 : l < s := by omega
      have q0 := stopD_lo l r r0
      have q1 := stopD_hi l r r0 (by omega) (by omega)
      have c1 := HD.out.c2 l k1 k2
      obtain ⟨x, c2⟩ := HD.out.c3 s hlt
      have f2 := HD.out.fr (2 + s)
      have HE := Lib.hid (show stopD s r = (l : Int) + stopD l r by rw [stopD_step s r r0 (by omega), hl])
      have HN := Lib.hid (HD.out.next (below_drew' wr))
      have hs2 : (s : Int) ≤ 200 := by omega
      have i1 : (0 : Int) ≤ (l : Int) := by omega
      have i2 : (l : Int) < 201 := by omega
      have i3 : (0 : Int) ≤ (s : Int) := by omega
      have i4 : (s : Int) < 201 := by omega
      have o1 : IntKind.i64.wrap ((l : Int) + stopD l r) = (l : Int) + stopD l r := IntWalk.i64_in _ (by omega)
      go_wp2
      clear hl
      generalize stopD (l : Int) r = q at *
      refine wp_region_still_tail 13 (by kernel_rfl) (by kernel_rfl) ?_
      simp only [List.take_succ_cons, List.take_zero, List.drop_succ_cons, List.drop_zero]
      change wpStill _ _ wr.drew (fun a' => wpList _ _ _ _ a' wr.drew) _ _
      have c1' : wr.drew.cell? ⟨w.heap.size, 2 + l, none⟩ = some (.int .i64 q) := c1
      have c2' : wr.drew.cell? ⟨w.heap.size, 2 + s, none⟩ = some x := c2
      have f2' : wr.drew.frozen? ⟨w.heap.size, 2 + s, none⟩ = false := f2
      have HWd := Lib.hid HW.out.drew
      clear c1 c2 f2
      generalize wr.drew = w1 at *
      repeat still_step
      refine wpStill_nil ?_
      go_wp2
      go_roundw
      case rel => exact ⟨s + 1, by congr 1, by omega, by omega, Lib.hid (by have := HN.out.put hlt; rw [HE.out] at this; exact this), Lib.hid (HWd.out.setCell (p := ⟨w.heap.size, 2 + s, none⟩) (Nat.le_refl _) _)⟩
      case measure => simp [intOf]; omega
    · obtain rfl : s = 201 := by omega
      go_wp2
      go_ret
      exact ⟨rfl, HD.out, HW.out⟩
theorem driveNo (t r : Int) (w : World) (h : ¬ ((1 ≤ t ∧ t ≤ 200) ∧ (1 ≤ r ∧ r ≤ 50))) :
    Calls Try.prog 71 #[.int .i64 t, .int .i64 r] w fun e w' => e = .returned (.pointer none) ∧ w = w' := by
  go_enter Try.func71, Try.ntmps71
  go_wp2_with fail
  refine (limits_no t r _ h).mono ?_
  rintro e w' ⟨rfl, rfl⟩
  clear h
  go_wp2
  go_ret
  exact ⟨rfl, rfl⟩
end Go.Proofs.Ytcoaahfnbgkofaa
