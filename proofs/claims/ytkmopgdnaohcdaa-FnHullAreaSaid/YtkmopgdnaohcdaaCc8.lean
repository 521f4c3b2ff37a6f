/- slices.Concat of two lists of points. -/
import Derived.Test.YtkmopgdnaohcdaaBx8
import Derived.Test.YtkmopgdnaohcdaaZbSrt
namespace Go.Proofs.Ytkmopgdnaohcdaa
set_option maxRecDepth 100000
open Go.RowKit Go.Shelf
attribute [local go_sem ↓] Go.wp_at_zero Go.wp_at_succ
set_option maxHeartbeats 2000000 in
theorem growNil (n : Nat) (w : World) (h1 : 1 ≤ n) (hn : n ≤ 2000) :
    Calls Try.prog 106 #[.slice none 0 0, .int .i64 n] w fun e w' => ∃ c, e = .returned (.slice (some ⟨w.heap.size, 0, none⟩) 0 c) ∧ Ro w w' (.slice (some ⟨w.heap.size, 0, none⟩) 0 c) [] := by
  obtain ⟨i0, hi0, hz0, hz1, hz2⟩ := info_parts infoPt6
  have := Any8.slices_Grow_grow Try.growP i0 (pt 0 0) hi0 hz0 (by rw [hz1]; decide) none 0 0 n [] w (Nat.le_refl 0) (by omega) (by rw [hz2]; omega) (by omega) (by simp) (fun _ => rfl) (fun a h => by cases h)
  refine this.mono ?_
  rintro e w' ⟨rfl, rfl⟩
  refine ⟨_, rfl, ⟨rfl, .inr ⟨w.heap.size, _, _, rfl, Nat.le_refl _, World.alloc_heap_new w.drew _, Nat.zero_le _, grownCap_le_maxLen _ _ _ _ (by unfold maxLen; omega), ?_, rfl⟩⟩, ?_⟩
  · have := grownCap_ge w (0 + n) 0 28
    have hz : (pt 0 0).cells.size = 2 := rfl
    have hr : Try.growP_ren.t 25 = 28 := rfl
    rw [hr]
    simp only [Array.size_append, size_zeroCells, List.size_toArray, List.length_nil, hz]
    have e : Array.size (List.toArray ([] : List Value)) = 0 := rfl
    omega
  · exact (below_drew w).trans (below_box w.drew _)
/-- The lengths' sum, so far. -/
def Sum8 (w wr : World) (n1 n2 k t : Nat) : Prop := w = wr ∧ ((k = 0 ∧ t = 0) ∨ (k = 1 ∧ n1 = t) ∨ (k = 2 ∧ n1 + n2 = t))
/-- The row, so far. -/
def Row8 (w w2 : World) (v : Value) (p1 p2 : List P2) (k : Nat) : Prop := (k = 0 ∧ Ro w w2 v []) ∨ (k = 1 ∧ Ro w w2 v p1) ∨ (k = 2 ∧ Ro w w2 v (p1 ++ p2))
set_option maxHeartbeats 4000000 in
theorem concatC (X : Nat) (a1 a2 : Addr) (n1 c1 n2 c2 : Nat) (p1 p2 : List P2) (w : World) (hx : Cells8 w X #[.slice (some a1) n1 c1, .slice (some a2) n2 c2] 23) (h1 : PL w (some a1) n1 p1) (h2 : PL w (some a2) n2 p2)
    (m1 : 1 ≤ n1) (m2 : 1 ≤ n2) (l1 : n1 ≤ 1000) (l2 : n2 ≤ 1000) :
    Calls Try.prog 99 #[.slice (some ⟨X, 0, none⟩) 2 2] w (RowP (p1 ++ p2) w) := by
  obtain ⟨i0, hi0, hz0, hz1, hz2⟩ := info_parts infoPt6
  have HLE := Lib.hid (And.intro h1.1 h2.1)
  have HX := Lib.hid hx
  have HP1 := Lib.hid h1
  have HP2 := Lib.hid h2
  have x0 : w.cell? ⟨X, 0, none⟩ = some (.slice (some a1) n1 c1) := hx.cell rfl
  have x1 : w.cell? ⟨X, 1, none⟩ = some (.slice (some a2) n2 c2) := hx.cell rfl
  have s1 : ¬ ((n1 : Int) < 0) := by omega
  have s2 : ¬ ((n1 : Int) + (n2 : Int) < 0) := by omega
  clear hx h1 h2
  go_enter Try.func99, Try.ntmps99
  go_wp2
  go_loopw [3, 11] (fun s i wr => ∃ k t : Nat, s = .int .i64 (t : Int) ∧ i = .int .i64 (k : Int) ∧ Hid (Sum8 w wr n1 n2 k t)) (fun _ i _ => 2 - (intOf i).toNat)
  case atStart => exact ⟨0, 0, rfl, rfl, Lib.hid ⟨rfl, .inl ⟨rfl, rfl⟩⟩⟩
  case round =>
    obtain ⟨k, t, rfl, rfl, hh⟩ := hrel
    obtain ⟨hw, h3⟩ := hh.out
    clear hh
    subst hw
    rcases h3 with ⟨hk, ht⟩ | ⟨hk, ht⟩ | ⟨hk, ht⟩ <;> subst hk <;> subst ht
    · go_wp2
      go_roundw
      case rel => exact ⟨1, n1, by simp, rfl, Lib.hid ⟨rfl, .inr (.inl ⟨rfl, rfl⟩)⟩⟩
      case measure => simp [intOf]
    · go_wp2
      go_roundw
      case rel => exact ⟨2, n1 + n2, by simp, rfl, Lib.hid ⟨rfl, .inr (.inr ⟨rfl, rfl⟩)⟩⟩
      case measure => simp [intOf]
    · clear x0 x1
      have HG := Lib.hid (growNil (n1 + n2) w (by omega) (by omega))
      go_wp2_with fail
      refine HG.out.mono ?_
      rintro e w1 ⟨cg, rfl, R⟩
      clear HG
      have HR1 := Lib.hid R
      have HP1a := Lib.hid (HP1.out.next R.bel)
      have HP2a := Lib.hid (HP2.out.next R.bel)
      have HXa := Lib.hid (HX.out.next R.bel)
      clear R
      go_wp2
      go_loopw [6, 27] (fun v i w2 => ∃ k : Nat, i = .int .i64 (k : Int) ∧ Hid (Row8 w w2 v p1 p2 k)) (fun _ i _ => 2 - (intOf i).toNat)
      case atStart => exact ⟨0, rfl, Lib.hid (.inl ⟨rfl, HR1.out⟩)⟩
      case round =>
        obtain ⟨k, rfl, hh⟩ := hrel
        have h3 := hh.out
        clear hh
        rcases h3 with ⟨hk, R⟩ | ⟨hk, R⟩ | ⟨hk, R⟩ <;> subst hk
        · have HR := Lib.hid R
          have HQ := Lib.hid (HP1.out.next R.bel)
          have HXb := Lib.hid (HX.out.next R.bel)
          have y0 := HXb.out.cell (i := 0) rfl
          have HB := Lib.hid (show w.heap.size ≤ wr.heap.size from R.bel.size)
          clear R HR1
          go_wp2_with (at_builtin; refine wpList_append_lies _ rfl (.tmp 31) (.tmp 32) 23 rfl w.heap.size 28 i0 (pt 0 0) 2 16 Try.underlying23 hi0 hz0 hz1 hz2 rfl (by decide) _ 0 (pvals []) rfl HR.out.own a1 n1 c1 (pvals p1) rfl (by rw [pvals_len, HLE.out.1]) (HQ.out.news m1) (pvals_one8 p1) m1 (by unfold maxLen; omega) (by omega) HB.out _ rfl ?_; intro g7 cap7 w7 own7 grow7 at7 ltg7; have HA7 := Lib.hid (And.intro own7 grow7); clear own7 grow7 at7 ltg7)
          have HN := Lib.hid (show Ro w w7 (.slice (some ⟨g7, 0, none⟩) n1 cap7) p1 from HR.out.app HA7.out.2 (by
            have o := HA7.out.1; rw [Nat.zero_add] at o; unfold OwnPt; rw [← HLE.out.1]; exact o))
          clear HA7 HR HQ HXb
          go_roundw
          case rel => exact ⟨1, rfl, Lib.hid (.inr (.inl ⟨rfl, HN.out⟩))⟩
          case measure => simp [intOf]
        · have HR := Lib.hid R
          have HQ := Lib.hid (HP2.out.next R.bel)
          have HXb := Lib.hid (HX.out.next R.bel)
          have y0 := HXb.out.cell (i := 1) rfl
          have HB := Lib.hid (show w.heap.size ≤ wr.heap.size from R.bel.size)
          have HPA := Lib.hid (pvals_app8 p1 p2)
          clear R HR1
          go_wp2_with (at_builtin; refine wpList_append_lies _ rfl (.tmp 31) (.tmp 32) 23 rfl w.heap.size 28 i0 (pt 0 0) 2 16 Try.underlying23 hi0 hz0 hz1 hz2 rfl (by decide) _ p1.length (pvals p1) rfl HR.out.own a2 n2 c2 (pvals p2) rfl (by rw [pvals_len, HLE.out.2]) (HQ.out.news m2) (pvals_one8 p2) m2 (by have := HLE.out.1; unfold maxLen; omega) (by have := HLE.out.1; omega) HB.out _ rfl ?_; intro g7 cap7 w7 own7 grow7 at7 ltg7; have HA7 := Lib.hid (And.intro own7 grow7); clear own7 grow7 at7 ltg7)
          have HN := Lib.hid (show Ro w w7 (.slice (some ⟨g7, 0, none⟩) (p1.length + n2) cap7) (p1 ++ p2) from HR.out.app HA7.out.2 (by
            have o := HA7.out.1; unfold OwnPt; rw [HPA.out, List.length_append, ← HLE.out.2]; exact o))
          clear HA7 HR HQ HXb
          go_roundw
          case rel => exact ⟨2, rfl, Lib.hid (.inr (.inr ⟨rfl, HN.out⟩))⟩
          case measure => simp [intOf]
        · obtain ⟨sa, sn, sc, rfl, _⟩ := R.sl
          have HF := Lib.hid R.row
          clear R
          go_wp2
          go_ret
          exact HF.out
end Go.Proofs.Ytkmopgdnaohcdaa
