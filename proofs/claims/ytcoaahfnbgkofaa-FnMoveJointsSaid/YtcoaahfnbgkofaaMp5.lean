/- The document's MotionProfile and ProfileTime: the speeds of a motion. -/
import Derived.Test.YtcoaahfnbgkofaaMo5
namespace Go.Proofs.Ytcoaahfnbgkofaa
set_option maxRecDepth 100000
open Go.RowKit
attribute [local go_sem ↓] Go.wp_at_zero Go.wp_at_succ

/-- A slice of the call's own that reads as zs. -/
def RowOf (zs : List Int) (w : World) (e : Ending) (w' : World) : Prop :=
  ∃ s : Sl, e = .returned (.slice s.a s.len s.cap) ∧ s.len = zs.length ∧ OwnI w' w.heap.size (.slice s.a s.len s.cap) zs ∧ Below w.heap.size w w'
/-- The arguments of a motion. -/
def okMove (d t r : Int) : Prop := (0 ≤ d ∧ d ≤ 5000) ∧ (1 ≤ t ∧ t ≤ 200) ∧ (1 ≤ r ∧ r ≤ 50)
instance (d t r : Int) : Decidable (okMove d t r) := by unfold okMove; infer_instance
/-- What MotionProfile returns. -/
def profV (d t r : Int) : List Int := if okMove d t r then profL t r 0 d else []
theorem profV_in {d t r : Int} (h : okMove d t r) : profV d t r = profL t r 0 d := by unfold profV; rw [if_pos h]
theorem profV_out {d t r : Int} (h : ¬ okMove d t r) : profV d t r = [] := by unfold profV; rw [if_neg h]
theorem profV_len (d t r : Int) : (profV d t r).length ≤ 5000 := by
  by_cases h : okMove d t r
  · rw [profV_in h]; have := prof_len t r 0 d h.2.1.1 h.2.2.1 (by omega) h.1.1; have := h.1.2; omega
  · rw [profV_out h]; simp
/-- What ProfileTime returns. -/
def timeV (d t r : Int) : Int := if okMove d t r then ((profL t r 0 d).length : Int) else -1
theorem timeV_in {d t r : Int} (h : okMove d t r) : timeV d t r = ((profL t r 0 d).length : Int) := by unfold timeV; rw [if_pos h]
theorem timeV_out {d t r : Int} (h : ¬ okMove d t r) : timeV d t r = -1 := by unfold timeV; rw [if_neg h]
theorem ownI_empty (w : World) (T : TypeId) (hT : T = 3) : OwnI (w.alloc (.cells #[] T)) w.heap.size (.slice (some ⟨w.heap.size, 0, none⟩) 0 0) [] := by
  subst hT
  have := World.ownsRow_lit (base := w.heap.size) (e := 3) (size := 1) w #[] 0 (Nat.le_refl _) (Nat.zero_le _) rfl
  unfold OwnI
  simpa using this
set_option maxHeartbeats 1000000 in
theorem specProfIn (d t r : Int) (w : World) (h : okMove d t r) :
    Calls Try.prog 51 #[.int .i64 d, .int .i64 t, .int .i64 r] w (RowOf (profL t r 0 d) w) := by
  obtain ⟨i0, hi0, hz0, hz1, hz2⟩ := info_parts infoInt
  obtain ⟨⟨d0, d1⟩, ⟨t0, t1⟩, r0, r1⟩ := h
  have HO := Lib.hid (ownI_empty w 3 rfl)
  have HB := Lib.hid (below_box w (.cells #[] 3))
  go_enter Try.func51, Try.ntmps51
  go_wp2_with fail
  refine (l1In_yes d 0 5000 _ d0 d1).mono ?_
  rintro e w' ⟨rfl, rfl⟩
  go_wp2_with fail
  refine (l1In_yes t 1 200 _ t0 t1).mono ?_
  rintro e w' ⟨rfl, rfl⟩
  go_wp2_with fail
  refine (l1In_yes r 1 50 _ r0 r1).mono ?_
  rintro e w' ⟨rfl, rfl⟩
  go_wp2
  generalize w.alloc (.cells #[] 3) = u0 at *
  go_loopw [0, 7, 8] (fun dd s v wr => ∃ (d2 v2 : Int) (pre : List Int), dd = .int .i64 d2 ∧ v = .int .i64 v2 ∧ 0 ≤ d2 ∧ d2 ≤ 5000 ∧ 0 ≤ v2 ∧ v2 ≤ 200 ∧ Hid (OwnI wr w.heap.size s pre) ∧ Hid (Below w.heap.size w wr) ∧ Hid (pre ++ profL t r v2 d2 = profL t r 0 d ∧ (pre.length : Int) + d2 ≤ 5000)) (fun dd _ _ _ => (intOf dd).toNat)
  case atStart => exact ⟨d, 0, [], rfl, rfl, d0, d1, by omega, by omega, HO, HB, Lib.hid ⟨rfl, by simp; omega⟩⟩
  case round =>
    obtain ⟨d2, v2, pre, rfl, rfl, p0, p1, p2, p3, HO1, HW1, HE⟩ := hrel
    clear HO HB
    by_cases hlt : 0 < d2
    · have n0 := nextI_pos v2 d2 t r (by omega) t0 r0 p2
      have n1 := nextI_hi v2 d2 t r t0 r0 p2
      have n2 := nextI_safe v2 d2 t r p0 r0
      have n3 := stopD_lo (nextI v2 d2 t r) r r0
      have HP := Lib.hid (profL_step t r v2 d2 t0 r0 p2 hlt)
      have n4 : nextI v2 d2 t r ≤ d2 := by omega
      have n5 : nextI v2 d2 t r ≤ 200 := by omega
      have HL := Lib.hid (show (pre.length : Int) + 1 ≤ 5000 by have := HE.out.2; omega)
      clear n1 n2 n3
      go_wp2_with fail
      refine (specNextIn v2 d2 t r _ p2 p3 p0 p1 t0 t1 r0 r1).mono ?_
      rintro e w' ⟨rfl, rfl⟩
      generalize nextI v2 d2 t r = n at *
      have HOa := Lib.hid (HO1.out.next (below_box wr (.cells #[.int .i64 n] 3)))
      have HWa := Lib.hid (below_call HW1.out (below_box wr (.cells #[.int .i64 n] 3)))
      have HN := Lib.hid (cell_one_new' wr (.int .i64 n) 3)
      have HH := Lib.hid HWa.out.size
      go_wp2_with (at_builtin; refine wpList_append_lies _ rfl (.tmp 31) (.tmp 33) 23 rfl w.heap.size 3 i0 (.int .i64 0) 1 8 Try.underlying23 hi0 hz0 hz1 hz2 rfl (by decide) _ pre.length (vals pre) rfl HOa.out ⟨wr.heap.size, 0, none⟩ 1 1 [.int .i64 n] rfl rfl HN.out (by intro u hu; simp at hu; subst hu; rfl) (by omega) (by have := HL.out; unfold maxLen; omega) (by have := HL.out; omega) HH.out _ rfl ?_; intro g cap w3 own3 grow3 at3 ltg; have HA3 := Lib.hid (And.intro own3 grow3); clear own3 grow3 at3 ltg)
      have HO3 := Lib.hid (show OwnI w3 w.heap.size (.slice (some ⟨g, 0, none⟩) (pre.length + 1) cap) (pre ++ [n]) by
        have h := HA3.out.1
        rw [← vals_snoc] at h
        unfold OwnI
        rw [show (pre ++ [n]).length = pre.length + 1 by simp]
        exact h)
      have HW3 := Lib.hid (show Below w.heap.size w w3 from HWa.out.grown HA3.out.2 HWa.out.size (fun k hk => (World.ownsRow.lt HOa.out k hk).1))
      go_roundw
      case rel => exact ⟨d2 - n, n, pre ++ [n], rfl, rfl, by omega, by omega, by omega, n5, HO3, HW3, Lib.hid ⟨by rw [← HE.out.1, HP.out, List.append_assoc]; rfl, by have := HE.out.2; simp; omega⟩⟩
      case measure => simp [intOf]; omega
    · have HF := Lib.hid (show pre = profL t r 0 d by rw [← HE.out.1, profL_nil t r v2 d2 (by omega), List.append_nil])
      have HOf := Lib.hid (show OwnI wr w.heap.size _ (profL t r 0 d) from HF.out ▸ HO1.out)
      obtain ⟨s, rfl, hs1, hs2⟩ := HOf.out.slv
      clear hs2
      replace hs1 := Lib.hid hs1
      go_wp2
      go_ret
      exact ⟨s, rfl, hs1.out, HOf.out, HW1.out⟩
theorem specMotionProfile (d t r : Int) (w : World) :
    Calls Try.prog 51 #[.int .i64 d, .int .i64 t, .int .i64 r] w (RowOf (profV d t r) w) := by
  by_cases h : okMove d t r
  · rw [profV_in h]; exact specProfIn d t r w h
  · rw [profV_out h]
    have HO := Lib.hid (ownI_empty w 3 rfl)
    have HB := Lib.hid (below_box w (.cells #[] 3))
    by_cases h1 : 0 ≤ d ∧ d ≤ 5000
    · by_cases h2 : 1 ≤ t ∧ t ≤ 200
      · have h3 : ¬ (1 ≤ r ∧ r ≤ 50) := fun k => h ⟨h1, h2, k⟩
        clear h
        go_enter Try.func51, Try.ntmps51
        go_wp2_with fail
        refine (l1In_yes d 0 5000 _ h1.1 h1.2).mono ?_
        rintro e w' ⟨rfl, rfl⟩
        go_wp2_with fail
        refine (l1In_yes t 1 200 _ h2.1 h2.2).mono ?_
        rintro e w' ⟨rfl, rfl⟩
        go_wp2_with fail
        refine (l1In_no r 1 50 _ (by omega)).mono ?_
        rintro e w' ⟨rfl, rfl⟩
        go_wp2
        go_ret
        exact ⟨⟨some ⟨w.heap.size, 0, none⟩, 0, 0⟩, rfl, rfl, HO.out, HB.out⟩
      · clear h
        go_enter Try.func51, Try.ntmps51
        go_wp2_with fail
        refine (l1In_yes d 0 5000 _ h1.1 h1.2).mono ?_
        rintro e w' ⟨rfl, rfl⟩
        go_wp2_with fail
        refine (l1In_no t 1 200 _ (by omega)).mono ?_
        rintro e w' ⟨rfl, rfl⟩
        go_wp2
        go_ret
        exact ⟨⟨some ⟨w.heap.size, 0, none⟩, 0, 0⟩, rfl, rfl, HO.out, HB.out⟩
    · clear h
      go_enter Try.func51, Try.ntmps51
      go_wp2_with fail
      refine (l1In_no d 0 5000 _ (by omega)).mono ?_
      rintro e w' ⟨rfl, rfl⟩
      go_wp2
      go_ret
      exact ⟨⟨some ⟨w.heap.size, 0, none⟩, 0, 0⟩, rfl, rfl, HO.out, HB.out⟩
end Go.Proofs.Ytcoaahfnbgkofaa
