/- What the law on corners draws: a planned path, or 399 to 401 cells of which all coordinates are 0. -/
import Derived.Test.YtkogoflcacameaaDp11
import Derived.Laws.MakeOwn
namespace Go.Proofs.Ytkogoflcacameaa
set_option maxRecDepth 100000
open Go.RowKit
attribute [local go_sem ↓] Go.wp_at_zero Go.wp_at_succ
/-- What the draw of a path for its corners says: a planned path, or cells of which all coordinates are 0. -/
def GotPC (w : World) (e : Ending) (w' : World) : Prop :=
  ∃ (s : Sl) (L : List C2), e = .returned (.slice s.a s.len s.cap) ∧ s.len = L.length ∧ Cel.PtsAt w' s.a s.len L ∧ ((∃ T a b, L = planV T a b) ∨ ∃ n, L = List.replicate n (0, 0) ∧ n ≤ 401) ∧ Below w.heap.size w w'
theorem zerosV (n : Nat) : Cel.pvals (List.replicate n (0, 0)) = Cel.cpart (fun _ => 0) (fun _ => 0) (n * 2) (0 * 2) := by
  apply List.ext_getElem?
  intro i
  by_cases hi : i < n * 2
  · rw [Cel.pvals_at _ i (by simpa using hi), Cel.cpart_at _ _ _ _ i hi]
    have e : (List.replicate n ((0 : Int), (0 : Int))).getD (i / 2) (0, 0) = (0, 0) := by
      rw [List.getD_eq_getElem?_getD, List.getElem?_replicate]
      split <;> rfl
    unfold Cel.cz
    rw [e]
    simp
  · rw [List.getElem?_eq_none (by rw [Cel.pvals_len]; simp; omega), List.getElem?_eq_none (by rw [Cel.cpart_len]; omega)]
set_option maxHeartbeats 4000000 in
theorem drawPathCorners (w : World) (a : Option Addr) (len cap : Nat) (zs : List Int) (h : Bytes w a len cap zs) :
    Calls Try.prog 25 #[.slice a len cap] w (GotPC w) := by
  obtain ⟨i0, hi0, hz0, hz1, hz2⟩ := info_parts Cel.infoPt6
  go_enter Try.func25, Try.ntmps25
  go_wp2_with fail
  refine (gopen w _ a len cap zs h (Below.refl _ _) w.heap.size rfl).mono ?_
  rintro e w1 ⟨rfl, hr1, H1⟩
  have hlt1 := hr1.lt
  clear h
  go_wp2_with fail
  refine (drawTable _ _ _ 0 _ hr1 (by omega) (by omega) (by omega)).mono ?_
  rintro e w2 ⟨s, T, rfl, hF2, hT1, hT2, hr2, hg2⟩
  have H2 := H1.grown hg2 H1.size (fun k hk => by injection hk with hk; omega)
  have hT3 := hT2 0 (by omega)
  have hrl : ∀ i, i < T.length → (T.getD i []).length ≤ 1048576 := fun i hi => by have := hT2 i hi; omega
  clear H1 hg2 hr1
  go_wp2_with fail
  refine (drawCell w _ _ _ _ s T hr2 H2 (by omega) hF2 (by omega) hT1 hT3).mono ?_
  rintro e w3 ⟨⟨cx, cy⟩, hc, rfl, hr3, hg3⟩
  have H3 := H2.grown hg3 H2.size (fun k hk => by injection hk with hk; omega)
  have hF3 := hF2.kept hg3 (fun k hk => by injection hk with hk; omega)
  clear hr2 hg3 hF2 H2 hc
  go_wp2_with fail
  refine (drawCell w _ _ _ _ s T hr3 H3 (by omega) hF3 (by omega) hT1 hT3).mono ?_
  rintro e w4 ⟨⟨dx, dy⟩, hd, rfl, hr4, hg4⟩
  have hlt4 := hr4.lt
  have H4 := H3.grown hg4 H3.size (fun k hk => by injection hk with hk; omega)
  have hF4 := hF3.kept hg4 (fun k hk => by injection hk with hk; omega)
  have hR := hF4.rsa hrl
  have hsl : s.len ≤ 9223372036854775807 := by have := hF4.1; omega
  clear hr3 hg4 hF3 H3 hd
  go_wp2_with fail
  refine (specPlanPath s.a s.len s.cap T (cx, cy) (dx, dy) _ hR hsl).mono ?_
  rintro e w5 ⟨⟨pa, pl, pc⟩, rfl, hp, O5, B5⟩
  have H5 := below_call H4 B5
  have hr5 : Rd w.heap.size (0 + 40 + 4 + 4) w5 w.heap.size := hr4.kept (below_grown B5) (by simp) (fun k e => by cases e)
  simp only at O5 hp
  have HO := Lib.hid O5
  have h45 : w.heap.size < w4.heap.size := hlt4
  have HP := Lib.hid hp
  have hlt5 := hr5.lt
  clear O5 B5 H4 hF4 hR hr4 hp hsl hT1 hT2 hT3 hrl
  go_wp2_with fail
  refine (oddT _ _ _ 9 _ hr5 (by omega) (by omega) (by omega)).mono ?_
  rintro e w6 ⟨b, rfl, hr6, hg6⟩
  have H6 := Lib.hid (H5.grown hg6 H5.size (fun k hk => by injection hk with hk; omega))
  cases b
  · have O6 := Lib.hid (HO.out.same (fun g e => hg6.block g (World.ownsRow.lt HO.out g e).2 (fun q => by injection q with q; have := World.ownsRow.lt HO.out g e; omega))).ints
    clear HO hg6 hr6 hr5 H5
    go_wp2
    go_ret
    exact ⟨⟨pa, pl, pc⟩, _, rfl, HP.out, O6.out, .inl ⟨T, _, _, rfl⟩, H6.out⟩
  · clear HO HP H5 hg6 hr5
    go_wp2_with fail
    refine (pick _ _ _ 3 _ hr6 (by omega)).mono ?_
    rintro e w7 ⟨x, x0, x1', rfl, hr7, hg7, -⟩
    have x1 := x1' (by omega)
    obtain ⟨N, hN⟩ : ∃ N : Nat, 399 + x = (N : Int) := ⟨(399 + x).toNat, by omega⟩
    have hN1 : N ≤ 401 := by omega
    have o1 : IntKind.i64.wrap (399 + x) = (N : Int) := by rw [hN]; exact IntWalk.i64_in _ (by omega)
    have H7 := Lib.hid (H6.out.grown hg7 H6.out.size (fun k hk => by injection hk with hk; omega))
    have HM := Lib.hid (Cel.made6 (fun _ => 0) N)
    have HZ := Lib.hid (zerosV N)
    clear x1' hN hr6 hr7 hg7 H6 x0 x1
    go_wp2_with (first
      | (at_make; refine wpList_make_full _ rfl _ _ 42 rfl w7.heap.size 33 i0 (pt 0 0) 2 Try.underlying42 hi0 hz0 hz1 .i64 .i64 _ _ N rfl rfl (by omega) (by omega) (by rw [hz2]; omega) (by unfold maxLen; omega) (Nat.le_refl _) ?_; intro w8 own8 grow8; have HA := Lib.hid own8; have HG := Lib.hid (show Below w7.heap.size w7 w8 from (Below.refl _ _).grown grow8 (Nat.le_refl _) (fun k hk => by cases hk)); clear own8 grow8))
    go_ret
    have hO : Cel.OwnPt w8 w7.heap.size (.slice (some ⟨w7.heap.size, 0, none⟩) N N) (List.replicate N (0, 0)) := by
      unfold Cel.OwnPt
      rw [HZ.out, List.length_replicate, ← HM.out]
      exact HA.out
    exact ⟨⟨some ⟨w7.heap.size, 0, none⟩, N, N⟩, List.replicate N (0, 0), rfl, by simp, hO.ints, .inr ⟨N, rfl, hN1⟩, below_call H7.out HG.out⟩
end Go.Proofs.Ytkogoflcacameaa
