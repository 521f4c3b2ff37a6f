/- The walk of the law FnCurvePoints: it returns true at every code. -/
import Derived.Test.YtlbheofomjakmaaWc7
import Derived.Test.YtlbheofomjakmaaSr7
namespace Go.Proofs.Ytlbheofomjakmaa
set_option maxRecDepth 100000
open Go.RowKit
attribute [local go_sem ↓] Go.wp_at_zero Go.wp_at_succ
theorem div64 : ∀ m : Fin 65, 1 ≤ m.val → (64 : Int) % (m.val : Int) = 0 → m.val = 64 ∨ (m.val ≤ 32 ∧ (64 : Int) % (2 * (m.val : Int)) = 0 ∧ 2 * ((64 : Int) / (2 * (m.val : Int))) = 64 / (m.val : Int)) := by decide +kernel
theorem div64' (m : Nat) (h1 : 1 ≤ m) (h2 : m ≤ 64) (h3 : (64 : Int) % (m : Int) = 0) : m = 64 ∨ (m ≤ 32 ∧ (64 : Int) % (2 * (m : Int)) = 0 ∧ 2 * ((64 : Int) / (2 * (m : Int))) = 64 / (m : Int)) :=
  div64 ⟨m, by omega⟩ h1 h3
theorem crvL_fine (ps : List (Int × Int)) (m k : Nat) (hk : k ≤ m) (h : 2 * ((64 : Int) / (2 * (m : Int))) = 64 / (m : Int)) : (crvL ps (2 * m)).getD (2 * k) (0, 0) = (crvL ps m).getD k (0, 0) := by
  rw [crvL_at ps (2 * m) (2 * k) (by omega), crvL_at ps m k hk]
  have e : ((2 * k : Nat) : Int) * (64 / ((2 * m : Nat) : Int)) = (k : Int) * (64 / (m : Int)) := by
    rw [← h, Int.natCast_mul, Int.natCast_mul]
    show 2 * (k : Int) * (64 / (2 * (m : Int))) = (k : Int) * (2 * (64 / (2 * (m : Int))))
    rw [Int.mul_comm 2 (k : Int), Int.mul_assoc]
  rw [e]
set_option maxHeartbeats 4000000 in
theorem walkFnCurvePoints (w : World) (a : Option Addr) (len cap : Nat) (zs : List Int) (h : Bytes w a len cap zs) :
    Calls Try.prog 5 #[.slice a len cap] w fun e w' => e = .returned (.bool true) ∧ Below w.heap.size w w' := by
  have hle := h.len_le
  obtain ⟨hl, hm⟩ := hle
  unfold maxLen at hm
  by_cases hlen : len ≤ 1048576
  · go_enter Try.func5, Try.ntmps5
    go_wp2_with fail
    refine (drawCurvePoints w a len cap zs h).mono ?_
    rintro e w1 ⟨s, ps, n, rfl, hsl, hn, _, O, t0, t1, B1⟩
    have hs5 : s.len ≤ 5 := by omega
    have HB := Lib.hid B1
    clear B1 h hsl hn
    have HLEN := Lib.hid (crvV_len ps n)
    generalize hL : crvV ps n = L at *
    have HE := Lib.hid hL
    clear hL
    go_wp2_with fail
    refine (implCurvePoints s.a s.len s.cap ps n _ O.ints (by omega)).mono ?_
    rw [HE.out]
    rintro e w2 ⟨⟨ra, rl, rc⟩, rfl, l2, O2, B2⟩
    simp only at *
    have hrl : rl ≤ 65 := by rw [l2]; exact HLEN.out
    have HLL := Lib.hid l2
    replace O := O.next B2
    replace HB := Lib.hid (below_call HB.out B2)
    clear B2 l2
    go_wp2_with fail
    refine (specCurvePoints s.a s.len s.cap ps n _ O.ints (by omega)).mono ?_
    rw [HE.out]
    rintro e w3 ⟨⟨ta, tl, tc⟩, rfl, l3, O3, B3⟩
    clear l3
    simp only at *
    replace O := O.next B3
    replace O2 := O2.next B3
    replace HB := Lib.hid (below_call HB.out B3)
    clear B3
    go_wp2_with fail
    refine (samePoints _ _ _ _ _ _ L _ O2.ints O3.ints (by omega)).mono ?_
    rintro e w4 ⟨rfl, B4⟩
    replace O := O.next B4
    replace O2 := O2.next B4
    replace HB := Lib.hid (below_call HB.out B4)
    clear B4 O3
    by_cases hok : okCrvs ps n
    · have HE2 := HE.out
      rw [crvV_in hok] at HE2
      obtain ⟨hk, n1, n2, n3⟩ := hok
      obtain ⟨m, rfl⟩ : ∃ m : Nat, n = (m : Int) := ⟨n.toNat, by omega⟩
      rw [Int.toNat_natCast] at HE2
      have hrm : rl = m + 1 := by rw [HLL.out, ← HE2, crvL_len]
      subst hrm
      rw [← HE2] at O2
      have e0 : ((((m + 1 : Nat) : Int)) == 0) = false := by simp; omega
      have z5 : (((m + 1 : Nat) : Int) == (m : Int) + 1) = true := by simp
      have HF := Lib.hid (implCurvePoints s.a s.len s.cap ps (2 * (m : Int)) w4 O.ints (by omega))
      rcases div64' m (by omega) (by omega) n3 with rfl | ⟨m32, d1, d2⟩
      · rw [crvV_out (fun h => by have := h.2.2.1; omega)] at HF
        have z6 : (((64 : Nat) : Int) == 64) = true := rfl
        clear hk n3 HE HE2 HLL HLEN O
        go_wp2_with fail
        refine HF.out.mono ?_
        rintro e w5 ⟨⟨fa, fl, fc⟩, rfl, l5, _, B5⟩
        simp only [List.length_nil] at l5
        subst l5
        replace HB := Lib.hid (below_call HB.out B5)
        clear B5 HF O2
        go_wp2
        go_loopw [7] (fun i wr => i = .int .i64 0 ∧ Hid (Below w5.heap.size w5 wr)) (fun _ _ => 0)
        case atStart => exact ⟨rfl, Lib.hid (Below.refl _ _)⟩
        case round =>
          obtain ⟨rfl, HW⟩ := hrel
          go_wp2
          go_ret
          exact ⟨rfl, below_call HB.out HW.out⟩
      · have hok2 : okCrvs ps (2 * (m : Int)) := ⟨hk, by omega, by omega, d1⟩
        rw [crvV_in hok2, show (2 * (m : Int)).toNat = 2 * m by omega] at HF
        have HFI := Lib.hid (fun (k : Nat) (hk : k ≤ m) => crvL_fine ps m k hk d2)
        have HFL := Lib.hid (crvL_len ps (2 * m))
        have z6 : ((m : Int) == 64) = false := by simp; omega
        have z7 : (((2 * m + 1 : Nat) : Int) == 2 * (m : Int) + 1) = true := by simp
        clear hk n3 HE HE2 HLL HLEN O hok2 d1 d2
        go_wp2_with fail
        refine HF.out.mono ?_
        rintro e w5 ⟨⟨fa, fl, fc⟩, rfl, l5, O5, B5⟩
        simp only at *
        rw [HFL.out] at l5
        subst l5
        replace HB := Lib.hid (below_call HB.out B5)
        replace O2 := O2.next B5
        clear B5 HF
        obtain ⟨b1, rfl, lt1, hc1⟩ := O2.ints.some (by omega)
        obtain ⟨b2, rfl, lt2, hc2⟩ := O5.ints.some (by omega)
        have HC1 := Lib.hid hc1
        have HC2 := Lib.hid hc2
        have HLT := Lib.hid (And.intro lt1 lt2)
        clear hc1 hc2 lt1 lt2 O2 O5
        go_wp2
        go_loopw [7] (fun i wr => ∃ k : Nat, k ≤ m + 1 ∧ i = .int .i64 (k : Int) ∧ Hid (Below w5.heap.size w5 wr)) (fun i _ => m + 1 - (intOf i).toNat)
        case atStart => exact ⟨0, Nat.zero_le _, rfl, Lib.hid (Below.refl _ _)⟩
        case round =>
          obtain ⟨k, hk, rfl, HW⟩ := hrel
          by_cases hlt : k < m + 1
          · obtain ⟨c0, c1⟩ := HC1.out k hlt
            obtain ⟨c2, c3⟩ := HC2.out (2 * k) (by omega)
            rw [HFI.out k (by omega)] at c2 c3
            have d0 := keptCell (Nat.lt_of_lt_of_le HLT.out.1 HW.out.size) ((HW.out.cell (p := ⟨b1, k * 2, none⟩) HLT.out.1).trans c0)
            have d1 := keptCell (Nat.lt_of_lt_of_le HLT.out.1 HW.out.size) ((HW.out.cell (p := ⟨b1, k * 2 + 1, none⟩) HLT.out.1).trans c1)
            have d2 := keptCell (Nat.lt_of_lt_of_le HLT.out.2 HW.out.size) ((HW.out.cell (p := ⟨b2, 2 * k * 2, none⟩) HLT.out.2).trans c2)
            have d3 := keptCell (Nat.lt_of_lt_of_le HLT.out.2 HW.out.size) ((HW.out.cell (p := ⟨b2, 2 * k * 2 + 1, none⟩) HLT.out.2).trans c3)
            generalize ((crvL ps m).getD k (0, 0)).1 = x at *
            generalize ((crvL ps m).getD k (0, 0)).2 = y at *
            have y1 : (x != x) = false := by simp
            have y2 : (y != y) = false := by simp
            have y3 : (x == x) = true := by simp
            have y4 : (y == y) = true := by simp
            have j1 : (0 : Int) ≤ (k : Int) := by omega
            have j2 : (k : Int) < ((m + 1 : Nat) : Int) := by omega
            have j3 : (k : Int) < (m : Int) + 1 := by omega
            have j4 : (0 : Int) < ((2 * m + 1 : Nat) : Int) := by omega
            have j5 : (0 : Int) ≤ 2 * (k : Int) := by omega
            have j6 : 2 * (k : Int) < 2 * (m : Int) + 1 := by omega
            have j7 : (2 * (k : Int)).toNat = 2 * k := by omega
            have j8 : IntKind.i64.wrap (2 * (k : Int)) = 2 * (k : Int) := wrap_in (by omega) (by omega)
            clear c0 c1 c2 c3
            go_wp2
            refine wp_region_kept (by kernel_rfl) (by kernel_rfl) ?_
            repeat (go_big_quiet_step (fail))
            refine wpQuiet_nil ?_
            rintro w7 ⟨⟨_, K7⟩, rfl⟩
            have HW7 := Lib.hid (below_call HW.out K7)
            clear j8 j7
            go_wp2
            go_roundw
            case rel => exact ⟨k + 1, by omega, by congr 1, HW7⟩
            case measure => simp [intOf]; omega
          · obtain rfl : k = m + 1 := by omega
            have j2 : ¬ (((m + 1 : Nat) : Int) < ((m + 1 : Nat) : Int)) := by omega
            go_wp2
            go_ret
            exact ⟨rfl, below_call HB.out HW.out⟩
    · have HE2 := HE.out
      rw [crvV_out hok] at HE2
      have hr0 : rl = 0 := by rw [HLL.out, ← HE2]; rfl
      subst hr0
      clear hok HE HE2 HLL HLEN O O2
      go_wp2_with fail
      refine (alive _).mono ?_
      rintro e w' ⟨rfl, rfl⟩
      go_wp2
      go_ret
      exact ⟨rfl, HB.out⟩
  · clear h
    go_enter Try.func5, Try.ntmps5
    go_wp2
    go_ret
    exact ⟨rfl, Below.refl _ _⟩
end Go.Proofs.Ytlbheofomjakmaa
