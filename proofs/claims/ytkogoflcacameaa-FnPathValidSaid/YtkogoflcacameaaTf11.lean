/- Tables of cells: what the program's and the document's tests of cells and tables answer. -/
import Derived.Test.YtkogoflcacameaaBo11
import Derived.Test.YtkogoflcacameaaPl11
namespace Go.Proofs.Ytkogoflcacameaa
set_option maxRecDepth 100000
open Go.RowKit
attribute [local go_sem ↓] Go.wp_at_zero Go.wp_at_succ
theorem freeXY {T : List (List Bool)} {x y : Int} : freeV T (x, y) = true ↔ (0 ≤ x ∧ x < (T.length : Int) ∧ 0 ≤ y ∧ y < ((rowB T x.toNat).length : Int) ∧ (rowB T x.toNat).getD y.toNat false = true) := freeV_iff
theorem freeXN {T : List (List Bool)} {x y : Int} (h : ¬ (0 ≤ x ∧ x < (T.length : Int) ∧ 0 ≤ y ∧ y < ((rowB T x.toNat).length : Int) ∧ (rowB T x.toNat).getD y.toNat false = true)) : false = freeV T (x, y) := by
  cases k : freeV T (x, y) with
  | false => rfl
  | true => exact absurd (freeXY.1 k) h
theorem freeXV {T : List (List Bool)} {n m : Nat} (h1 : n < T.length) (h2 : m < (rowB T n).length) : (rowB T n).getD m false = freeV T ((n : Int), (m : Int)) := by
  rw [Bool.eq_iff_iff, freeXY]
  simp only [Int.toNat_natCast]
  constructor
  · intro h; exact ⟨by omega, by omega, by omega, by omega, h⟩
  · intro h; exact h.2.2.2.2
set_option maxHeartbeats 2000000 in
theorem isFreeC (a : Option Addr) (len cap : Nat) (T : List (List Bool)) (x y : Int) (w : World) (h : Bol.RSA w a len T) (hl : len ≤ 9223372036854775807) :
    Calls Try.prog 44 #[.slice a len cap, pt x y] w fun e w' => e = .returned (.bool (freeV T (x, y))) ∧ Below w.heap.size w w' := by
  have HB := Lib.hid (below_box w (.cells #[.int .i64 x, .int .i64 y] 33))
  have P := AtP.box w x y 33
  have HR := Lib.hid (h.next HB.out)
  have HN := Lib.hid h.1
  clear h
  go_enter Try.func44, Try.ntmps44
  go_upto_region 1 with fail
  generalize w.alloc (.cells #[.int .i64 x, .int .i64 y] 33) = w0 at *
  obtain ⟨e0, e1⟩ := P.kepts
  by_cases h1 : 0 ≤ x
  rotate_left
  · have HV := Lib.hid (freeXN (T := T) (x := x) (y := y) (fun k => h1 k.1))
    have q1 : decide (0 ≤ x) = false := decide_eq_false h1
    clear h1
    refine wp_region_kept (by kernel_rfl) (by kernel_rfl) ?_
    repeat (go_big_quiet_step (fail))
    refine wpQuiet_nil ?_
    rintro w5 ⟨⟨_, K2⟩, rfl⟩
    have HK2 := Lib.hid K2
    clear K2 e0 e1
    go_wp2
    go_ret
    exact ⟨ret_bool HV.out, below_call HB.out HK2.out⟩
  obtain ⟨n, rfl⟩ : ∃ n : Nat, x = (n : Int) := ⟨x.toNat, by omega⟩
  by_cases h2 : n < len
  rotate_left
  · have HV := Lib.hid (freeXN (T := T) (x := (n : Int)) (y := y) (fun k => h2 (by have := k.2.1; have := HN.out; omega)))
    have q1 : (0 : Int) ≤ (n : Int) := by omega
    have q2 : decide (n < len) = false := decide_eq_false (by omega)
    clear h1 h2
    refine wp_region_kept (by kernel_rfl) (by kernel_rfl) ?_
    repeat (go_big_quiet_step (fail))
    refine wpQuiet_nil ?_
    rintro w5 ⟨⟨_, K2⟩, rfl⟩
    have HK2 := Lib.hid K2
    clear K2 e0 e1
    go_wp2
    go_ret
    exact ⟨ret_bool HV.out, below_call HB.out HK2.out⟩
  obtain ⟨b, rfl, ltb, hc⟩ := HR.out.some (by omega)
  obtain ⟨⟨sa, sl, sc⟩, d1, I1, I2⟩ := hc n h2
  unfold Bol.slQ at d1
  simp only at d1 I1 I2
  have u1 := keptCell ltb d1
  have HSL := Lib.hid I1.1
  have HRB := Lib.hid (show rowB T n = T.getD n [] from rfl)
  clear hc d1
  have q1 : (0 : Int) ≤ (n : Int) := by omega
  have q2 : (n : Int) < (len : Int) := by omega
  have q6 : n < len := h2
  by_cases h3 : 0 ≤ y
  rotate_left
  · have HV := Lib.hid (freeXN (T := T) (x := (n : Int)) (y := y) (fun k => h3 k.2.2.1))
    have q3 : decide (0 ≤ y) = false := decide_eq_false h3
    clear h1 h2 h3 I1 I2
    refine wp_region_kept (by kernel_rfl) (by kernel_rfl) ?_
    repeat (go_big_quiet_step (fail))
    refine wpQuiet_nil ?_
    rintro w5 ⟨⟨_, K2⟩, rfl⟩
    have HK2 := Lib.hid K2
    clear K2 e0 e1 u1
    go_wp2
    go_ret
    exact ⟨ret_bool HV.out, below_call HB.out HK2.out⟩
  obtain ⟨m, rfl⟩ : ∃ m : Nat, y = (m : Int) := ⟨y.toNat, by omega⟩
  by_cases h4 : m < sl
  rotate_left
  · have HV := Lib.hid (freeXN (T := T) (x := (n : Int)) (y := (m : Int)) (fun k => h4 (by have := k.2.2.2.1; rw [Int.toNat_natCast, HRB.out] at this; have := HSL.out; omega)))
    have q3 : (0 : Int) ≤ (m : Int) := by omega
    have q4 : decide (m < sl) = false := decide_eq_false (by omega)
    clear h1 h2 h3 h4 I1 I2
    refine wp_region_kept (by kernel_rfl) (by kernel_rfl) ?_
    repeat (go_big_quiet_step (fail))
    refine wpQuiet_nil ?_
    rintro w5 ⟨⟨_, K2⟩, rfl⟩
    have HK2 := Lib.hid K2
    clear K2 e0 e1 u1
    go_wp2
    go_ret
    exact ⟨ret_bool HV.out, below_call HB.out HK2.out⟩
  obtain ⟨b2, o2, rfl, lt2, c2⟩ := I1.some (by omega)
  have u2 := keptCell (b := b2) (o := o2 + m) lt2 (c2 m h4)
  have HV := Lib.hid (freeXV (T := T) (n := n) (m := m) (by have := HN.out; omega) (by rw [HRB.out]; have := HSL.out; omega))
  rw [HRB.out] at HV
  have q3 : (0 : Int) ≤ (m : Int) := by omega
  have q4 : (m : Int) < (sl : Int) := by omega
  have q5 : m < sl := h4
  generalize (T.getD n []).getD m false = v at *
  clear c2
  clear h1 h2 h3 h4 I1 I2
  refine wp_region_kept (by kernel_rfl) (by kernel_rfl) ?_
  repeat (go_big_quiet_step (fail))
  refine wpQuiet_nil ?_
  rintro w5 ⟨⟨_, K2⟩, rfl⟩
  have HK2 := Lib.hid K2
  clear K2 e0 e1 u1 u2
  go_wp2
  go_ret
  exact ⟨ret_bool HV.out, below_call HB.out HK2.out⟩
set_option maxHeartbeats 2000000 in
theorem l11FreeC (a : Option Addr) (len cap : Nat) (T : List (List Bool)) (x y : Int) (w : World) (h : Bol.RSA w a len T) (hl : len ≤ 9223372036854775807) :
    Calls Try.prog 48 #[.slice a len cap, pt x y] w fun e w' => e = .returned (.bool (freeV T (x, y))) ∧ Below w.heap.size w w' := by
  have HB := Lib.hid (below_box w (.cells #[.int .i64 x, .int .i64 y] 33))
  have P := AtP.box w x y 33
  have HR := Lib.hid (h.next HB.out)
  have HN := Lib.hid h.1
  clear h
  go_enter Try.func48, Try.ntmps48
  go_upto_region 1 with fail
  generalize w.alloc (.cells #[.int .i64 x, .int .i64 y] 33) = w0 at *
  obtain ⟨e0, e1⟩ := P.kepts
  by_cases h1 : 0 ≤ x
  rotate_left
  · have HV := Lib.hid (freeXN (T := T) (x := x) (y := y) (fun k => h1 k.1))
    have hw1 : IntKind.i64.wrap ((len : Int) - 1) = (len : Int) - 1 := wrap_in (by omega) (by omega)
    have HC1 := Lib.hid (fun (q : Kept w0) => keptSame (l1In_no x 0 ((len : Int) - 1) q.u (by omega)))
    clear h1
    refine wp_region_kept (by kernel_rfl) (by kernel_rfl) ?_
    repeat (go_big_quiet_step ((go_at_call 38; with_reducible exact HC1.out _)))
    refine wpQuiet_nil ?_
    rintro w5 ⟨⟨_, K2⟩, rfl⟩
    have HK2 := Lib.hid K2
    clear K2 e0 e1
    go_wp2
    go_ret
    exact ⟨ret_bool HV.out, below_call HB.out HK2.out⟩
  obtain ⟨n, rfl⟩ : ∃ n : Nat, x = (n : Int) := ⟨x.toNat, by omega⟩
  by_cases h2 : n < len
  rotate_left
  · have HV := Lib.hid (freeXN (T := T) (x := (n : Int)) (y := y) (fun k => h2 (by have := k.2.1; have := HN.out; omega)))
    have hw1 : IntKind.i64.wrap ((len : Int) - 1) = (len : Int) - 1 := wrap_in (by omega) (by omega)
    have HC1 := Lib.hid (fun (q : Kept w0) => keptSame (l1In_no (n : Int) 0 ((len : Int) - 1) q.u (by omega)))
    clear h1 h2
    refine wp_region_kept (by kernel_rfl) (by kernel_rfl) ?_
    repeat (go_big_quiet_step ((go_at_call 38; with_reducible exact HC1.out _)))
    refine wpQuiet_nil ?_
    rintro w5 ⟨⟨_, K2⟩, rfl⟩
    have HK2 := Lib.hid K2
    clear K2 e0 e1
    go_wp2
    go_ret
    exact ⟨ret_bool HV.out, below_call HB.out HK2.out⟩
  obtain ⟨b, rfl, ltb, hc⟩ := HR.out.some (by omega)
  obtain ⟨⟨sa, sl, sc⟩, d1, I1, I2⟩ := hc n h2
  unfold Bol.slQ at d1
  simp only at d1 I1 I2
  have u1 := keptCell ltb d1
  have HSL := Lib.hid I1.1
  have HRB := Lib.hid (show rowB T n = T.getD n [] from rfl)
  clear hc d1
  have q1 : (0 : Int) ≤ (n : Int) := by omega
  have q2 : (n : Int) < (len : Int) := by omega
  have q6 : n < len := h2
  have hw1 : IntKind.i64.wrap ((len : Int) - 1) = (len : Int) - 1 := wrap_in (by omega) (by omega)
  have HC1 := Lib.hid (fun (q : Kept w0) => keptSame (l1In_yes (n : Int) 0 ((len : Int) - 1) q.u (by omega) (by omega)))
  by_cases h3 : 0 ≤ y
  rotate_left
  · have HV := Lib.hid (freeXN (T := T) (x := (n : Int)) (y := y) (fun k => h3 k.2.2.1))
    have hw2 : IntKind.i64.wrap ((sl : Int) - 1) = (sl : Int) - 1 := wrap_in (by omega) (by omega)
    have HC2 := Lib.hid (fun (q : Kept w0) => keptSame (l1In_no y 0 ((sl : Int) - 1) q.u (by omega)))
    clear h1 h2 h3 I1 I2
    refine wp_region_kept (by kernel_rfl) (by kernel_rfl) ?_
    repeat (go_big_quiet_step (first | (go_at_call 38; with_reducible exact HC1.out _) | (go_at_call 38; with_reducible exact HC2.out _)))
    refine wpQuiet_nil ?_
    rintro w5 ⟨⟨_, K2⟩, rfl⟩
    have HK2 := Lib.hid K2
    clear K2 e0 e1 u1
    go_wp2
    go_ret
    exact ⟨ret_bool HV.out, below_call HB.out HK2.out⟩
  obtain ⟨m, rfl⟩ : ∃ m : Nat, y = (m : Int) := ⟨y.toNat, by omega⟩
  by_cases h4 : m < sl
  rotate_left
  · have HV := Lib.hid (freeXN (T := T) (x := (n : Int)) (y := (m : Int)) (fun k => h4 (by have := k.2.2.2.1; rw [Int.toNat_natCast, HRB.out] at this; have := HSL.out; omega)))
    have hw2 : IntKind.i64.wrap ((sl : Int) - 1) = (sl : Int) - 1 := wrap_in (by omega) (by omega)
    have HC2 := Lib.hid (fun (q : Kept w0) => keptSame (l1In_no (m : Int) 0 ((sl : Int) - 1) q.u (by omega)))
    clear h1 h2 h3 h4 I1 I2
    refine wp_region_kept (by kernel_rfl) (by kernel_rfl) ?_
    repeat (go_big_quiet_step (first | (go_at_call 38; with_reducible exact HC1.out _) | (go_at_call 38; with_reducible exact HC2.out _)))
    refine wpQuiet_nil ?_
    rintro w5 ⟨⟨_, K2⟩, rfl⟩
    have HK2 := Lib.hid K2
    clear K2 e0 e1 u1
    go_wp2
    go_ret
    exact ⟨ret_bool HV.out, below_call HB.out HK2.out⟩
  obtain ⟨b2, o2, rfl, lt2, c2⟩ := I1.some (by omega)
  have u2 := keptCell (b := b2) (o := o2 + m) lt2 (c2 m h4)
  have HV := Lib.hid (freeXV (T := T) (n := n) (m := m) (by have := HN.out; omega) (by rw [HRB.out]; have := HSL.out; omega))
  rw [HRB.out] at HV
  have q3 : (0 : Int) ≤ (m : Int) := by omega
  have q4 : (m : Int) < (sl : Int) := by omega
  have q5 : m < sl := h4
  generalize (T.getD n []).getD m false = v at *
  clear c2
  have hw2 : IntKind.i64.wrap ((sl : Int) - 1) = (sl : Int) - 1 := wrap_in (by omega) (by omega)
  have HC2 := Lib.hid (fun (q : Kept w0) => keptSame (l1In_yes (m : Int) 0 ((sl : Int) - 1) q.u (by omega) (by omega)))
  clear h1 h2 h3 h4 I1 I2
  refine wp_region_kept (by kernel_rfl) (by kernel_rfl) ?_
  repeat (go_big_quiet_step (first | (go_at_call 38; with_reducible exact HC1.out _) | (go_at_call 38; with_reducible exact HC2.out _)))
  refine wpQuiet_nil ?_
  rintro w5 ⟨⟨_, K2⟩, rfl⟩
  have HK2 := Lib.hid K2
  clear K2 e0 e1 u1 u2
  go_wp2
  go_ret
  exact ⟨ret_bool HV.out, below_call HB.out HK2.out⟩
set_option maxHeartbeats 2000000 in
theorem l11SquareC (a : Option Addr) (len cap : Nat) (T : List (List Bool)) (w : World) (h : Bol.RSA w a len T) (hl : len ≤ 9223372036854775807) :
    Calls Try.prog 47 #[.slice a len cap] w fun e w' => e = .returned (.bool (decide (squV T))) ∧ Below w.heap.size w w' := by
  have HN := Lib.hid h.1
  have HR := Lib.hid h
  clear h
  go_enter Try.func47, Try.ntmps47
  go_wp2
  go_loopw [3] (fun i wr => ∃ k : Nat, k ≤ len ∧ i = .int .i64 (k : Int) ∧ Hid (∀ j, j < k → (rowB T j).length = (rowB T 0).length ∧ (rowB T j).length ≤ 20) ∧ Hid (Below w.heap.size w wr)) (fun i _ => len - (intOf i).toNat)
  case atStart => exact ⟨0, Nat.zero_le _, rfl, Lib.hid (fun j hj => by omega), Lib.hid (Below.refl _ _)⟩
  case round =>
    obtain ⟨k, hk, rfl, HJ, HW⟩ := hrel
    by_cases hlt : k < len
    · obtain ⟨b, rfl, ltb, hc⟩ := (HR.out.next HW.out).some (by omega)
      obtain ⟨⟨sa, sl, sc⟩, d1, I1, I2⟩ := hc k hlt
      obtain ⟨⟨ta, tl, tc⟩, d2, J1, J2⟩ := hc 0 (by omega)
      unfold Bol.slQ at d1 d2
      simp only at d1 d2 I1 I2 J1 J2
      have u1 := keptCell ltb d1
      have u2 := keptCell ltb d2
      have HL1 := Lib.hid (show sl = (rowB T k).length from I1.1)
      have HL2 := Lib.hid (show tl = (rowB T 0).length from J1.1)
      have j1 : (0 : Int) ≤ (k : Int) := by omega
      have j2 : (k : Int) < (len : Int) := by omega
      have j3 : (0 : Int) < (len : Int) := by omega
      clear hc d1 d2 I1 J1
      by_cases h1 : sl = tl
      · have q1 : ((sl : Int) != (tl : Int)) = false := by simp [h1]
        by_cases h2 : sl ≤ 20
        · have q2 : ¬ ((20 : Int) < (sl : Int)) := by omega
          have HJ2 : Hid (∀ j, j < k + 1 → (rowB T j).length = (rowB T 0).length ∧ (rowB T j).length ≤ 20) := Lib.hid fun j hj => by
            by_cases e : j = k
            · subst e; rw [← HL1.out, ← HL2.out]; exact ⟨h1, h2⟩
            · exact HJ.out j (by omega)
          replace h1 := Lib.hid h1
          clear h2
          go_upto_region 4 with fail
          refine wp_region_kept (by kernel_rfl) (by kernel_rfl) ?_
          repeat (go_big_quiet_step (fail))
          refine wpQuiet_nil ?_
          rintro w5 ⟨⟨_, K2⟩, rfl⟩
          have HW5 := Lib.hid (below_call HW.out K2)
          clear u1 u2 K2
          go_wp2
          go_roundw
          case rel => exact ⟨k + 1, by omega, by congr 1, HJ2, HW5⟩
          case measure => simp [intOf]; omega
        · have q2 : (20 : Int) < (sl : Int) := by omega
          have HV := Lib.hid (show false = decide (squV T) from (decide_eq_false (fun q => h2 (by rw [HL1.out]; exact (q.2 k (by have := HN.out; omega)).2))).symm)
          replace h1 := Lib.hid h1
          clear h2
          go_upto_region 4 with fail
          refine wp_region_kept (by kernel_rfl) (by kernel_rfl) ?_
          repeat (go_big_quiet_step (fail))
          refine wpQuiet_nil ?_
          rintro w5 ⟨⟨_, K2⟩, rfl⟩
          have HW5 := Lib.hid (below_call HW.out K2)
          clear u1 u2 K2
          go_wp2
          go_ret
          exact ⟨ret_bool HV.out, HW5.out⟩
      · have q1 : ((sl : Int) != (tl : Int)) = true := by simp; omega
        have HV := Lib.hid (show false = decide (squV T) from (decide_eq_false (fun q => h1 (by rw [HL1.out, HL2.out]; exact (q.2 k (by have := HN.out; omega)).1))).symm)
        replace h1 := Lib.hid h1
        go_upto_region 4 with fail
        refine wp_region_kept (by kernel_rfl) (by kernel_rfl) ?_
        repeat (go_big_quiet_step (fail))
        refine wpQuiet_nil ?_
        rintro w5 ⟨⟨_, K2⟩, rfl⟩
        have HW5 := Lib.hid (below_call HW.out K2)
        clear u1 u2 K2
        go_wp2
        go_ret
        exact ⟨ret_bool HV.out, HW5.out⟩
    · obtain rfl : k = len := by omega
      have j2 : ¬ ((k : Int) < (k : Int)) := by omega
      have HV := Lib.hid (show decide ((k : Int) ≤ 20) = decide (squV T) from Bool.eq_iff_iff.2 (by simp only [decide_eq_true_eq]; exact ⟨fun q => ⟨by have := HN.out; omega, fun j hj => HJ.out j (by have := HN.out; omega)⟩, fun q => by have := q.1; have := HN.out; omega⟩))
      go_wp2
      go_ret
      exact ⟨ret_bool HV.out, HW.out⟩
set_option maxHeartbeats 2000000 in
theorem tableValid (a : Option Addr) (len cap : Nat) (T : List (List Bool)) (w : World) (h : Bol.RSA w a len T) (hl : len ≤ 9223372036854775807) :
    Calls Try.prog 43 #[.slice a len cap] w fun e w' => e = .returned (.bool (decide (squV T))) ∧ Below w.heap.size w w' := by
  have HN := Lib.hid h.1
  have HR := Lib.hid h
  clear h
  by_cases h20 : len ≤ 20
  rotate_left
  · have HV := Lib.hid (show false = decide (squV T) from (decide_eq_false (fun q => h20 (by have := q.1; have := HN.out; omega))).symm)
    have q2 : (20 : Int) < (len : Int) := by omega
    clear h20
    go_enter Try.func43, Try.ntmps43
    go_wp2
    go_ret
    exact ⟨ret_bool HV.out, Below.refl _ _⟩
  have q20 : ¬ ((20 : Int) < (len : Int)) := by omega
  go_enter Try.func43, Try.ntmps43
  go_wp2
  go_loopw [10] (fun i wr => ∃ k : Nat, k ≤ len ∧ i = .int .i64 (k : Int) ∧ Hid (∀ j, j < k → (rowB T j).length = (rowB T 0).length ∧ (rowB T j).length ≤ 20) ∧ Hid (Below w.heap.size w wr)) (fun i _ => len - (intOf i).toNat)
  case atStart => exact ⟨0, Nat.zero_le _, rfl, Lib.hid (fun j hj => by omega), Lib.hid (Below.refl _ _)⟩
  case round =>
    obtain ⟨k, hk, rfl, HJ, HW⟩ := hrel
    by_cases hlt : k < len
    · obtain ⟨b, rfl, ltb, hc⟩ := (HR.out.next HW.out).some (by omega)
      obtain ⟨⟨sa, sl, sc⟩, d1, I1, I2⟩ := hc k hlt
      obtain ⟨⟨ta, tl, tc⟩, d2, J1, J2⟩ := hc 0 (by omega)
      unfold Bol.slQ at d1 d2
      simp only at d1 d2 I1 I2 J1 J2
      have HL1 := Lib.hid (show sl = (rowB T k).length from I1.1)
      have HL2 := Lib.hid (show tl = (rowB T 0).length from J1.1)
      have j1 : (0 : Int) ≤ (k : Int) := by omega
      have j2 : (k : Int) < (len : Int) := by omega
      have j3 : (0 : Int) < (len : Int) := by omega
      clear hc I1 J1
      by_cases h2 : sl ≤ 20
      · have q2 : ¬ ((20 : Int) < (sl : Int)) := by omega
        by_cases h1 : sl = tl
        · have q1 : ((sl : Int) != (tl : Int)) = false := by simp [h1]
          have HJ2 : Hid (∀ j, j < k + 1 → (rowB T j).length = (rowB T 0).length ∧ (rowB T j).length ≤ 20) := Lib.hid fun j hj => by
            by_cases e : j = k
            · subst e; rw [← HL1.out, ← HL2.out]; exact ⟨h1, h2⟩
            · exact HJ.out j (by omega)
          replace h1 := Lib.hid h1
          clear h2
          go_wp2
          go_roundw
          case rel => exact ⟨k + 1, by omega, by congr 1, HJ2, HW⟩
          case measure => simp [intOf]; omega
        · have q1 : ((sl : Int) != (tl : Int)) = true := by simp; omega
          have HV := Lib.hid (show false = decide (squV T) from (decide_eq_false (fun q => h1 (by rw [HL1.out, HL2.out]; exact (q.2 k (by have := HN.out; omega)).1))).symm)
          replace h1 := Lib.hid h1
          clear h2
          go_wp2
          go_ret
          exact ⟨ret_bool HV.out, HW.out⟩
      · have q2 : (20 : Int) < (sl : Int) := by omega
        have HV := Lib.hid (show false = decide (squV T) from (decide_eq_false (fun q => h2 (by rw [HL1.out]; exact (q.2 k (by have := HN.out; omega)).2))).symm)
        clear h2
        go_wp2
        go_ret
        exact ⟨ret_bool HV.out, HW.out⟩
    · obtain rfl : k = len := by omega
      have j2 : ¬ ((k : Int) < (k : Int)) := by omega
      have HV := Lib.hid (show true = decide (squV T) from (decide_eq_true (p := squV T) ⟨by have := HN.out; omega, fun j hj => HJ.out j (by have := HN.out; omega)⟩).symm)
      go_wp2
      go_ret
      exact ⟨ret_bool HV.out, HW.out⟩
end Go.Proofs.Ytkogoflcacameaa
