/- ProfileValid, the document's and the program's: whether a list is a motion from rest to rest. -/
import Derived.Test.YtcamnkoiddighaaMo5
namespace Go.Proofs.Ytcamnkoiddighaa
set_option maxRecDepth 100000
open Go.RowKit
theorem validP_lim {t r : Int} {zs : List Int} (h : ¬ ((1 ≤ t ∧ t ≤ 200) ∧ (1 ≤ r ∧ r ≤ 50))) : decide (validP t r zs) = false := decide_eq_false fun k => h ⟨k.1, k.2.1⟩
theorem validP_len {t r : Int} {zs : List Int} (h : ¬ zs.length ≤ 5000) : decide (validP t r zs) = false := decide_eq_false fun k => h k.2.2.1
theorem validP_in {t r : Int} {zs : List Int} (h : (1 ≤ t ∧ t ≤ 200) ∧ (1 ≤ r ∧ r ≤ 50)) (hl : zs.length ≤ 5000) : validP t r zs ↔ okProf t r 0 zs := ⟨fun k => k.2.2.2, fun k => ⟨h.1, h.2, hl, k⟩⟩
theorem drop_at (zs : List Int) (j : Nat) (h : j < zs.length) : zs.drop j = zs.getD j 0 :: zs.drop (j + 1) := by
  rw [List.drop_eq_getElem_cons h, List.getD_eq_getElem?_getD, List.getElem?_eq_getElem h]; rfl
theorem drop_all (zs : List Int) : zs.drop zs.length = [] := List.drop_length
set_option maxHeartbeats 1000000 in
theorem specProfileValidIn (a : Option Addr) (len cap : Nat) (zs : List Int) (t r : Int) (w : World) (h : IntsAt w a len zs) (t0 : 1 ≤ t) (t1 : t ≤ 200) (r0 : 1 ≤ r) (r1 : r ≤ 50) (hl : len ≤ 5000) :
    Calls Try.prog 30 #[.slice a len cap, .int .i64 t, .int .i64 r] w fun e w' => e = .returned (.bool (decide (validP t r zs))) ∧ w = w' := by
  have HI := Lib.hid (show (1 ≤ t ∧ t ≤ 200) ∧ (1 ≤ r ∧ r ≤ 50) from ⟨⟨t0, t1⟩, r0, r1⟩)
  have HL := Lib.hid (show zs.length ≤ 5000 by rw [← h.1]; exact hl)
  have HLN := Lib.hid h.1
  have HC := Lib.hid (fun (j : Nat) (hj : j < len) => show ∃ b off, a = some ⟨b, off, none⟩ ∧ w.cell? ⟨b, off + j, none⟩ = some (.int .i64 (zs.getD j 0)) by
    rcases h.2 with h3 | ⟨b, off, e, _, c⟩
    · have := h.1; rw [h3] at this; simp at this; omega
    · exact ⟨b, off, e, c j (by rw [← h.1]; exact hj)⟩)
  have hl2 : (len : Int) ≤ 5000 := by omega
  clear h
  go_enter Try.func30, Try.ntmps30
  go_wp2_with fail
  refine (l1In_yes t 1 200 _ t0 t1).mono ?_
  rintro e w' ⟨rfl, rfl⟩
  go_wp2_with fail
  refine (l1In_yes r 1 50 _ r0 r1).mono ?_
  rintro e w' ⟨rfl, rfl⟩
  go_wp2
  go_loop [7, 8] (fun p i => ∃ (j : Nat) (b : Int), j ≤ len ∧ p = .int .i64 b ∧ i = .int .i64 (j : Int) ∧ 0 ≤ b ∧ b ≤ 200 ∧ Hid (okProf t r 0 zs ↔ okProf t r b (zs.drop j))) (fun _ i => len - (intOf i).toNat)
  case atStart => exact ⟨0, 0, Nat.zero_le _, rfl, rfl, by omega, by omega, Lib.hid (by rw [List.drop_zero])⟩
  case round =>
    obtain ⟨j, b, hj, rfl, rfl, b0, b1, HE⟩ := hrel
    by_cases hlt : j < len
    · obtain ⟨b1', o1, rfl, cj⟩ := HC.out j hlt
      have HD := Lib.hid (drop_at zs j (by rw [← HLN.out]; exact hlt))
      have i0 : (0 : Int) ≤ (j : Int) := by omega
      have i1 : (j : Int) < (len : Int) := by omega
      clear HC
      generalize zs.getD j 0 = z at *
      by_cases c1 : 1 ≤ z ∧ z ≤ t
      · by_cases c3 : z ≤ b + r
        · by_cases c4 : b - r ≤ z
          · have HN := Lib.hid (show okProf t r 0 zs ↔ okProf t r z (zs.drop (j + 1)) from ⟨fun k => by have k2 := HE.out.1 k; rw [HD.out] at k2; exact k2.2.2.2.2, fun k => HE.out.2 (by rw [HD.out]; exact ⟨c1.1, c1.2, c3, c4, k⟩)⟩)
            have c7 : ¬ b + r < z := by omega
            have c8 : ¬ z < b - r := by omega
            have z1 := c1.1
            have z2 := c1.2
            go_wp2_with fail
            refine (l1In_yes z 1 t _ c1.1 c1.2).mono ?_
            rintro e w' ⟨rfl, rfl⟩
            go_wp2
            go_round
            case rel => exact ⟨j + 1, z, by omega, rfl, by congr 1, by omega, by omega, HN⟩
            case measure => simp [intOf]; omega
          · have c8 : z < b - r := by omega
            have c7 : ¬ b + r < z := by omega
            have HF := Lib.hid (show decide (validP t r zs) = false from decide_eq_false fun k => by have k2 := HE.out.1 ((validP_in HI.out HL.out).1 k); rw [HD.out] at k2; exact c4 k2.2.2.2.1)
            go_wp2_with fail
            refine (l1In_yes z 1 t _ c1.1 c1.2).mono ?_
            rintro e w' ⟨rfl, rfl⟩
            go_wp2
            go_ret
            exact ⟨ret_bool HF.out.symm, rfl⟩
        · have c7 : b + r < z := by omega
          have HF := Lib.hid (show decide (validP t r zs) = false from decide_eq_false fun k => by have k2 := HE.out.1 ((validP_in HI.out HL.out).1 k); rw [HD.out] at k2; exact c3 k2.2.2.1)
          go_wp2_with fail
          refine (l1In_yes z 1 t _ c1.1 c1.2).mono ?_
          rintro e w' ⟨rfl, rfl⟩
          go_wp2
          go_ret
          exact ⟨ret_bool HF.out.symm, rfl⟩
      · have HF := Lib.hid (show decide (validP t r zs) = false from decide_eq_false fun k => by have k2 := HE.out.1 ((validP_in HI.out HL.out).1 k); rw [HD.out] at k2; exact c1 ⟨k2.1, k2.2.1⟩)
        go_wp2_with fail
        refine (l1In_no z 1 t _ (by omega)).mono ?_
        rintro e w' ⟨rfl, rfl⟩
        go_wp2
        go_ret
        exact ⟨ret_bool HF.out.symm, rfl⟩
    · obtain rfl : j = len := by omega
      have HD := Lib.hid (show zs.drop j = [] by rw [HLN.out]; exact drop_all zs)
      have HF := Lib.hid (show decide (validP t r zs) = decide (b ≤ r) by
        refine decide_eq_decide.2 ((validP_in HI.out HL.out).trans (HE.out.trans ?_))
        rw [HD.out]; exact Iff.rfl)
      clear HC
      go_wp2
      go_ret
      exact ⟨ret_bool HF.out.symm, rfl⟩
theorem specProfileValid (a : Option Addr) (len cap : Nat) (zs : List Int) (t r : Int) (w : World) (h : IntsAt w a len zs) (hl : len ≤ 9223372036854775807) :
    Calls Try.prog 30 #[.slice a len cap, .int .i64 t, .int .i64 r] w fun e w' => e = .returned (.bool (decide (validP t r zs))) ∧ w = w' := by
  by_cases h1 : 1 ≤ t ∧ t ≤ 200
  · by_cases h3 : 1 ≤ r ∧ r ≤ 50
    · by_cases h2 : len ≤ 5000
      · exact specProfileValidIn a len cap zs t r w h h1.1 h1.2 h3.1 h3.2 h2
      · have HF := Lib.hid (validP_len (t := t) (r := r) (zs := zs) (by rw [← h.1]; exact h2))
        have h4 : 5000 < (len : Int) := by omega
        clear h
        go_enter Try.func30, Try.ntmps30
        go_wp2_with fail
        refine (l1In_yes t 1 200 _ h1.1 h1.2).mono ?_
        rintro e w' ⟨rfl, rfl⟩
        go_wp2_with fail
        refine (l1In_yes r 1 50 _ h3.1 h3.2).mono ?_
        rintro e w' ⟨rfl, rfl⟩
        go_wp2
        go_ret
        exact ⟨ret_bool HF.out.symm, rfl⟩
    · have HF := Lib.hid (validP_lim (t := t) (r := r) (zs := zs) (fun k => h3 k.2))
      clear h
      go_enter Try.func30, Try.ntmps30
      go_wp2_with fail
      refine (l1In_yes t 1 200 _ h1.1 h1.2).mono ?_
      rintro e w' ⟨rfl, rfl⟩
      go_wp2_with fail
      refine (l1In_no r 1 50 _ (by omega)).mono ?_
      rintro e w' ⟨rfl, rfl⟩
      go_wp2
      go_ret
      exact ⟨ret_bool HF.out.symm, rfl⟩
  · have HF := Lib.hid (validP_lim (t := t) (r := r) (zs := zs) (fun k => h1 k.1))
    clear h
    go_enter Try.func30, Try.ntmps30
    go_wp2_with fail
    refine (l1In_no t 1 200 _ (by omega)).mono ?_
    rintro e w' ⟨rfl, rfl⟩
    go_wp2
    go_ret
    exact ⟨ret_bool HF.out.symm, rfl⟩
set_option maxHeartbeats 1000000 in
theorem implProfileValidIn (a : Option Addr) (len cap : Nat) (zs : List Int) (t r : Int) (w : World) (h : IntsAt w a len zs) (t0 : 1 ≤ t) (t1 : t ≤ 200) (r0 : 1 ≤ r) (r1 : r ≤ 50) (hl : len ≤ 5000) :
    Calls Try.prog 25 #[.slice a len cap, .int .i64 t, .int .i64 r] w fun e w' => e = .returned (.bool (decide (validP t r zs))) ∧ w = w' := by
  have HI := Lib.hid (show (1 ≤ t ∧ t ≤ 200) ∧ (1 ≤ r ∧ r ≤ 50) from ⟨⟨t0, t1⟩, r0, r1⟩)
  have HL := Lib.hid (show zs.length ≤ 5000 by rw [← h.1]; exact hl)
  have HLN := Lib.hid h.1
  have HC := Lib.hid (fun (j : Nat) (hj : j < len) => show ∃ b off, a = some ⟨b, off, none⟩ ∧ w.cell? ⟨b, off + j, none⟩ = some (.int .i64 (zs.getD j 0)) by
    rcases h.2 with h3 | ⟨b, off, e, _, c⟩
    · have := h.1; rw [h3] at this; simp at this; omega
    · exact ⟨b, off, e, c j (by rw [← h.1]; exact hj)⟩)
  have hl2 : (len : Int) ≤ 5000 := by omega
  clear h
  go_enter Try.func25, Try.ntmps25
  go_wp2_with fail
  refine (limits_yes t r _ t0 t1 r0 r1).mono ?_
  rintro e w' ⟨rfl, rfl⟩
  go_wp2
  go_loop [7, 21] (fun p i => ∃ (j : Nat) (b : Int), j ≤ len ∧ p = .int .i64 b ∧ i = .int .i64 (j : Int) ∧ 0 ≤ b ∧ b ≤ 200 ∧ Hid (okProf t r 0 zs ↔ okProf t r b (zs.drop j))) (fun _ i => len - (intOf i).toNat)
  case atStart => exact ⟨0, 0, Nat.zero_le _, rfl, rfl, by omega, by omega, Lib.hid (by rw [List.drop_zero])⟩
  case round =>
    obtain ⟨j, b, hj, rfl, rfl, b0, b1, HE⟩ := hrel
    by_cases hlt : j < len
    · obtain ⟨b1', o1, rfl, cj⟩ := HC.out j hlt
      have HD := Lib.hid (drop_at zs j (by rw [← HLN.out]; exact hlt))
      have i0 : (0 : Int) ≤ (j : Int) := by omega
      have i1 : (j : Int) < (len : Int) := by omega
      clear HC
      generalize zs.getD j 0 = z at *
      by_cases c1 : 1 ≤ z
      · by_cases c2 : z ≤ t
        · by_cases c3 : z ≤ b + r
          · by_cases c4 : b - r ≤ z
            · have HN := Lib.hid (show okProf t r 0 zs ↔ okProf t r z (zs.drop (j + 1)) from ⟨fun k => by have k2 := HE.out.1 k; rw [HD.out] at k2; exact k2.2.2.2.2, fun k => HE.out.2 (by rw [HD.out]; exact ⟨c1, c2, c3, c4, k⟩)⟩)
              have c5 : ¬ z < 1 := by omega
              have c6 : ¬ t < z := by omega
              have c7 : ¬ b + r < z := by omega
              have c8 : ¬ z < b - r := by omega
              by_cases hc : b + r < t
              all_goals
                go_wp2
                go_round
                case rel => exact ⟨j + 1, z, by omega, rfl, by congr 1, by omega, by omega, HN⟩
                case measure => simp [intOf]; omega
            · have c8 : z < b - r := by omega
              have c5 : ¬ z < 1 := by omega
              have c6 : ¬ t < z := by omega
              have c7 : ¬ b + r < z := by omega
              have HF := Lib.hid (show decide (validP t r zs) = false from decide_eq_false fun k => by have k2 := HE.out.1 ((validP_in HI.out HL.out).1 k); rw [HD.out] at k2; exact c4 k2.2.2.2.1)
              by_cases hc : b + r < t
              all_goals
                go_wp2
                go_ret
                exact ⟨ret_bool HF.out.symm, rfl⟩
          · have c7 : b + r < z := by omega
            have c5 : ¬ z < 1 := by omega
            have HF := Lib.hid (show decide (validP t r zs) = false from decide_eq_false fun k => by have k2 := HE.out.1 ((validP_in HI.out HL.out).1 k); rw [HD.out] at k2; exact c3 k2.2.2.1)
            have hc : b + r < t := by omega
            go_wp2
            go_ret
            exact ⟨ret_bool HF.out.symm, rfl⟩
        · have c6 : t < z := by omega
          have c5 : ¬ z < 1 := by omega
          have HF := Lib.hid (show decide (validP t r zs) = false from decide_eq_false fun k => by have k2 := HE.out.1 ((validP_in HI.out HL.out).1 k); rw [HD.out] at k2; exact c2 k2.2.1)
          by_cases hc : b + r < t
          · have c7 : b + r < z := by omega
            go_wp2
            go_ret
            exact ⟨ret_bool HF.out.symm, rfl⟩
          · go_wp2
            go_ret
            exact ⟨ret_bool HF.out.symm, rfl⟩
      · have c5 : z < 1 := by omega
        have HF := Lib.hid (show decide (validP t r zs) = false from decide_eq_false fun k => by have k2 := HE.out.1 ((validP_in HI.out HL.out).1 k); rw [HD.out] at k2; exact c1 k2.1)
        go_wp2
        go_ret
        exact ⟨ret_bool HF.out.symm, rfl⟩
    · obtain rfl : j = len := by omega
      have HD := Lib.hid (show zs.drop j = [] by rw [HLN.out]; exact drop_all zs)
      have HF := Lib.hid (show decide (validP t r zs) = decide (b ≤ r) by
        refine decide_eq_decide.2 ((validP_in HI.out HL.out).trans (HE.out.trans ?_))
        rw [HD.out]; exact Iff.rfl)
      clear HC
      go_wp2
      go_ret
      exact ⟨ret_bool HF.out.symm, rfl⟩
theorem implProfileValid (a : Option Addr) (len cap : Nat) (zs : List Int) (t r : Int) (w : World) (h : IntsAt w a len zs) (hl : len ≤ 9223372036854775807) :
    Calls Try.prog 25 #[.slice a len cap, .int .i64 t, .int .i64 r] w fun e w' => e = .returned (.bool (decide (validP t r zs))) ∧ w = w' := by
  by_cases h1 : (1 ≤ t ∧ t ≤ 200) ∧ (1 ≤ r ∧ r ≤ 50)
  · by_cases h2 : len ≤ 5000
    · exact implProfileValidIn a len cap zs t r w h h1.1.1 h1.1.2 h1.2.1 h1.2.2 h2
    · have HF := Lib.hid (validP_len (t := t) (r := r) (zs := zs) (by rw [← h.1]; exact h2))
      have h3 : 5000 < (len : Int) := by omega
      clear h
      go_enter Try.func25, Try.ntmps25
      go_wp2_with fail
      refine (limits_yes t r _ h1.1.1 h1.1.2 h1.2.1 h1.2.2).mono ?_
      rintro e w' ⟨rfl, rfl⟩
      go_wp2
      go_ret
      exact ⟨ret_bool HF.out.symm, rfl⟩
  · have HF := Lib.hid (validP_lim (zs := zs) h1)
    clear h
    go_enter Try.func25, Try.ntmps25
    go_wp2_with fail
    refine (limits_no t r _ h1).mono ?_
    rintro e w' ⟨rfl, rfl⟩
    go_wp2
    go_ret
    exact ⟨ret_bool HF.out.symm, rfl⟩
set_option maxHeartbeats 1000000 in
theorem walkFnExactProfileValid (a : Option Addr) (len cap : Nat) (zs : List Int) (t r : Int) (w : World) (h : IntsAt w a len zs) (hl : len ≤ 9223372036854775807) :
    Calls Try.prog 13 #[.slice a len cap, .int .i64 t, .int .i64 r] w fun e w' => e = .returned (.bool true) ∧ Below w.heap.size w w' := by
  by_cases hbig : 1048576 < len
  · have h1 : 1048576 < (len : Int) := by omega
    go_enter Try.func13, Try.ntmps13
    go_wp2
    go_ret
    exact ⟨rfl, Below.refl _ _⟩
  · have hle : len ≤ 1048576 := by omega
    have h1 : ¬ 1048576 < (len : Int) := by omega
    have e0 : (decide (validP t r zs) != decide (validP t r zs)) = false := by simp
    go_enter Try.func13, Try.ntmps13
    go_wp2_with fail
    refine (toIntS a len cap zs _ h hle).mono ?_
    rintro e w1 ⟨rfl, O1, B1⟩
    go_wp2_with fail
    refine (specProfileValid _ len len zs t r _ O1.ints (by omega)).mono ?_
    rintro e w' ⟨rfl, rfl⟩
    have h2 := h.next B1
    go_wp2_with fail
    refine (toIntS a len cap zs _ h2 hle).mono ?_
    rintro e w2 ⟨rfl, O2, B2⟩
    go_wp2_with fail
    refine (implProfileValid _ len len zs t r _ O2.ints (by omega)).mono ?_
    rintro e w' ⟨rfl, rfl⟩
    have h3 := h2.next B2
    generalize decide (validP t r zs) = v at *
    go_wp2_with fail
    refine (toIntS a len cap zs _ h3 hle).mono ?_
    rintro e w3 ⟨rfl, O3, B3⟩
    have O2' := O2.next B3
    go_wp2_with fail
    refine (eqIntS _ _ len len len len zs _ O2'.ints O3.ints (by omega)).mono ?_
    rintro e w4 ⟨rfl, B4⟩
    go_wp2
    go_ret
    exact ⟨rfl, below_call (below_call (below_call B1 B2) B3) B4⟩
end Go.Proofs.Ytcamnkoiddighaa
