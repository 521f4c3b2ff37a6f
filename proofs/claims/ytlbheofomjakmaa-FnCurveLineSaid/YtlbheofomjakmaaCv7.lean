/- Rows of points that are valid; curves that are valid, of the program and of the document; rounding. -/
import Derived.Test.YtlbheofomjakmaaNum7
import Derived.Test.YtlbheofomjakmaaRow6
import Derived.Outline
namespace Go.Proofs.Ytlbheofomjakmaa
set_option maxRecDepth 100000
open Go.RowKit
attribute [local go_sem ↓] Go.wp_at_zero Go.wp_at_succ
theorem PtsAt.somes {w : World} {a : Option Addr} {len : Nat} {ps : List (Int × Int)} (h : PtsAt w a len ps) (hl : 1 ≤ len) : ∃ b, a = Option.some ⟨b, 0, none⟩ ∧ b < w.heap.size ∧ ∀ i, i < len → w.cell? ⟨b, i * 2, none⟩ = Option.some (.int .i64 (pX ps i)) ∧ w.cell? ⟨b, i * 2 + 1, none⟩ = Option.some (.int .i64 (pY ps i)) := h.some hl
set_option maxHeartbeats 1000000 in
theorem pointsValid (a : Option Addr) (len cap : Nat) (ps : List (Int × Int)) (w : World) (h : PtsAt w a len ps) (hl : len ≤ 9223372036854775807) :
    Calls Try.prog 39 #[.slice a len cap] w fun e w' => e = .returned (.bool (decide (okPts ps))) ∧ Below w.heap.size w w' := by
  have HLE := Lib.hid h.1
  by_cases hn : 1 ≤ len
  · obtain ⟨b, rfl, lt, c⟩ := h.somes hn
    have HC := Lib.hid c
    clear h c hn
    go_enter Try.func39, Try.ntmps39
    go_wp2
    go_loopw [7] (fun i wr => ∃ j : Nat, j ≤ len ∧ i = .int .i64 (j : Int) ∧ Hid (∀ q, q < j → okP (pX ps q) (pY ps q)) ∧ Hid (Below w.heap.size w wr)) (fun i _ => len - (intOf i).toNat)
    case atStart => exact ⟨0, Nat.zero_le _, rfl, Lib.hid (fun q hq => absurd hq (by omega)), Lib.hid (Below.refl _ _)⟩
    case round =>
      obtain ⟨j, hj, rfl, HQ, HW⟩ := hrel
      by_cases hlt : j < len
      · have d1 : wr.cell? ⟨b, j * 2, none⟩ = _ := (HW.out.cell (p := ⟨b, j * 2, none⟩) lt).trans (HC.out j hlt).1
        have d2 : wr.cell? ⟨b, j * 2 + 1, none⟩ = _ := (HW.out.cell (p := ⟨b, j * 2 + 1, none⟩) lt).trans (HC.out j hlt).2
        have j1 : (0 : Int) ≤ (j : Int) := by omega
        have j2 : (j : Int) < (len : Int) := by omega
        by_cases hk : okP (pX ps j) (pY ps j)
        · have HQ2 := Lib.hid (show ∀ q, q < j + 1 → okP (pX ps q) (pY ps q) from fun q hq => by
            by_cases e : q = j
            · subst e; exact hk
            · exact HQ.out q (by omega))
          have HK := Lib.hid hk
          clear hk
          generalize pX ps j = px at *
          generalize pY ps j = py at *
          go_wp2_with fail
          refine (validY px py _ HK.out).mono ?_
          rintro e w1 ⟨rfl, B1⟩
          have HW2 := Lib.hid (below_call (below_call HW.out (below_box wr (.cells #[.int .i64 px, .int .i64 py] 31))) B1)
          clear B1 d1 d2
          go_wp2
          go_roundw
          case rel => exact ⟨j + 1, by omega, by congr 1, HQ2, HW2⟩
          case measure => simp [intOf]; omega
        · have HN := Lib.hid (decide_eq_false (not_okPts hk)).symm
          have HK := Lib.hid hk
          clear hk
          generalize pX ps j = px at *
          generalize pY ps j = py at *
          go_wp2_with fail
          refine (validN px py _ HK.out).mono ?_
          rintro e w1 ⟨rfl, B1⟩
          have HW2 := Lib.hid (below_call (below_call HW.out (below_box wr (.cells #[.int .i64 px, .int .i64 py] 31))) B1)
          clear B1 d1 d2
          go_wp2
          go_ret
          exact ⟨ret_bool HN.out, HW2.out⟩
      · obtain rfl : j = len := by omega
        have HN := Lib.hid (decide_eq_true (okPts_of (ps := ps) (fun q hq => HQ.out q (by rw [HLE.out]; exact hq)))).symm
        go_wp2
        go_ret
        exact ⟨ret_bool HN.out, HW.out⟩
  · obtain rfl : len = 0 := by omega
    have HN := Lib.hid (decide_eq_true (okPts_of (ps := ps) (fun q hq => absurd hq (by rw [← HLE.out]; omega)))).symm
    clear h hn
    go_enter Try.func39, Try.ntmps39
    go_wp2
    go_loopw [7] (fun i wr => i = .int .i64 0 ∧ Hid (Below w.heap.size w wr)) (fun _ _ => 0)
    case atStart => exact ⟨rfl, Lib.hid (Below.refl _ _)⟩
    case round =>
      obtain ⟨rfl, HW⟩ := hrel
      go_wp2
      go_ret
      exact ⟨ret_bool HN.out, HW.out⟩
theorem implCurveValid (a : Option Addr) (len cap : Nat) (ps : List (Int × Int)) (w : World) (h : PtsAt w a len ps) (hl : len ≤ 9223372036854775807) :
    Calls Try.prog 13 #[.slice a len cap] w fun e w' => e = .returned (.bool (decide (okCurve ps))) ∧ Below w.heap.size w w' := by
  have HLE := Lib.hid h.1
  by_cases h1 : 1 ≤ len
  · by_cases h2 : len ≤ 4
    · have HE := Lib.hid (show decide (okPts ps) = decide (okCurve ps) from by
        have e := HLE.out
        by_cases hk : okPts ps
        · rw [decide_eq_true hk, decide_eq_true (show okCurve ps from ⟨by omega, by omega, hk⟩)]
        · rw [decide_eq_false hk, decide_eq_false (show ¬ okCurve ps from fun k => hk k.2.2)])
      have j1 : (1 : Int) ≤ (len : Int) := by omega
      have j2 : (len : Int) ≤ 4 := by omega
      go_enter Try.func13, Try.ntmps13
      go_wp2_with fail
      refine (pointsValid a len cap ps _ h hl).mono ?_
      rintro e w1 ⟨rfl, B1⟩
      have HB := Lib.hid B1
      clear B1 h
      go_wp2
      go_ret
      exact ⟨ret_bool HE.out, HB.out⟩
    · have HE := Lib.hid (decide_eq_false (show ¬ okCurve ps from fun k => by have := HLE.out; have := k.2.1; omega)).symm
      have j1 : (1 : Int) ≤ (len : Int) := by omega
      have j2 : decide ((len : Int) ≤ 4) = false := decide_eq_false (by omega)
      clear h
      go_enter Try.func13, Try.ntmps13
      go_wp2
      go_ret
      exact ⟨ret_bool HE.out, Below.refl _ _⟩
  · have HE := Lib.hid (decide_eq_false (show ¬ okCurve ps from fun k => by have := HLE.out; have := k.1; omega)).symm
    obtain rfl : len = 0 := by omega
    clear h
    go_enter Try.func13, Try.ntmps13
    go_wp2
    go_ret
    exact ⟨ret_bool HE.out, Below.refl _ _⟩
set_option maxHeartbeats 1000000 in
theorem specCurveValid (a : Option Addr) (len cap : Nat) (ps : List (Int × Int)) (w : World) (h : PtsAt w a len ps) (hl : len ≤ 9223372036854775807) :
    Calls Try.prog 14 #[.slice a len cap] w fun e w' => e = .returned (.bool (decide (okCurve ps))) ∧ Below w.heap.size w w' := by
  have HLE := Lib.hid h.1
  by_cases hn : 1 ≤ len
  · obtain ⟨b, rfl, lt, c⟩ := h.somes hn
    have HC := Lib.hid c
    clear h c
    go_enter Try.func14, Try.ntmps14
    go_wp2
    go_loopw [3] (fun i wr => ∃ j : Nat, j ≤ len ∧ i = .int .i64 (j : Int) ∧ Hid (∀ q, q < j → okP (pX ps q) (pY ps q)) ∧ Hid (Below w.heap.size w wr)) (fun i _ => len - (intOf i).toNat)
    case atStart => exact ⟨0, Nat.zero_le _, rfl, Lib.hid (fun q hq => absurd hq (by omega)), Lib.hid (Below.refl _ _)⟩
    case round =>
      obtain ⟨j, hj, rfl, HQ, HW⟩ := hrel
      by_cases hlt : j < len
      · have d1 : wr.cell? ⟨b, j * 2, none⟩ = _ := (HW.out.cell (p := ⟨b, j * 2, none⟩) lt).trans (HC.out j hlt).1
        have d2 : wr.cell? ⟨b, j * 2 + 1, none⟩ = _ := (HW.out.cell (p := ⟨b, j * 2 + 1, none⟩) lt).trans (HC.out j hlt).2
        have j1 : (0 : Int) ≤ (j : Int) := by omega
        have j2 : (j : Int) < (len : Int) := by omega
        by_cases hk : okP (pX ps j) (pY ps j)
        · have HQ2 := Lib.hid (show ∀ q, q < j + 1 → okP (pX ps q) (pY ps q) from fun q hq => by
            by_cases e : q = j
            · subst e; exact hk
            · exact HQ.out q (by omega))
          have HK := Lib.hid hk
          clear hk
          generalize pX ps j = px at *
          generalize pY ps j = py at *
          go_wp2_with fail
          refine (specPointValidY px py _ HK.out).mono ?_
          rintro e w1 ⟨rfl, B1⟩
          have HW2 := Lib.hid (below_call HW.out B1)
          clear B1 d1 d2
          go_wp2
          go_roundw
          case rel => exact ⟨j + 1, by omega, by congr 1, HQ2, HW2⟩
          case measure => simp [intOf]; omega
        · have HN := Lib.hid (decide_eq_false (show ¬ okCurve ps from fun k => not_okPts hk k.2.2)).symm
          have HK := Lib.hid hk
          clear hk
          generalize pX ps j = px at *
          generalize pY ps j = py at *
          go_wp2_with fail
          refine (specPointValidN px py _ HK.out).mono ?_
          rintro e w1 ⟨rfl, B1⟩
          have HW2 := Lib.hid (below_call HW.out B1)
          clear B1 d1 d2
          go_wp2
          go_ret
          exact ⟨ret_bool HN.out, HW2.out⟩
      · obtain rfl : j = len := by omega
        have HO := Lib.hid (okPts_of (ps := ps) (fun q hq => HQ.out q (by rw [HLE.out]; exact hq)))
        have HW' := HW
        by_cases h4 : j ≤ 4
        · have HN := Lib.hid (decide_eq_true (show okCurve ps from ⟨by have := HLE.out; omega, by have := HLE.out; omega, HO.out⟩)).symm
          go_wp2_with fail
          refine (l1In_yes (j : Int) 1 4 _ (by omega) (by omega)).mono ?_
          rintro e w' ⟨rfl, rfl⟩
          go_wp2
          go_ret
          exact ⟨ret_bool HN.out, HW'.out⟩
        · have HN := Lib.hid (decide_eq_false (show ¬ okCurve ps from fun k => by have := HLE.out; have := k.2.1; omega)).symm
          go_wp2_with fail
          refine (l1In_no (j : Int) 1 4 _ (by omega)).mono ?_
          rintro e w' ⟨rfl, rfl⟩
          go_wp2
          go_ret
          exact ⟨ret_bool HN.out, HW'.out⟩
  · obtain rfl : len = 0 := by omega
    have HN := Lib.hid (decide_eq_false (show ¬ okCurve ps from fun k => by have := HLE.out; have := k.1; omega)).symm
    clear h hn
    go_enter Try.func14, Try.ntmps14
    go_wp2
    go_loopw [3] (fun i wr => i = .int .i64 0 ∧ Hid (Below w.heap.size w wr)) (fun _ _ => 0)
    case atStart => exact ⟨rfl, Lib.hid (Below.refl _ _)⟩
    case round =>
      obtain ⟨rfl, HW⟩ := hrel
      have HW' := HW
      go_wp2_with fail
      refine (l1In_no 0 1 4 _ (by omega)).mono ?_
      rintro e w' ⟨rfl, rfl⟩
      go_wp2
      go_ret
      exact ⟨ret_bool HN.out, HW'.out⟩
theorem parameterY (t : Int) (w : World) (h1 : 0 ≤ t) (h2 : t ≤ 64) :
    Calls Try.prog 43 #[.int .i64 t] w fun e w' => e = .returned (.bool true) ∧ w = w' := by
  go_enter Try.func43, Try.ntmps43
  go_wp2
  go_ret
  exact ⟨rfl, rfl⟩
theorem parameterN (t : Int) (w : World) (h : ¬ (0 ≤ t ∧ t ≤ 64)) :
    Calls Try.prog 43 #[.int .i64 t] w fun e w' => e = .returned (.bool false) ∧ w = w' := by
  by_cases h1 : 0 ≤ t
  · have h2 : decide (t ≤ 64) = false := decide_eq_false (by omega)
    clear h
    go_enter Try.func43, Try.ntmps43
    go_wp2
    go_ret
    exact ⟨rfl, rfl⟩
  · clear h
    go_enter Try.func43, Try.ntmps43
    go_wp2
    go_ret
    exact ⟨rfl, rfl⟩
theorem tdiv_bdW (n d M : Int) (hd : 0 < d) (h1 : -M ≤ n) (h2 : n ≤ M) : -M ≤ n.tdiv d ∧ n.tdiv d ≤ M + 1 := by
  have hM := Int.mul_le_mul_of_nonneg_left (show 1 ≤ d by omega) (show (0 : Int) ≤ M by omega)
  have b1 : -M ≤ flo n d := by unfold flo; rw [Int.le_ediv_iff_mul_le hd, Int.neg_mul]; omega
  have b2 : flo n d ≤ M := by unfold flo; exact Int.ediv_le_of_le_mul hd (by omega)
  rcases Int.lt_or_le (n.tmod d) 0 with h | h
  · have e := flo_neg n d hd h; omega
  · have e := flo_pos n d hd h; omega
theorem floorDivideW (n d : Int) (w : World) (hd : 0 < d) (h1 : -1000000000000 ≤ n) (h2 : n ≤ 1000000000000) (hd2 : d ≤ 1000000) :
    Calls Try.prog 51 #[.int .i64 n, .int .i64 d] w fun e w' => e = .returned (.int .i64 (flo n d)) ∧ w = w' := by
  obtain ⟨b1, b2⟩ := tdiv_bdW n d 1000000000000 hd h1 h2
  have hne : ¬ d = 0 := by omega
  by_cases h : n.tmod d < 0
  · have HE := Lib.hid (flo_neg n d hd h)
    go_enter Try.func51, Try.ntmps51
    go_wp2
    go_ret
    exact ⟨ret_int HE.out, rfl⟩
  · have HE := Lib.hid (flo_pos n d hd (by omega))
    go_enter Try.func51, Try.ntmps51
    go_wp2
    go_ret
    exact ⟨ret_int HE.out, rfl⟩
theorem l1FloorW (n d : Int) (w : World) (hd : 0 < d) (h1 : -1000000000000 ≤ n) (h2 : n ≤ 1000000000000) (hd2 : d ≤ 1000000) :
    Calls Try.prog 60 #[.int .i64 n, .int .i64 d] w fun e w' => e = .returned (.int .i64 (flo n d)) ∧ w = w' := by
  obtain ⟨b1, b2⟩ := tdiv_bdW n d 1000000000000 hd h1 h2
  have hne : ¬ d = 0 := by omega
  by_cases h : n.tmod d < 0
  · have HE := Lib.hid (flo_neg n d hd h)
    go_enter Try.func60, Try.ntmps60
    go_wp2
    go_ret
    exact ⟨ret_int HE.out, rfl⟩
  · have HE := Lib.hid (flo_pos n d hd (by omega))
    go_enter Try.func60, Try.ntmps60
    go_wp2
    go_ret
    exact ⟨ret_int HE.out, rfl⟩
theorem roundDivide (v : Int) (l : Nat) (w : World) (hl : l ≤ 3) (h1 : -10000000000 ≤ v) (h2 : v ≤ 10000000000) :
    Calls Try.prog 56 #[.int .i64 v, .int .i64 (sc l)] w fun e w' => e = .returned (.int .i64 (rndS v (sc l))) ∧ w = w' := by
  have HE := Lib.hid (rndS_impl v l hl)
  obtain ⟨s1, s2⟩ := sc_le hl
  generalize sc l = s at *
  go_enter Try.func56, Try.ntmps56
  go_wp2_with fail
  refine (floorDivideW (2 * v + s) (2 * s) _ (by omega) (by omega) (by omega) (by omega)).mono ?_
  rintro e w' ⟨rfl, rfl⟩
  go_wp2
  go_ret
  exact ⟨ret_int HE.out, rfl⟩
theorem l1RoundS (v s : Int) (w : World) (s1 : 1 ≤ s) (s2 : s ≤ 262144) (h1 : -10000000000 ≤ v) (h2 : v ≤ 10000000000) :
    Calls Try.prog 57 #[.int .i64 v, .int .i64 s] w fun e w' => e = .returned (.int .i64 (rndS v s)) ∧ w = w' := by
  have HE := Lib.hid (show flo (v + s.tdiv 2) s = rndS v s by unfold rndS; rw [Int.tdiv_eq_ediv_of_nonneg (by omega)])
  have q1 : 0 ≤ s.tdiv 2 := by rw [Int.tdiv_eq_ediv_of_nonneg (by omega)]; omega
  have q2 : s.tdiv 2 ≤ 262144 := by rw [Int.tdiv_eq_ediv_of_nonneg (by omega)]; omega
  go_enter Try.func57, Try.ntmps57
  go_wp2_with fail
  refine (l1FloorW (v + s.tdiv 2) s _ (by omega) (by omega) (by omega) (by omega)).mono ?_
  rintro e w' ⟨rfl, rfl⟩
  go_wp2
  go_ret
  exact ⟨ret_int HE.out, rfl⟩
theorem timesP (x y f : Int) (w : World) (h1 : -100000000 ≤ x) (h2 : x ≤ 100000000) (h3 : -100000000 ≤ y) (h4 : y ≤ 100000000) (h5 : 0 ≤ f) (h6 : f ≤ 64) :
    Calls Try.prog 55 #[pt x y, .int .i64 f] w fun e w' => e = .returned (pt (x * f) (y * f)) ∧ Below w.heap.size w w' := by
  obtain ⟨p0, p1⟩ := mul_bd (x := x) (y := f) (A := 100000000) (B := 64) h1 h2 (by omega) h6
  obtain ⟨q0, q1⟩ := mul_bd (x := y) (y := f) (A := 100000000) (B := 64) h3 h4 (by omega) h6
  go_enter Try.func55, Try.ntmps55
  go_wp2
  exact bodyPost_ret (v := pt (x * f) (y * f)) (by simp [results, Try.results55, go_sem]) rfl ⟨rfl, below_box2 _ _ _⟩
theorem plusV (px py qx qy : Int) (w : World) (h1 : -10000000000 ≤ px) (h2 : px ≤ 10000000000) (h3 : -10000000000 ≤ py) (h4 : py ≤ 10000000000) (h5 : -10000000000 ≤ qx) (h6 : qx ≤ 10000000000) (h7 : -10000000000 ≤ qy) (h8 : qy ≤ 10000000000) :
    Calls Try.prog 50 #[pt px py, pt qx qy] w fun e w' => e = .returned (pt (px + qx) (py + qy)) ∧ Below w.heap.size w w' := by
  go_enter Try.func50, Try.ntmps50
  go_wp2
  exact bodyPost_ret (v := pt (px + qx) (py + qy)) (by simp [results, Try.results50, go_sem]) rfl ⟨rfl, below_box3 _ _ _ _⟩
end Go.Proofs.Ytlbheofomjakmaa
