/- The conveyor: the program's picks, PickPlan and MissedItems, and the document's MissedItems. -/
import Derived.Test.YtefjedhleihapaaCi13
namespace Go.Proofs.Ytefjedhleihapaa
set_option maxRecDepth 100000
open Go.RowKit
attribute [local go_sem ↓] Go.wp_at_zero Go.wp_at_succ
theorem keep13 {w u : World} {b c i j : Nat} {x y : Value} (h : Below w.heap.size w u) (hb : b < w.heap.size) (hc : c < w.heap.size) (h0 : w.cell? ⟨b, i, none⟩ = some x) (h1 : w.cell? ⟨c, j, none⟩ = some y) :
    u.cell? ⟨b, i, none⟩ = some x ∧ u.cell? ⟨c, j, none⟩ = some y :=
  ⟨(h.cell (p := ⟨b, i, none⟩) hb).trans h0, (h.cell (p := ⟨c, j, none⟩) hc).trans h1⟩
set_option maxHeartbeats 4000000 in
theorem picksC (a : Option Addr) (len cap : Nat) (L : List (Int × Int)) (s lo hi : Int) (w : World) (h : Itm.PtsAt w a len L) (hI : okItems L) (hC : okConv s lo hi) :
    Calls Try.prog 45 #[cv s lo hi, .slice a len cap] w (Nums (planR s lo hi L 0) w) := by
  obtain ⟨i0, hi0, hz0, hz1, hz2⟩ := info_parts infoInt
  have HN := Lib.hid h.1
  have h8 : len ≤ 8 := by rw [HN.out]; exact hI.1
  have P1 := At3.new w s lo hi 56
  have HB1 := Lib.hid (below_box w (.cells #[.int .i64 s, .int .i64 lo, .int .i64 hi] 56))
  have HA := Lib.hid h
  have HL := Lib.hid (show (planR s lo hi L 0).length = len by rw [planR_len, HN.out])
  have HOK := Lib.hid (fun k (q : k < len) => okAt hI (k := k) (by rw [← HN.out]; exact q))
  have HRG := Lib.hid (fun k (q : k ≤ len) => rdyR_range (s := s) (lo := lo) (hi := hi) hI k (by rw [← HN.out]; exact q))
  have HPA := Lib.hid (fun k (q : k < len) => planR_at s lo hi L k 0 (by rw [← HN.out]; exact q))
  have HNX := Lib.hid (fun k (q : k < len) => rdyR_next s lo hi L k 0 (by rw [← HN.out]; exact q))
  have HM := Lib.hid (made_zero len fun i => (planR s lo hi L 0).getD i 0)
  have HF := Lib.hid (part_all (fun i => (planR s lo hi L 0).getD i 0) (List.replicate len 0) (planR s lo hi L 0) (by simp [HL.out]) (fun _ _ => rfl))
  have HP := Lib.hid (fun j => part_set (fun i => (planR s lo hi L 0).getD i 0) (List.replicate len 0) j)
  have HR0 : Hid (rdyR s lo hi L 0 0 = 0) := Lib.hid (by cases L <;> rfl)
  have HCV := Lib.hid hC
  clear h hI hC
  go_enter Try.func45, Try.ntmps45
  go_upto_region 1 with fail
  generalize w.alloc (.cells #[.int .i64 s, .int .i64 lo, .int .i64 hi] 56) = w1 at *
  go_wp2_with (first
      | (at_make; refine wpList_make_full _ rfl _ _ 35 rfl w1.heap.size 3 i0 (.int .i64 0) 1 Try.underlying35 hi0 hz0 hz1 .i64 .i64 _ _ len rfl rfl rfl rfl (by rw [hz2]; omega) (by unfold maxLen; omega) (Nat.le_refl _) ?_; intro w2 own2 grow2))
  have own3 : w2.ownsRow w1.heap.size 3 1 (.slice (some ⟨w1.heap.size, 0, none⟩) len len) len (part (fun i => (planR s lo hi L 0).getD i 0) (List.replicate len 0) 0) := by rw [← HM.out]; exact own2
  have HG : Below w1.heap.size w1 w2 := (Below.refl _ _).grown grow2 (Nat.le_refl _) (fun k hk => by cases hk)
  clear own2 grow2
  go_loopw [6, 14] (fun rv iv wr => ∃ k : Nat, k ≤ len ∧ rv = .int .i64 (rdyR s lo hi L k 0) ∧ iv = .int .i64 (k : Int) ∧ Hid (wr.ownsRow w1.heap.size 3 1 (.slice (some ⟨w1.heap.size, 0, none⟩) len len) len (part (fun i => (planR s lo hi L 0).getD i 0) (List.replicate len 0) k)) ∧ Hid (Below w1.heap.size w1 wr)) (fun _ iv _ => len - (intOf iv).toNat)
  case atStart => exact ⟨0, Nat.zero_le _, by rw [HR0.out], rfl, Lib.hid own3, Lib.hid HG⟩
  case round =>
    obtain ⟨k, hk, rfl, rfl, HO, HW⟩ := hrel
    clear own3 HG
    by_cases hlt : k < len
    · obtain ⟨b, rfl, ltb, hc⟩ := (HA.out.next (below_call HB1.out HW.out)).some (by omega)
      obtain ⟨d0, d1⟩ := hc k hlt
      have j1 : (0 : Int) ≤ (k : Int) := by omega
      have j2 : (k : Int) < (len : Int) := by omega
      obtain ⟨y1, y2⟩ := HOK.out k hlt
      have hx := HPA.out k hlt
      have HX := Lib.hid (HNX.out k hlt)
      obtain ⟨r0, r1⟩ := HRG.out k hk
      have HPK := HP.out k
      generalize rdyR s lo hi L k 0 = rk at *
      generalize L.getD k (0, 0) = c at *
      obtain ⟨x, y⟩ := c
      simp only at d0 d1 y1 y2 hx HX
      rw [hx] at HPK
      replace HPK := Lib.hid HPK
      have hv := pick_spec (p := x) (s := s) (lo := lo) (hi := hi) r0
      have v0 : -1 ≤ pickV x s lo hi rk := by rcases hv with ⟨e, _⟩ | ⟨k1, _⟩ <;> omega
      have v1 : pickV x s lo hi rk ≤ 2000 := by rcases hv with ⟨e, _⟩ | ⟨_, k2, _⟩ <;> omega
      have HPT := Lib.hid (fun u => pickTimeC x s lo hi rk u y1 HCV.out ⟨r0, r1⟩)
      clear hv hx
      generalize pickV x s lo hi rk = v at *
      have BX := below_box wr (.cells #[.int .i64 x, .int .i64 y] 27)
      have HW2 := Lib.hid (below_call HW.out BX)
      have Q2 := AtP.box wr x y 27
      have HO2 := Lib.hid (HO.out.alloc (.cells #[.int .i64 x, .int .i64 y] 27))
      obtain ⟨lt3, k0, k1, k2⟩ := P1.next HW2.out
      have ne1 : w1.heap.size ≠ wr.heap.size := by have : w1.heap.size < wr.heap.size := (World.ownsRow.lt HO.out _ rfl).2; omega
      clear BX hc ltb
      go_upto_region 6 with fail
      generalize wr.alloc (.cells #[.int .i64 x, .int .i64 y] 27) = wb at *
      clear d0 d1
      obtain ⟨_, q0, q1⟩ := id Q2
      go_wp2_with fail
      refine (HPT.out _).mono ?_
      rintro e w5 ⟨rfl, K5⟩
      have HW5 := Lib.hid (below_call HW2.out K5)
      have HO5 := World.ownsRow.kept (row := none) HO2.out ⟨K5.os, K5.tape, K5.output, K5.size, fun k hk _ => K5.block k hk⟩ (.inr (by simp [Value.ownBlock]))
      obtain ⟨_, _, z1⟩ := Q2.next K5
      have f2 := HO5.cellAt k (by omega)
      rw [List.getElem?_eq_getElem (by rw [part_len]; simpa using hlt)] at f2
      have f3 := HO5.frozenAt k
      have HS := HO5.stored k (.int .i64 v)
      have l5 : w1.heap.size < (w5.setCell ⟨w1.heap.size, k, none⟩ (.int .i64 v)).heap.size := (World.ownsRow.lt HS.1 _ rfl).2
      have l6 : wr.heap.size < (w5.setCell ⟨w1.heap.size, k, none⟩ (.int .i64 v)).heap.size := by
        have := (Q2.next K5).lt
        simpa [World.setCell] using this
      rw [HPK.out] at HS
      have HW6 := Lib.hid (HW5.out.grown HS.2 HW5.out.size (fun q hq => by injection hq with hq; omega))
      have c6 := World.cell?_setCell_same w5 ⟨w1.heap.size, k, none⟩ (.int .i64 v) f2
      have c7 : (w5.setCell ⟨w1.heap.size, k, none⟩ (.int .i64 v)).cell? ⟨wr.heap.size, 1, none⟩ = some (.int .i64 y) := (World.cell?_setCell_far _ _ _ _ ne1).trans z1
      replace HS := Lib.hid HS.1
      replace HO5 := Lib.hid HO5
      clear HO HW HW2 HO2 Q2 HPT
      go_upto_region 7 with fail
      generalize w5.setCell ⟨w1.heap.size, k, none⟩ (.int .i64 v) = w6 at *
      clear f2 f3 k0 k1 k2 q0 q1 z1 K5 HO5 HW5
      by_cases hp : 0 ≤ v
      · have e1 : (v != -1) = true := by simp; omega
        have ow : IntKind.i64.wrap (v + y) = v + y := wrap_in (by omega) (by omega)
        rw [if_pos hp] at HX
        have g0 : Below w6.heap.size w6 w6 := Below.refl _ _
        have HS2 := Lib.hid HS.out.drew
        have HW7 := Lib.hid HW6.out.drew
        clear HS HW6
        go_upto_region 8 with fail
        go_region_held3 (fun u => u.cell? ⟨w1.heap.size, k, none⟩ = some (.int .i64 v) ∧ u.cell? ⟨wr.heap.size, 1, none⟩ = some (.int .i64 y)) (exact keep13 (by repeat (first | (with_reducible assumption) | (with_reducible apply Below.drew))) l5 l6 c6 c7) (fail)
        go_wp2
        go_roundw
        case rel => exact ⟨k + 1, by omega, by rw [HX.out], by congr 1, HS2, HW7⟩
        case measure => simp [intOf]; omega
      · have e1 : (v != -1) = false := by simp; omega
        rw [if_neg hp] at HX
        go_wp2
        go_roundw
        case rel => exact ⟨k + 1, by omega, by rw [HX.out], by congr 1, HS, HW6⟩
        case measure => simp [intOf]; omega
    · obtain rfl : k = len := by omega
      have HF2 : OwnI wr w.heap.size (.slice (some ⟨w1.heap.size, 0, none⟩) k k) (planR s lo hi L 0) := by
        unfold OwnI
        rw [← HF.out, List.length_replicate, HL.out]
        exact World.ownsRow_down HO.out HB1.out.size
      replace HF2 := Lib.hid HF2
      go_wp2
      go_ret
      exact ⟨⟨_, k, k⟩, rfl, HL.out.symm, HF2.out, below_call HB1.out HW.out⟩
set_option maxHeartbeats 1000000 in
theorem implPickPlan (a : Option Addr) (len cap : Nat) (L : List (Int × Int)) (s lo hi : Int) (w : World) (h : Itm.PtsAt w a len L) (hl : len ≤ 9223372036854775807) :
    Calls Try.prog 19 #[.slice a len cap, .int .i64 s, .int .i64 lo, .int .i64 hi] w (Nums (planV13 L s lo hi) w) := by
  have P1 := At3.new w s lo hi 56
  have HB1 := Lib.hid (below_box w (.cells #[.int .i64 s, .int .i64 lo, .int .i64 hi] 56))
  have HC := Lib.hid (convValid s lo hi (w.alloc (.cells #[.int .i64 s, .int .i64 lo, .int .i64 hi] 56)))
  have HIV := Lib.hid (fun u (q : Below w.heap.size w u) => implItemsValid a len cap L u (h.next q) hl)
  have HPK := Lib.hid (fun u (q : Below w.heap.size w u) x y => picksC a len cap L s lo hi u (h.next q) x y)
  clear h
  by_cases hC : okConv s lo hi
  rotate_left
  · have HE := Lib.hid (show planV13 L s lo hi = [] from if_neg (fun q => hC q.2))
    rw [decide_eq_false hC] at HC
    clear hC P1
    go_enter Try.func19, Try.ntmps19
    go_wp2_with fail
    refine HC.out.mono ?_
    rintro e w2 ⟨rfl, B2⟩
    have HB2 := Lib.hid (below_call HB1.out B2)
    clear B2
    go_wp2
    go_ret
    exact (HE.out ▸ ⟨⟨none, 0, 0⟩, rfl, rfl, World.ownsRow_nil _ _ _ _, HB2.out⟩)
  rw [decide_eq_true hC] at HC
  by_cases hI : okItems L
  rotate_left
  · have HE := Lib.hid (show planV13 L s lo hi = [] from if_neg (fun q => hI q.1))
    rw [decide_eq_false hI] at HIV
    clear hI hC P1
    go_enter Try.func19, Try.ntmps19
    go_wp2_with fail
    refine HC.out.mono ?_
    rintro e w2 ⟨rfl, B2⟩
    have HB2 := Lib.hid (below_call HB1.out B2)
    clear B2
    go_wp2_with fail
    refine (HIV.out _ HB2.out).mono ?_
    rintro e w3 ⟨rfl, B3⟩
    have HB3 := Lib.hid (below_call HB2.out B3)
    clear B3
    go_wp2
    go_ret
    exact (HE.out ▸ ⟨⟨none, 0, 0⟩, rfl, rfl, World.ownsRow_nil _ _ _ _, HB3.out⟩)
  rw [decide_eq_true hI] at HIV
  have HE := Lib.hid (show planV13 L s lo hi = planR s lo hi L 0 from if_pos ⟨hI, hC⟩)
  have HPI := Lib.hid (fun u q => HPK.out u q hI hC)
  clear HPK
  go_enter Try.func19, Try.ntmps19
  go_wp2_with fail
  refine HC.out.mono ?_
  rintro e w2 ⟨rfl, B2⟩
  have HB2 := Lib.hid (below_call HB1.out B2)
  have P2 := P1.next B2
  generalize w.alloc (.cells #[.int .i64 s, .int .i64 lo, .int .i64 hi] 56) = w1 at *
  clear B2 P1 HB1 HC
  go_wp2_with fail
  refine (HIV.out _ HB2.out).mono ?_
  rintro e w3 ⟨rfl, B3⟩
  have HB3 := Lib.hid (below_call HB2.out B3)
  obtain ⟨lt, c0, c1, c2⟩ := P2.next B3
  clear B3 P2 HIV hC
  go_wp2_with fail
  refine (HPI.out _ HB3.out).mono ?_
  rintro e w4 ⟨⟨sa, sl, sc⟩, rfl, hsl, O4, B4⟩
  have HB4 := Lib.hid (below_call HB3.out B4)
  have HO4 := Lib.hid (World.ownsRow_down O4 HB3.out.size)
  have HSL := Lib.hid hsl
  clear O4 B4 hsl
  go_wp2
  go_ret
  rw [HE.out]
  exact ⟨⟨sa, sl, sc⟩, rfl, HSL.out, HO4.out, HB4.out⟩
/-- Of the picks none is less than -1. -/
theorem plan_low {s lo hi : Int} {L : List (Int × Int)} (hI : okItems L) {k : Nat} (hk : k < L.length) : -1 ≤ (planR s lo hi L 0).getD k 0 := by
  rw [planR_at s lo hi L k 0 hk]
  rcases pick_spec (p := (L.getD k (0, 0)).1) (s := s) (lo := lo) (hi := hi) (rdyR_range (s := s) (lo := lo) (hi := hi) hI k (by omega)).1 with ⟨e, _⟩ | ⟨k1, _⟩
  · omega
  · have := (rdyR_range (s := s) (lo := lo) (hi := hi) hI k (by omega)).1
    omega
set_option maxHeartbeats 1000000 in
theorem implMissedItems (a : Option Addr) (len cap : Nat) (L : List (Int × Int)) (s lo hi : Int) (w : World) (h : Itm.PtsAt w a len L) (hl : len ≤ 9223372036854775807) :
    Calls Try.prog 23 #[.slice a len cap, .int .i64 s, .int .i64 lo, .int .i64 hi] w fun e w' => e = .returned (.int .i64 (missV L s lo hi)) ∧ Below w.heap.size w w' := by
  have HN := Lib.hid h.1
  have P1 := At3.new w s lo hi 56
  have HB1 := Lib.hid (below_box w (.cells #[.int .i64 s, .int .i64 lo, .int .i64 hi] 56))
  have HC := Lib.hid (convValid s lo hi (w.alloc (.cells #[.int .i64 s, .int .i64 lo, .int .i64 hi] 56)))
  have HIV := Lib.hid (fun u (q : Below w.heap.size w u) => implItemsValid a len cap L u (h.next q) hl)
  have HPK := Lib.hid (fun u (q : Below w.heap.size w u) x y => picksC a len cap L s lo hi u (h.next q) x y)
  clear h
  by_cases hC : okConv s lo hi
  rotate_left
  · have HE := Lib.hid (show -1 = missV L s lo hi from Eq.symm <| if_neg (fun q => hC q.2))
    rw [decide_eq_false hC] at HC
    clear hC P1
    go_enter Try.func23, Try.ntmps23
    go_wp2_with fail
    refine HC.out.mono ?_
    rintro e w2 ⟨rfl, B2⟩
    have HB2 := Lib.hid (below_call HB1.out B2)
    clear B2
    go_wp2
    go_ret
    exact ⟨ret_int HE.out, HB2.out⟩
  rw [decide_eq_true hC] at HC
  by_cases hI : okItems L
  rotate_left
  · have HE := Lib.hid (show -1 = missV L s lo hi from Eq.symm <| if_neg (fun q => hI q.1))
    rw [decide_eq_false hI] at HIV
    clear hI hC P1
    go_enter Try.func23, Try.ntmps23
    go_wp2_with fail
    refine HC.out.mono ?_
    rintro e w2 ⟨rfl, B2⟩
    have HB2 := Lib.hid (below_call HB1.out B2)
    clear B2
    go_wp2_with fail
    refine (HIV.out _ HB2.out).mono ?_
    rintro e w3 ⟨rfl, B3⟩
    have HB3 := Lib.hid (below_call HB2.out B3)
    clear B3
    go_wp2
    go_ret
    exact ⟨ret_int HE.out, HB3.out⟩
  rw [decide_eq_true hI] at HIV
  have HE := Lib.hid (show (negs (planR s lo hi L 0) : Int) = missV L s lo hi from (if_pos ⟨hI, hC⟩).symm)
  have HPL := Lib.hid (planR_len s lo hi L 0)
  have HLW := Lib.hid (fun k (q : k < L.length) => plan_low (s := s) (lo := lo) (hi := hi) hI q)
  have h8 : len ≤ 8 := by rw [HN.out]; exact hI.1
  have HPI := Lib.hid (fun u q => HPK.out u q hI hC)
  clear HPK
  go_enter Try.func23, Try.ntmps23
  go_wp2_with fail
  refine HC.out.mono ?_
  rintro e w2 ⟨rfl, B2⟩
  have HB2 := Lib.hid (below_call HB1.out B2)
  have P2 := P1.next B2
  generalize w.alloc (.cells #[.int .i64 s, .int .i64 lo, .int .i64 hi] 56) = w1 at *
  clear B2 P1 HB1 HC
  go_wp2_with fail
  refine (HIV.out _ HB2.out).mono ?_
  rintro e w3 ⟨rfl, B3⟩
  have HB3 := Lib.hid (below_call HB2.out B3)
  obtain ⟨lt, c0, c1, c2⟩ := P2.next B3
  clear B3 P2 HIV hC
  go_wp2_with fail
  refine (HPI.out _ HB3.out).mono ?_
  rintro e w4 ⟨⟨sa, sl, sc⟩, rfl, hsl, O4, B4⟩
  have HB4 := Lib.hid (below_call HB3.out B4)
  have HO4 := Lib.hid (World.ownsRow_down O4 HB3.out.size)
  have HSL := Lib.hid hsl
  clear O4 B4 hsl
  have HI4 := Lib.hid (OwnI.ints HO4.out)
  have HLS := Lib.hid (show sl ≤ 8 by have := HSL.out; have := HPL.out; have := HN.out; simp only at *; omega)
  replace HLW := Lib.hid (fun k (q : k < sl) => HLW.out k (by have := HSL.out; have := HPL.out; simp only at *; omega))
  replace HSL := Lib.hid (show sl = (planR s lo hi L 0).length from HSL.out)
  clear HO4 HPL hI
  generalize planR s lo hi L 0 = zs at *
  go_wp2
  go_loop [10, 29] (fun mv iv => ∃ k : Nat, k ≤ sl ∧ mv = .int .i64 (negs (zs.take k) : Int) ∧ iv = .int .i64 (k : Int)) (fun _ iv => sl - (intOf iv).toNat)
  case atStart => exact ⟨0, Nat.zero_le _, rfl, rfl⟩
  case round =>
    obtain ⟨k, hk, rfl, rfl⟩ := hrel
    have HT0 := Lib.hid (show negs (zs.take k) ≤ 8 by have h1 := negs_le (zs.take k); rw [List.length_take] at h1; have := HLS.out; omega)
    by_cases hlt : k < sl
    · obtain ⟨g, off, rfl, ltg, hc⟩ := HI4.out.some (by omega)
      have d0 := hc k (by have := HSL.out; omega)
      have j1 : (0 : Int) ≤ (k : Int) := by omega
      have j2 : (k : Int) < (sl : Int) := by omega
      have hls := HLS.out
      have HT := Lib.hid (negs_take (l := zs) (k := k) (by have := HSL.out; omega))
      have hw := HLW.out k hlt
      obtain ⟨m, hm⟩ : ∃ m, negs (zs.take k) = m := ⟨_, rfl⟩
      rw [hm] at HT HT0
      rw [hm]
      have m8 := HT0.out
      have ow : IntKind.i64.wrap ((m : Int) + 1) = (m : Int) + 1 := wrap_in (by omega) (by omega)
      clear hc ltg hm
      generalize zs.getD k 0 = v at *
      by_cases hv : v = -1
      · have HT1 := HT.out
        rw [if_pos (by omega)] at HT1
        replace HT1 := Lib.hid HT1
        have e1 : (v == -1) = true := by simp [hv]
        clear hv hw HT
        go_wp2
        go_round
        case rel => exact ⟨k + 1, by omega, by rw [HT1.out]; congr 1, by congr 1⟩
        case measure => simp [intOf]; omega
      · have HT1 := HT.out
        rw [if_neg (by omega)] at HT1
        replace HT1 := Lib.hid HT1
        have e1 : (v == -1) = false := by simp [hv]
        clear hv hw HT
        go_wp2
        go_round
        case rel => exact ⟨k + 1, by omega, by rw [HT1.out]; rfl, by congr 1⟩
        case measure => simp [intOf]; omega
    · obtain rfl : k = sl := by omega
      have HZ := Lib.hid (show (negs (zs.take k) : Int) = missV L s lo hi by rw [← HE.out, List.take_of_length_le (by have := HSL.out; omega)])
      go_wp2
      go_ret
      exact ⟨ret_int HZ.out, HB4.out⟩
set_option maxHeartbeats 1000000 in
theorem specMissedItems (a : Option Addr) (len cap : Nat) (L : List (Int × Int)) (s lo hi : Int) (w : World) (h : Itm.PtsAt w a len L) (hl : len ≤ 9223372036854775807) :
    Calls Try.prog 24 #[.slice a len cap, .int .i64 s, .int .i64 lo, .int .i64 hi] w fun e w' => e = .returned (.int .i64 (missV L s lo hi)) ∧ Below w.heap.size w w' := by
  have HN := Lib.hid h.1
  have HIV := Lib.hid (specItemsValid a len cap L w h hl)
  have HCV := Lib.hid (fun u => l13Ok s lo hi u)
  have HPP := Lib.hid (specPickPlan a len cap L s lo hi w h hl)
  clear h
  by_cases hI : okItems L
  rotate_left
  · have HE := Lib.hid (show -1 = missV L s lo hi from Eq.symm <| if_neg (fun q => hI q.1))
    rw [decide_eq_false hI] at HIV
    clear hI HPP
    go_enter Try.func24, Try.ntmps24
    go_wp2_with fail
    refine HIV.out.mono ?_
    rintro e w' ⟨rfl, rfl⟩
    go_wp2
    go_ret
    exact ⟨ret_int HE.out, Below.refl _ _⟩
  rw [decide_eq_true hI] at HIV
  by_cases hC : okConv s lo hi
  rotate_left
  · have HE := Lib.hid (show -1 = missV L s lo hi from Eq.symm <| if_neg (fun q => hC q.2))
    rw [decide_eq_false hC] at HCV
    clear hI hC HPP
    go_enter Try.func24, Try.ntmps24
    go_wp2_with fail
    refine HIV.out.mono ?_
    rintro e w' ⟨rfl, rfl⟩
    go_wp2_with fail
    refine (HCV.out _).mono ?_
    rintro e w' ⟨rfl, rfl⟩
    go_wp2
    go_ret
    exact ⟨ret_int HE.out, Below.refl _ _⟩
  rw [decide_eq_true hC] at HCV
  have HE := Lib.hid (show (negs (planR s lo hi L 0) : Int) = missV L s lo hi from (if_pos ⟨hI, hC⟩).symm)
  have HEP : planV13 L s lo hi = planR s lo hi L 0 := if_pos ⟨hI, hC⟩
  rw [HEP] at HPP
  have HPL := Lib.hid (planR_len s lo hi L 0)
  have h8 : len ≤ 8 := by rw [HN.out]; exact hI.1
  clear hI hC HEP
  go_enter Try.func24, Try.ntmps24
  go_wp2_with fail
  refine HIV.out.mono ?_
  rintro e w' ⟨rfl, rfl⟩
  go_wp2_with fail
  refine (HCV.out _).mono ?_
  rintro e w' ⟨rfl, rfl⟩
  go_wp2_with fail
  refine HPP.out.mono ?_
  rintro e w4 ⟨⟨sa, sl, sc⟩, rfl, hsl, O4, B4⟩
  have HB4 := Lib.hid B4
  have HI4 := Lib.hid (OwnI.ints O4)
  have HSL := Lib.hid (show sl = (planR s lo hi L 0).length from hsl)
  have HLS := Lib.hid (show sl ≤ 8 by have := HSL.out; have := HPL.out; have := HN.out; omega)
  clear HPL O4 B4 hsl HPP HIV HCV
  generalize planR s lo hi L 0 = zs at *
  go_wp2
  go_loop [9, 11] (fun mv iv => ∃ k : Nat, k ≤ sl ∧ mv = .int .i64 (negs (zs.take k) : Int) ∧ iv = .int .i64 (k : Int)) (fun _ iv => sl - (intOf iv).toNat)
  case atStart => exact ⟨0, Nat.zero_le _, rfl, rfl⟩
  case round =>
    obtain ⟨k, hk, rfl, rfl⟩ := hrel
    have HT0 := Lib.hid (show negs (zs.take k) ≤ 8 by have h1 := negs_le (zs.take k); rw [List.length_take] at h1; have := HLS.out; omega)
    by_cases hlt : k < sl
    · obtain ⟨g, off, rfl, ltg, hc⟩ := HI4.out.some (by omega)
      have d0 := hc k (by have := HSL.out; omega)
      have j1 : (0 : Int) ≤ (k : Int) := by omega
      have j2 : (k : Int) < (sl : Int) := by omega
      have hls := HLS.out
      have HT := Lib.hid (negs_take (l := zs) (k := k) (by have := HSL.out; omega))
      obtain ⟨m, hm⟩ : ∃ m, negs (zs.take k) = m := ⟨_, rfl⟩
      rw [hm] at HT HT0
      rw [hm]
      have m8 := HT0.out
      have ow : IntKind.i64.wrap ((m : Int) + 1) = (m : Int) + 1 := wrap_in (by omega) (by omega)
      clear hc ltg hm
      generalize zs.getD k 0 = v at *
      by_cases hv : v < 0
      · have HT1 := HT.out
        rw [if_pos hv] at HT1
        replace HT1 := Lib.hid HT1
        clear HT
        go_wp2
        go_round
        case rel => exact ⟨k + 1, by omega, by rw [HT1.out]; congr 1, by congr 1⟩
        case measure => simp [intOf]; omega
      · have HT1 := HT.out
        rw [if_neg hv] at HT1
        replace HT1 := Lib.hid HT1
        clear HT
        go_wp2
        go_round
        case rel => exact ⟨k + 1, by omega, by rw [HT1.out]; rfl, by congr 1⟩
        case measure => simp [intOf]; omega
    · obtain rfl : k = sl := by omega
      have HZ := Lib.hid (show (negs (zs.take k) : Int) = missV L s lo hi by rw [← HE.out, List.take_of_length_le (by have := HSL.out; omega)])
      go_wp2
      go_ret
      exact ⟨ret_int HZ.out, HB4.out⟩
end Go.Proofs.Ytefjedhleihapaa
