/- The program's ArmValid, JointsValid, ReachOf and ClampJoints: their contracts. -/
import Derived.Test.YtolkihibjabmhaaDoorChain2
import Derived.Test.YtolkihibjabmhaaDoorArm3d
import Derived.Test.YtolkihibjabmhaaDoorEArmValid
import Derived.Laws.Cover3
namespace Go.Proofs.YtolkihibjabmhaaDoor
set_option maxRecDepth 100000
open Go.RowKit
attribute [local go_sem ↓] Go.wp_at_zero Go.wp_at_succ
theorem matchesY (a b : Option Addr) (n cap cap2 : Nat) (w : World) (h : 1 ≤ n) :
    Calls Tryd.prog 86 #[.slice a n cap, .slice b n cap2] w fun e w' => e = .returned (.bool true) ∧ w = w' := by
  have h0 : 0 < n := h
  have h2 : decide (0 < n) = true := decide_eq_true h
  have e0 : ((n : Int) == (n : Int)) = true := by simp
  go_enter Tryd.func86, Tryd.ntmps86
  go_wp2
  go_ret
  exact ⟨rfl, rfl⟩
theorem matchesN (a b : Option Addr) (n m cap cap2 : Nat) (w : World) (h : ¬ (1 ≤ n ∧ m = n)) :
    Calls Tryd.prog 86 #[.slice a n cap, .slice b m cap2] w fun e w' => e = .returned (.bool false) ∧ w = w' := by
  by_cases h0 : 1 ≤ n
  · have e0 : ((m : Int) == (n : Int)) = false := by simp; omega
    have h1 : 0 < n := h0
    have h2 : decide (0 < n) = true := decide_eq_true h0
    clear h
    go_enter Tryd.func86, Tryd.ntmps86
    go_wp2
    go_ret
    exact ⟨rfl, rfl⟩
  · obtain rfl : n = 0 := by omega
    clear h h0
    go_enter Tryd.func86, Tryd.ntmps86
    go_wp2
    go_ret
    exact ⟨rfl, rfl⟩
theorem linkAllowsRY (l o h d : Int) (w0 w : World) (hw : Below w0.heap.size w0 w) (hk : o ≤ d ∧ d ≤ h) :
    Calls Tryd.prog 87 #[lk l o h, .int .i64 d] w fun e w' => e = .returned (.bool true) ∧ Below w0.heap.size w0 w' :=
  (linkAllowsY l o h d w hk.1 hk.2).mono fun _ _ ⟨he, hb⟩ => ⟨he, below_call hw hb⟩
theorem linkAllowsRN (l o h d : Int) (w0 w : World) (hw : Below w0.heap.size w0 w) (hr : o ≤ h) (hk : ¬ (o ≤ d ∧ d ≤ h)) :
    Calls Tryd.prog 87 #[lk l o h, .int .i64 d] w fun e w' => e = .returned (.bool false) ∧ Below w0.heap.size w0 w' :=
  (linkAllowsN l o h d w hr hk).mono fun _ _ ⟨he, hb⟩ => ⟨he, below_call hw hb⟩
theorem keepL {w u : World} {b c o : Nat} {x y z d : Value} (h : Below w.heap.size w u) (hb : b < w.heap.size) (hc : c < w.heap.size) (h0 : w.cell? ⟨b, 0, none⟩ = some x) (h1 : w.cell? ⟨b, 1, none⟩ = some y) (h2 : w.cell? ⟨b, 2, none⟩ = some z) (h3 : w.cell? ⟨c, o, none⟩ = some d) :
    u.cell? ⟨b, 0, none⟩ = some x ∧ u.cell? ⟨b, 1, none⟩ = some y ∧ u.cell? ⟨b, 2, none⟩ = some z ∧ u.cell? ⟨c, o, none⟩ = some d :=
  ⟨(h.cell (p := ⟨b, 0, none⟩) hb).trans h0, (h.cell (p := ⟨b, 1, none⟩) hb).trans h1, (h.cell (p := ⟨b, 2, none⟩) hb).trans h2, (h.cell (p := ⟨c, o, none⟩) hc).trans h3⟩
set_option maxHeartbeats 1000000 in
theorem allows (b cap : Nat) (j : Sl) (ls lo hi js : List Int) (w : World) (hc : ChainAt w b ls.length ls lo hi) (hok : okArm ls lo hi) (hj : IntsAt w j.a j.len js) (bj : j.len ≤ 9223372036854775807) :
    Calls Tryd.prog 57 #[.slice (some ⟨b, 0, none⟩) ls.length cap, .slice j.a j.len j.cap] w fun e w' => e = .returned (.bool (decide (okJoints ls lo hi js))) ∧ Below w.heap.size w w' := by
  obtain ⟨ja, jl, jc⟩ := j
  simp only at *
  have m4 := hj.1
  obtain ⟨n1, n2, n3, n4, n5⟩ := id hok
  by_cases hl : jl = ls.length
  · obtain ⟨b4, o4, rfl, lt4, c4⟩ := hj.some (by omega)
    have HK := Lib.hid (fun k (h : k < ls.length) => (n5 k h).2.2.2.2.1)
    have HC := Lib.hid hc
    have HC4 := Lib.hid (fun k (h : k < ls.length) => c4 k (by rw [hl]; exact h))
    have HL := Lib.hid (show js.length = ls.length by omega)
    have HOK := Lib.hid hok
    have lt5 := hc.lt
    generalize hn : ls.length = n at *
    subst hl
    replace hn := Lib.hid hn
    clear m4 n3 n4 n5 hok hc c4 hj bj
    go_enter Tryd.func57, Tryd.ntmps57
    go_wp2_with fail
    refine (matchesY _ _ jl _ _ _ n1).mono ?_
    rintro e w' ⟨rfl, rfl⟩
    go_wp2
    go_loopw [13] (fun i wr => ∃ k : Nat, k ≤ jl ∧ i = .int .i64 (k : Int) ∧ Hid (∀ j, j < k → lo.getD j 0 ≤ js.getD j 0 ∧ js.getD j 0 ≤ hi.getD j 0) ∧ Hid (Below w.heap.size w wr)) (fun i _ => jl - (intOf i).toNat)
    case atStart => exact ⟨0, Nat.zero_le _, rfl, Lib.hid (fun j hj => absurd hj (by omega)), Lib.hid (Below.refl _ _)⟩
    case round =>
      obtain ⟨k, hk, rfl, HJ, HW⟩ := hrel
      by_cases hlt : k < jl
      · obtain ⟨d1, d2, d3⟩ := (HC.out.next HW.out).c k hlt
        have d4 : wr.cell? ⟨b4, o4 + k, none⟩ = _ := (HW.out.cell (p := ⟨b4, o4 + k, none⟩) lt4).trans (HC4.out k hlt)
        have j1 : (0 : Int) ≤ (k : Int) := by omega
        have j2 : (k : Int) < (jl : Int) := by omega
        have hr := HK.out k hlt
        have HIN := Lib.hid (fun (hin : lo.getD k 0 ≤ js.getD k 0 ∧ js.getD k 0 ≤ hi.getD k 0) j (hj : j < k + 1) => show lo.getD j 0 ≤ js.getD j 0 ∧ js.getD j 0 ≤ hi.getD j 0 from if hjk : j < k then HJ.out j hjk else by rw [show j = k by omega]; exact hin)
        have HNI := Lib.hid (fun (hin : ¬ (lo.getD k 0 ≤ js.getD k 0 ∧ js.getD k 0 ≤ hi.getD k 0)) => show ¬ okJoints ls lo hi js from fun ho => hin (ho.2.2 k (by rw [HL.out]; exact hlt)))
        generalize ls.getD k 0 = l at *
        generalize lo.getD k 0 = o at *
        generalize hi.getD k 0 = h at *
        generalize js.getD k 0 = d at *
        have HX := Lib.hid (below_call HW.out (below_box wr (.cells #[.int .i64 l, .int .i64 o, .int .i64 h] 82)))
        obtain ⟨x0, x1, x2, x3, _, _, _⟩ := AtA.box wr (.int .i64 l) (.int .i64 o) (.int .i64 h) 82
        have d5 : (wr.alloc (.cells #[.int .i64 l, .int .i64 o, .int .i64 h] 82)).cell? ⟨b4, o4 + k, none⟩ = _ := ((below_box wr _).cell (p := ⟨b4, o4 + k, none⟩) (Nat.lt_of_lt_of_le lt4 HW.out.size)).trans d4
        have lt6 : b4 < (wr.alloc (.cells #[.int .i64 l, .int .i64 o, .int .i64 h] 82)).heap.size := Nat.lt_of_lt_of_le lt4 HX.out.size
        by_cases hin : o ≤ d ∧ d ≤ h
        · go_wp2
          generalize wr.alloc (.cells #[.int .i64 l, .int .i64 o, .int .i64 h] 82) = wb at *
          have g0 : Below wb.heap.size wb wb := Below.refl _ _
          go_region_held3 (fun u => u.cell? ⟨wr.heap.size, 0, none⟩ = some (.int .i64 l) ∧ u.cell? ⟨wr.heap.size, 1, none⟩ = some (.int .i64 o) ∧ u.cell? ⟨wr.heap.size, 2, none⟩ = some (.int .i64 h) ∧ u.cell? ⟨b4, o4 + k, none⟩ = some (.int .i64 d)) (exact keepL (by repeat (first | (with_reducible assumption) | (with_reducible apply Below.drew))) x0 lt6 x1 x2 x3 d5) (first
            | (go_at_call 87
               refine (linkAllowsRY l o h d wb _ (by repeat (first | (with_reducible assumption) | (with_reducible apply Below.drew))) hin).mono ?_
               rintro e w2 ⟨rfl, K2⟩))
          have HW2 := Lib.hid (below_call HX.out K2)
          go_wp2
          go_roundw
          case rel => exact ⟨k + 1, by omega, by congr 1, Lib.hid (HIN.out hin), HW2⟩
          case measure => simp [intOf]; omega
        · have HD := Lib.hid (decide_eq_false (HNI.out hin))
          have HH := Lib.hid hin
          clear hin
          go_wp2
          generalize wr.alloc (.cells #[.int .i64 l, .int .i64 o, .int .i64 h] 82) = wb at *
          have g0 : Below wb.heap.size wb wb := Below.refl _ _
          go_region_held3 (fun u => u.cell? ⟨wr.heap.size, 0, none⟩ = some (.int .i64 l) ∧ u.cell? ⟨wr.heap.size, 1, none⟩ = some (.int .i64 o) ∧ u.cell? ⟨wr.heap.size, 2, none⟩ = some (.int .i64 h) ∧ u.cell? ⟨b4, o4 + k, none⟩ = some (.int .i64 d)) (exact keepL (by repeat (first | (with_reducible assumption) | (with_reducible apply Below.drew))) x0 lt6 x1 x2 x3 d5) (first
            | (go_at_call 87
               refine (linkAllowsRN l o h d wb _ (by repeat (first | (with_reducible assumption) | (with_reducible apply Below.drew))) hr HH.out).mono ?_
               rintro e w2 ⟨rfl, K2⟩))
          have HW2 := Lib.hid (below_call HX.out K2)
          go_wp2
          go_ret
          exact ⟨ret_bool HD.out.symm, HW2.out⟩
      · obtain rfl : k = jl := by omega
        have HD := Lib.hid (decide_eq_true (show okJoints ls lo hi js from ⟨HOK.out, by rw [HL.out, hn.out], fun j hj => HJ.out j (by rw [← HL.out]; exact hj)⟩))
        go_wp2
        go_ret
        exact ⟨ret_bool HD.out.symm, HW.out⟩
  · have HD := Lib.hid (decide_eq_false (show ¬ okJoints ls lo hi js from fun ho => hl (by rw [m4]; exact ho.2.1)))
    have HH := Lib.hid (show ¬ (1 ≤ ls.length ∧ jl = ls.length) from fun h => hl h.2)
    clear hl m4 n1 n2 n3 n4 n5 hok hc hj
    go_enter Tryd.func57, Tryd.ntmps57
    go_wp2_with fail
    refine (matchesN _ _ _ _ _ _ _ HH.out).mono ?_
    rintro e w' ⟨rfl, rfl⟩
    go_wp2
    go_ret
    exact ⟨ret_bool HD.out.symm, Below.refl _ _⟩
theorem allowsNil (j : Sl) (w : World) :
    Calls Tryd.prog 57 #[.slice none 0 0, .slice j.a j.len j.cap] w fun e w' => e = .returned (.bool false) ∧ w = w' := by
  go_enter Tryd.func57, Tryd.ntmps57
  go_wp2_with fail
  refine (matchesN _ _ _ _ _ _ _ (by omega)).mono ?_
  rintro e w' ⟨rfl, rfl⟩
  go_wp2
  go_ret
  exact ⟨rfl, rfl⟩
theorem implJointsValid (x y z j : Sl) (ls lo hi js : List Int) (w : World) (hx : IntsAt w x.a x.len ls) (hy : IntsAt w y.a y.len lo) (hz : IntsAt w z.a z.len hi) (hj : IntsAt w j.a j.len js) (bx : x.len ≤ 9223372036854775807) (b_y : y.len ≤ 9223372036854775807) (bz : z.len ≤ 9223372036854775807) (bj : j.len ≤ 9223372036854775807) :
    Calls Tryd.prog 36 #[av x y z, .slice j.a j.len j.cap] w fun e w' => e = .returned (.bool (decide (okJoints ls lo hi js))) ∧ Below w.heap.size w w' := by
  have HB := Lib.hid (below_box w (.cells #[.slice x.a x.len x.cap, .slice y.a y.len y.cap, .slice z.a z.len z.cap] 25))
  go_enter Tryd.func36, Tryd.ntmps36
  go_wp2_with fail
  refine (chainOf x y z ls lo hi _ (hx.next HB.out) (hy.next HB.out) (hz.next HB.out) bx b_y bz).mono ?_
  rintro e w1 ⟨B1, ⟨hok, b, rfl, _, hc⟩ | ⟨hok, rfl⟩⟩
  · have HB1 := Lib.hid (below_call HB.out B1)
    clear B1 hx hy hz
    go_wp2_with fail
    refine (allows b _ j ls lo hi js _ hc hok (hj.next HB1.out) bj).mono ?_
    rintro e w2 ⟨rfl, B2⟩
    have HB2 := Lib.hid (below_call HB1.out B2)
    clear B2 hj hc hok
    go_wp2
    go_ret
    exact ⟨rfl, HB2.out⟩
  · have HD := Lib.hid (decide_eq_false (show ¬ okJoints ls lo hi js from fun ho => hok ho.1))
    have HB1 := Lib.hid (below_call HB.out B1)
    clear B1 hx hy hz hok
    go_wp2_with fail
    refine (allowsNil j _).mono ?_
    rintro e w' ⟨rfl, rfl⟩
    go_wp2
    go_ret
    exact ⟨ret_bool HD.out.symm, HB1.out⟩
end Go.Proofs.YtolkihibjabmhaaDoor
