/- The program's hullOf and HullOf. -/
import Derived.Test.YtkmopgdnaohcdaaCc8
import Derived.Test.YtkmopgdnaohcdaaBo8
namespace Go.Proofs.Ytkmopgdnaohcdaa
set_option maxRecDepth 100000
open Go.RowKit Go.Shelf
attribute [local go_sem ↓] Go.wp_at_zero Go.wp_at_succ
theorem both_two {ps : List P2} (ha : Asc ps) (h : 5 ≤ (lowB ps).length + (lowB ps.reverse).length) : 2 ≤ (lowB ps).length ∧ 2 ≤ (lowB ps.reverse).length := by
  have bl : Bst ps.reverse (bord [] ps) := by
    have := Bst.run ps [] [] (.inl ⟨rfl, rfl⟩) ha (fun q hq => by cases hq)
    rwa [List.append_nil] at this
  have bu : Bst ((ps.reverse.map ng).reverse) ((bord [] ps.reverse).map ng) := by
    have asc : Asc (ps.reverse.map ng) := by
      unfold Asc at *
      rw [List.pairwise_map, List.pairwise_reverse]
      exact ha.imp le2_ng
    have := Bst.run (ps.reverse.map ng) [] [] (.inl ⟨rfl, rfl⟩) asc (fun q hq => by cases hq)
    rw [List.append_nil] at this
    have e := bord_ng ps.reverse []
    rw [List.map_nil] at e
    rwa [e] at this
  have ml : ∀ p, p ∈ (ps.reverse.map ng).reverse → ∃ q ∈ ps, ng q = p := fun p hp => by
    rw [List.mem_reverse] at hp
    obtain ⟨q, hq, e⟩ := List.mem_map.1 hp
    exact ⟨q, List.mem_reverse.1 hq, e⟩
  have ml2 : ∀ q ∈ ps, ng q ∈ (ps.reverse.map ng).reverse := fun q hq => by
    rw [List.mem_reverse]; exact List.mem_map.2 ⟨q, List.mem_reverse.2 hq, rfl⟩
  unfold lowB at *
  simp only [List.length_reverse] at *
  generalize bord [] ps = sl at *
  generalize bord [] ps.reverse = su at *
  have L : sl.length ≤ 2 ∧ (∃ a, ∀ q ∈ ps, q = a) ∨ 2 ≤ sl.length ∧ ¬ ∃ a, ∀ q ∈ ps, q = a := by
    rcases bl with ⟨e0, rfl⟩ | ⟨a, haP, hall, hs⟩ | ⟨l2, hst, hm, htop⟩
    · exact .inl ⟨by simp, (0, 0), fun q hq => by have := List.mem_reverse.2 hq; rw [e0] at this; cases this⟩
    · exact .inl ⟨by rcases hs with e | e <;> (rw [e]; simp), a, fun q hq => hall q (List.mem_reverse.2 hq)⟩
    · refine .inr ⟨l2, fun ⟨a, h⟩ => ?_⟩
      have ed := (hst.edge 0 (by omega)).1
      have c0 := hm _ (cor_mem (i := 0) (by omega))
      have c1 := hm _ (cor_mem (i := 0 + 1) (by omega))
      rw [h _ (List.mem_reverse.1 c0), h _ (List.mem_reverse.1 c1)] at ed
      exact lt2_ne ed rfl
  have U : su.length ≤ 2 ∧ (∃ a, ∀ q ∈ ps, q = a) ∨ 2 ≤ su.length ∧ ¬ ∃ a, ∀ q ∈ ps, q = a := by
    rcases bu with ⟨e0, e⟩ | ⟨a, haP, hall, hs⟩ | ⟨l2, hst, hm, htop⟩
    · refine .inl ⟨by rw [List.map_eq_nil_iff.1 e]; simp, (0, 0), fun q hq => ?_⟩
      have := ml2 q hq; rw [e0] at this; cases this
    · refine .inl ⟨?_, ng a, fun q hq => ?_⟩
      · rcases hs with e | e <;> (have := congrArg List.length e; simp at this; omega)
      · have := hall _ (ml2 q hq)
        rw [← this]; unfold ng; simp
    · rw [List.length_map] at l2
      refine .inr ⟨l2, fun ⟨a, h⟩ => ?_⟩
      have ed := (hst.edge 0 (by rw [List.length_map]; omega)).1
      have c0 := hm _ (cor_mem (i := 0) (by rw [List.length_map]; omega))
      have c1 := hm _ (cor_mem (i := 0 + 1) (by rw [List.length_map]; omega))
      obtain ⟨p0, q0, e0⟩ := ml _ c0
      obtain ⟨p1, q1, e1⟩ := ml _ c1
      rw [← e0, ← e1, h p0 q0, h p1 q1] at ed
      exact lt2_ne ed rfl
  rcases L with ⟨l1, l2⟩ | ⟨l1, l2⟩
  · rcases U with ⟨u1, u2⟩ | ⟨u1, u2⟩
    · omega
    · exact absurd l2 u2
  · rcases U with ⟨u1, u2⟩ | ⟨u1, u2⟩
    · exact absurd u2 l2
    · exact ⟨l1, u1⟩
theorem revNone (w : World) : Calls Try.prog 98 #[.slice none 0 0] w fun e w' => e = .returned (.tuple #[]) ∧ Below w.heap.size w w' := by
  go_enter Try.func98, Try.ntmps98
  go_wp2
  go_loopw [2, 3] (fun i j wr => i = .int .i64 0 ∧ j = .int .i64 (-1) ∧ Hid (Below w.heap.size w wr)) (fun _ _ _ => 0)
  case atStart => exact ⟨rfl, rfl, Lib.hid (Below.refl _ _)⟩
  case round =>
    obtain ⟨rfl, rfl, HW⟩ := hrel
    go_wp2
    go_end0
    exact ⟨rfl, HW.out⟩
theorem revRo {w : World} (a : Option Addr) (n c : Nat) (S : List P2) (u : World) (h : Ro w u (.slice a n c) S) (hl : S.length ≤ 5000) :
    Calls Try.prog 98 #[.slice a n c] u fun e w' => e = .returned (.tuple #[]) ∧ Ro w w' (.slice a n c) S.reverse ∧ ∀ (v : Value) (H : List P2), Ro w u v H → (∀ k, v.ownBlock = some k → (Value.slice a n c).ownBlock ≠ some k) → Ro w w' v H := by
  obtain ⟨e1, e2⟩ := own_len h.own
  rcases e2 with ⟨rfl, rfl, rfl⟩ | ⟨g, rfl, hB, hlt⟩
  · have hS : S = [] := List.eq_nil_of_length_eq_zero e1.symm
    subst hS
    refine (revNone u).mono ?_
    rintro e w' ⟨rfl, B⟩
    exact ⟨rfl, h.next B, fun v H hv _ => hv.next B⟩
  · subst e1
    refine (revOwn g c S w.heap.size u h.own hl).mono ?_
    rintro e w' ⟨rfl, O, G⟩
    have hb : ∀ k, some g = some k → w.heap.size ≤ k := fun k e => by injection e with e; omega
    refine ⟨rfl, ⟨O, h.bel.grown G h.bel.size hb⟩, fun v H hv hne => ⟨?_, h.bel.grown G h.bel.size hb⟩⟩
    refine World.ownsRow.kept hv.own G ?_
    rcases hc : v.ownBlock with _ | k
    · exact .inl rfl
    · right
      intro e
      injection e with e
      exact hne k hc (by rw [e]; rfl)
set_option maxHeartbeats 1000000 in
theorem pointsValidP (a : Option Addr) (len cap : Nat) (ps : List P2) (w : World) (h : PL w a len ps) (hl : len ≤ 9223372036854775807) :
    Calls Try.prog 77 #[.slice a len cap] w fun e w' => e = .returned (.bool (decide (okPts ps))) ∧ Below w.heap.size w w' := by
  have HLE := Lib.hid h.1
  by_cases hn : 1 ≤ len
  · obtain ⟨b, o, rfl, lt, c⟩ := h.somes hn
    have HC := Lib.hid c
    clear h c hn
    go_enter Try.func77, Try.ntmps77
    go_wp2
    go_loopw [7] (fun i wr => ∃ j : Nat, j ≤ len ∧ i = .int .i64 (j : Int) ∧ Hid (∀ q, q < j → okQ (cor ps q)) ∧ Hid (Below w.heap.size w wr)) (fun i _ => len - (intOf i).toNat)
    case atStart => exact ⟨0, Nat.zero_le _, rfl, Lib.hid (fun q hq => absurd hq (by omega)), Lib.hid (Below.refl _ _)⟩
    case round =>
      obtain ⟨j, hj, rfl, HQ, HW⟩ := hrel
      by_cases hlt : j < len
      · have d1 : wr.cell? ⟨b, o + j * 2, none⟩ = _ := (HW.out.cell (p := ⟨b, o + j * 2, none⟩) lt).trans (HC.out j hlt).1
        have d2 : wr.cell? ⟨b, o + j * 2 + 1, none⟩ = _ := (HW.out.cell (p := ⟨b, o + j * 2 + 1, none⟩) lt).trans (HC.out j hlt).2
        have j1 : (0 : Int) ≤ (j : Int) := by omega
        have j2 : (j : Int) < (len : Int) := by omega
        by_cases hk : okQ (cor ps j)
        · have HQ2 := Lib.hid (show ∀ q, q < j + 1 → okQ (cor ps q) from fun q hq => by
            by_cases e : q = j
            · subst e; exact hk
            · exact HQ.out q (by omega))
          have HK := Lib.hid hk
          clear hk
          generalize cor ps j = c at *
          go_wp2_with fail
          refine (validY c.1 c.2 _ HK.out).mono ?_
          rintro e w1 ⟨rfl, B1⟩
          have HW2 := Lib.hid (below_call (below_call HW.out (below_box wr (.cells #[.int .i64 c.1, .int .i64 c.2] 28))) B1)
          clear B1 d1 d2
          go_wp2
          go_roundw
          case rel => exact ⟨j + 1, by omega, by congr 1, HQ2, HW2⟩
          case measure => simp [intOf]; omega
        · have HN := Lib.hid (show false = decide (okPts ps) from (decide_eq_false fun k => hk (k.cor (by rw [← HLE.out]; exact hlt))).symm)
          have HK := Lib.hid hk
          clear hk
          generalize cor ps j = c at *
          go_wp2_with fail
          refine (validN c.1 c.2 _ HK.out).mono ?_
          rintro e w1 ⟨rfl, B1⟩
          have HW2 := Lib.hid (below_call (below_call HW.out (below_box wr (.cells #[.int .i64 c.1, .int .i64 c.2] 28))) B1)
          clear B1 d1 d2
          go_wp2
          go_ret
          exact ⟨ret_bool HN.out, HW2.out⟩
      · obtain rfl : j = len := by omega
        have HN := Lib.hid (show true = decide (okPts ps) from (decide_eq_true (okPts_cor (ps := ps) (fun q hq => HQ.out q (by rw [HLE.out]; exact hq)))).symm)
        go_wp2
        go_ret
        exact ⟨ret_bool HN.out, HW.out⟩
  · have h0 : len = 0 := by omega
    have hps : ps = [] := List.eq_nil_of_length_eq_zero (by rw [← HLE.out]; exact h0)
    subst hps
    subst h0
    have HN := Lib.hid (show true = decide (okPts ([] : List P2)) from (decide_eq_true (p := okPts ([] : List P2)) (fun p hp => by cases hp)).symm)
    clear h hn
    go_enter Try.func77, Try.ntmps77
    go_wp2
    go_loopw [7] (fun i wr => i = .int .i64 0 ∧ Hid (Below w.heap.size w wr)) (fun _ _ => 0)
    case atStart => exact ⟨rfl, Lib.hid (Below.refl _ _)⟩
    case round =>
      obtain ⟨rfl, HW⟩ := hrel
      go_wp2
      go_ret
      exact ⟨ret_bool HN.out, HW.out⟩
set_option maxHeartbeats 4000000 in
theorem hullOfC (a : Option Addr) (len cap : Nat) (ps : List P2) (w : World) (hp : PL w a len ps) (hl : len ≤ 1000) (hk : okPts ps) :
    Calls Try.prog 78 #[.slice a len cap] w (RowP (joinB (lowB (srt ps)) (lowB (srt ps).reverse)) w) := by
  have HLE := Lib.hid hp.1
  have HOK := Lib.hid (show okPts (srt ps) from fun p h => hk p ((srt_mem ps p).2 h))
  have HOK2 := Lib.hid (show okPts (srt ps).reverse from fun p h => hk p ((srt_mem ps p).2 (List.mem_reverse.1 h)))
  have HSL := Lib.hid (show (srt ps).length ≤ 1000 by rw [srt_len, ← HLE.out]; exact hl)
  have HBT := Lib.hid (fun h => both_two (srt_asc ps) h)
  have HPL := Lib.hid hp
  have HLN := Lib.hid (show ps.length ≤ 5000 by rw [← HLE.out]; omega)
  clear hp hk
  go_enter Try.func78, Try.ntmps78
  go_wp2_with fail
  refine (valuesC a len cap ps w HPL.out).mono ?_
  rintro e w1 ⟨Bp, rfl, VA, B1⟩
  have HSF := Lib.hid (sortedFuncC 104 #[.pointer (some ⟨Bp, 0, none⟩)] ps w1 HLN.out (fun args w => by kernel_rfl) (fun n => valuesStops Bp a len cap ps w1 VA hl n))
  have HB1 := Lib.hid B1
  clear VA B1
  go_wp2_with fail
  refine HSF.out.mono ?_
  rintro e w2 ⟨⟨sa, sn, sc⟩, rfl, hs, O, B⟩
  have HR2 := Lib.hid (show Ro w w2 (.slice sa sn sc) (srt ps) from ⟨OwnPt.down6 O HB1.out.size, below_call HB1.out B⟩)
  clear HSF HB1 O B
  generalize srt ps = S at *
  have HSN := Lib.hid (show sn = S.length from hs)
  clear hs
  have HD := Lib.hid (borderC sa sn sc S w2 (OwnPt.ints HR2.out.own).pl (by rw [HSN.out]; exact HSL.out) HOK.out)
  go_wp2_with fail
  refine HD.out.mono ?_
  rintro e w3 ⟨⟨la, ln, lc⟩, rfl, hln, OL, BL⟩
  have HL3 := Lib.hid (show Ro w w3 (.slice la ln lc) (lowB S) from ⟨OwnPt.down6 OL HR2.out.bel.size, below_call HR2.out.bel BL⟩)
  have HAP := Lib.hid (show ∀ k, (Value.slice la ln lc).ownBlock = some k → (Value.slice sa sn sc).ownBlock ≠ some k from fun k hk e => by
    have h1 := (World.ownsRow.lt OL k hk).1
    have h2 := (World.ownsRow.lt HR2.out.own k e).2
    omega)
  have HR3 := Lib.hid (HR2.out.next BL)
  have HLL := Lib.hid (show ln = (lowB S).length from hln)
  clear OL BL HR2 HD hln
  have HV := Lib.hid (revRo sa sn sc S w3 HR3.out (by have := HSL.out; omega))
  go_wp2_with fail
  refine HV.out.mono ?_
  rintro e w4 ⟨rfl, R4, K4⟩
  have HR4 := Lib.hid R4
  have HL4 := Lib.hid (K4 _ _ HL3.out HAP.out)
  clear R4 K4 HL3 HR3 HV HAP
  have HD := Lib.hid (borderC sa sn sc S.reverse w4 (OwnPt.ints HR4.out.own).pl (by rw [HSN.out]; exact HSL.out) HOK2.out)
  go_wp2_with fail
  refine HD.out.mono ?_
  rintro e w5 ⟨⟨ua, un, uc⟩, rfl, hun, OU, BU⟩
  have HU5 := Lib.hid (show Ro w w5 (.slice ua un uc) (lowB S.reverse) from ⟨OwnPt.down6 OU HR4.out.bel.size, below_call HR4.out.bel BU⟩)
  have HL5 := Lib.hid (HL4.out.next BU)
  have HUL := Lib.hid (show un = (lowB S.reverse).length from hun)
  have HLS := Lib.hid (show ln ≤ 1000 ∧ un ≤ 1000 by
    have h1 := HLL.out; have h2 := HUL.out; have h3 := HSL.out
    have b1 := bord_len S []
    have b2 := bord_len S.reverse []
    unfold lowB at h1 h2
    rw [List.length_reverse] at h1 h2 b2
    simp at b1 b2
    omega)
  clear OU BU HL4 HR4 HD hun
  generalize lowB S = lo at *
  generalize lowB S.reverse = up at *
  obtain ⟨l1, l2⟩ := HLS.out
  by_cases h5 : ln + un < 5
  · have g5 : (ln : Int) + (un : Int) < 5 := by omega
    have HF := Lib.hid (show RowP (joinB lo up) w (.returned (.slice none 0 0)) w5 from by
      have e : joinB lo up = [] := by unfold joinB; rw [if_pos (by rw [← HLL.out, ← HUL.out]; exact h5)]
      rw [e]
      exact ⟨⟨none, 0, 0⟩, rfl, rfl, World.ownsRow_nil _ _ _ _, HU5.out.bel⟩)
    clear h5
    go_wp2
    go_ret
    exact HF.out
  · have g5 : ¬ ((ln : Int) + (un : Int) < 5) := by omega
    obtain ⟨t1, t2⟩ := HBT.out (by rw [← HLL.out, ← HUL.out]; omega)
    rw [← HLL.out] at t1
    rw [← HUL.out] at t2
    obtain ⟨gl, rfl⟩ : ∃ g, la = some ⟨g, 0, none⟩ := by
      rcases (own_len HL5.out.own).2 with ⟨_, z, _⟩ | ⟨g, e, _⟩
      · omega
      · exact ⟨g, e⟩
    obtain ⟨gu, rfl⟩ : ∃ g, ua = some ⟨g, 0, none⟩ := by
      rcases (own_len HU5.out.own).2 with ⟨_, z, _⟩ | ⟨g, e, _⟩
      · omega
      · exact ⟨g, e⟩
    obtain ⟨kl, hkl⟩ : ∃ k, k + 1 = ln := ⟨ln - 1, by omega⟩
    obtain ⟨ku, hku⟩ : ∃ k, k + 1 = un := ⟨un - 1, by omega⟩
    have c1 := own_cap HL5.out.own
    have c2 := own_cap HU5.out.own
    have z1 : (ln : Int) - 1 = (kl : Int) := by omega
    have z2 : (un : Int) - 1 = (ku : Int) := by omega
    have z3 : (kl : Int) ≤ (lc : Int) := by omega
    have z4 : (ku : Int) ≤ (uc : Int) := by omega
    have z5 : (0 : Int) ≤ (kl : Int) := by omega
    have z6 : (0 : Int) ≤ (ku : Int) := by omega
    have HKL := Lib.hid (show kl + 1 = ln ∧ ku + 1 = un ∧ 1 ≤ kl ∧ 1 ≤ ku by omega)
    clear h5 hkl hku t1 t2
    go_upto_region 7 with fail
    refine wp_region_ktail 10 (by kernel_rfl) (by kernel_rfl) ?_
    simp only [List.take_succ_cons, List.take_zero, List.drop_succ_cons, List.drop_zero]
    repeat (go_big_quiet_step (fail))
    refine wpQuiet_nil ?_
    rintro w6 ⟨⟨_, K6⟩, rfl⟩
    have HB6 := Lib.hid (below_call HU5.out.bel K6)
    have HX7 := Lib.hid (Cells8.new w6 #[.slice (some ⟨gl, 0, none⟩) kl lc, .slice (some ⟨gu, 0, none⟩) ku uc] 23)
    have HB7 := Lib.hid (below_call HB6.out (below_box w6 (.cells #[.slice (some ⟨gl, 0, none⟩) kl lc, .slice (some ⟨gu, 0, none⟩) ku uc] 23)))
    have HP1 := Lib.hid (OwnPt.ints (own_take (m := kl) ((HL5.out.own.next K6).next (below_box w6 (.cells #[.slice (some ⟨gl, 0, none⟩) kl lc, .slice (some ⟨gu, 0, none⟩) ku uc] 23))) (by rw [← HLL.out]; have := HKL.out; omega))).pl
    have HP2 := Lib.hid (OwnPt.ints (own_take (m := ku) ((HU5.out.own.next K6).next (below_box w6 (.cells #[.slice (some ⟨gl, 0, none⟩) kl lc, .slice (some ⟨gu, 0, none⟩) ku uc] 23))) (by rw [← HUL.out]; have := HKL.out; omega))).pl
    have HJ := Lib.hid (show lo.take kl ++ up.take ku = joinB lo up by
      have := HKL.out
      unfold joinB
      rw [if_neg (by rw [← HLL.out, ← HUL.out]; omega), List.dropLast_eq_take, List.dropLast_eq_take, ← HLL.out, ← HUL.out, show ln - 1 = kl by omega, show un - 1 = ku by omega])
    have HCC := Lib.hid (concatC w6.heap.size ⟨gl, 0, none⟩ ⟨gu, 0, none⟩ kl lc ku uc _ _ _ HX7.out HP1.out HP2.out HKL.out.2.2.1 HKL.out.2.2.2 (by have := HKL.out; omega) (by have := HKL.out; omega))
    clear K6 HX7 HP1 HP2 HL5 HU5
    go_wp2_with fail
    refine HCC.out.mono ?_
    rintro e w8 ⟨⟨ra, rn, rc⟩, rfl, hrn, OR, BR⟩
    have HF := Lib.hid (show RowP (joinB lo up) w (.returned (.slice ra rn rc)) w8 from by
      rw [← HJ.out]
      exact ⟨⟨ra, rn, rc⟩, rfl, hrn, OwnPt.down6 OR HB7.out.size, below_call HB7.out BR⟩)
    clear OR BR hrn HCC
    go_wp2
    go_ret
    exact HF.out
set_option maxHeartbeats 2000000 in
theorem implHullOf (a : Option Addr) (len cap : Nat) (ps : List P2) (w : World) (hp : PL w a len ps) (hl : len ≤ 9223372036854775807) :
    Calls Try.prog 43 #[.slice a len cap] w (RowP (hulV ps) w) := by
  have HLE := Lib.hid hp.1
  by_cases h16 : len ≤ 16
  · have g1 : decide ((len : Int) > 16) = false := decide_eq_false (by omega)
    have HP := Lib.hid hp
    have HV := Lib.hid (pointsValidP a len cap ps w hp hl)
    by_cases hk : okPts ps
    · have HH := Lib.hid (show hulV ps = joinB (lowB (srt ps)) (lowB (srt ps).reverse) by unfold hulV; rw [if_pos ⟨by rw [← HLE.out]; exact h16, hk⟩])
      have HK := Lib.hid hk
      have b1 : decide (okPts ps) = true := decide_eq_true hk
      clear hp hk
      go_enter Try.func43, Try.ntmps43
      go_wp2_with (go_at_call 77; refine HV.out.mono ?_; rintro e w1 ⟨rfl, B1⟩; have HB1 := Lib.hid B1; clear B1)
      refine (hullOfC a len cap ps w1 (HP.out.next HB1.out) (by omega) HK.out).mono ?_
      rintro e w2 ⟨⟨ra, rn, rc⟩, rfl, hr, OR, BR⟩
      have HF := Lib.hid (show RowP (hulV ps) w (.returned (.slice ra rn rc)) w2 from by
        rw [HH.out]
        exact ⟨⟨ra, rn, rc⟩, rfl, hr, OwnPt.down6 OR HB1.out.size, below_call HB1.out BR⟩)
      clear OR BR hr
      go_wp2
      go_ret
      exact HF.out
    · have HH := Lib.hid (show hulV ps = [] from hulV_out fun k => hk k.2)
      have b1 : decide (okPts ps) = false := decide_eq_false hk
      clear hp hk
      go_enter Try.func43, Try.ntmps43
      go_wp2_with (go_at_call 77; refine HV.out.mono ?_; rintro e w1 ⟨rfl, B1⟩; have HB1 := Lib.hid B1; clear B1)
      go_ret
      rw [HH.out]
      exact ⟨⟨none, 0, 0⟩, rfl, rfl, World.ownsRow_nil _ _ _ _, HB1.out⟩
  · have HH := Lib.hid (show hulV ps = [] from hulV_out fun k => h16 (by rw [HLE.out]; exact k.1))
    have g1 : decide ((len : Int) > 16) = true := decide_eq_true (by omega)
    have g2 : (len : Int) > 16 := by omega
    clear hp h16
    go_enter Try.func43, Try.ntmps43
    go_wp2
    go_ret
    rw [HH.out]
    exact ⟨⟨none, 0, 0⟩, rfl, rfl, World.ownsRow_nil _ _ _ _, Below.refl _ _⟩
end Go.Proofs.Ytkmopgdnaohcdaa
