/- Several of my texts in one: Fc10, Sp10, Sf10. -/
import Derived.Test.YtkogoflcacameaaGreatDoorZb10c
import Derived.Test.YtkogoflcacameaaGreatDoorZb10i
import Derived.Laws.Cover3
import Derived.Test.YtkogoflcacameaaGreatDoorZbPr
import Derived.Test.YtkogoflcacameaaGreatDoorZbChn
import Derived.Test.YtkogoflcacameaaGreatDoorZbDh
namespace Go.Proofs.YtkogoflcacameaaGreatDoor
set_option maxRecDepth 100000
open Go.RowKit
attribute [local go_sem ↓] Go.wp_at_zero Go.wp_at_succ
theorem eqlNil (t e : TypeId) (a : Option Addr) (l c : Nat) (u : World) (h : Tryz.prog.underlying t = some (.slice e)) : (binOp .eql t (.slice a l c) (.slice none 0 0)).run Tryz.prog u = .ok (.bool a.isNone) u := by
  simp only [binOp]
  simp [Go.run_equal_slice_nil u t e a l c h]
/-- A box of one cell. -/
def Bx1 (w : World) (p : Nat) (v : Value) : Prop := p < w.heap.size ∧ w.cell? ⟨p, 0, none⟩ = some v
theorem Bx1.next {w w' : World} {p : Nat} {v : Value} (h : Bx1 w p v) (hb : Below w.heap.size w w') : Bx1 w' p v :=
  ⟨Nat.lt_of_lt_of_le h.1 hb.size, (hb.cell (p := ⟨p, 0, none⟩) h.1).trans h.2⟩
theorem Bx1.box (w : World) (v : Value) (T : TypeId) : Bx1 (w.alloc (.cells #[v] T)) w.heap.size v := ⟨by simp, by simp⟩
theorem fcV_in {ls lo hi : List Int} {rows : List (List Int)} {pss : List (List P2)} (h1 : okArm ls lo hi) (h2 : scnV pss) (h3 : rows.length ≤ 400) : fcV ls lo hi rows pss = firstV (okRow ls lo hi pss) rows 0 := by
  unfold fcV; exact if_pos ⟨h1, h2, h3⟩
theorem fcV_out {ls lo hi : List Int} {rows : List (List Int)} {pss : List (List P2)} (h : ¬ (okArm ls lo hi ∧ scnV pss ∧ rows.length ≤ 400)) : fcV ls lo hi rows pss = -2 := by
  unfold fcV; exact if_neg h
theorem contactC (p1 p2 b : Nat) (j s : Sl) (ls lo hi js : List Int) (pss : List (List P2)) (w : World) (ht : TabAt w) (hc : ChainAt w b ls.length ls lo hi) (hok : okArm ls lo hi) (hj : IntsAt w j.a j.len js) (bj : j.len ≤ 9223372036854775807) (hp : PSS w s.a s.len pss) (hv : scnV pss)
    (x1 : Bx1 w p1 (.slice (some ⟨b, 0, none⟩) ls.length ls.length)) (x2 : Bx1 w p2 (.slice s.a s.len s.cap)) :
    Calls Tryz.prog 31 #[.slice j.a j.len j.cap, .pointer (some ⟨p1, 0, none⟩), .pointer (some ⟨p2, 0, none⟩)] w fun e w' => e = .returned (.bool (decide (¬ okRow ls lo hi pss js))) ∧ Below w.heap.size w w' := by
  have HC := Lib.hid (clearOf b ls.length j s ls lo hi js pss w ht hc hok hj bj (Nat.le_refl _) hp hv)
  have e1 := x1.2
  have e2 := x2.2
  clear ht hc hok hj hp hv x1 x2
  generalize ls.length = n at *
  by_cases hk : okRow ls lo hi pss js
  · rw [decide_eq_true hk] at HC
    rw [decide_eq_false (fun h => h hk)]
    clear hk
    go_enter Tryz.func31, Tryz.ntmps31
    go_wp2_with fail
    refine HC.out.mono ?_
    rintro e w1 ⟨rfl, B1⟩
    have HB1 := Lib.hid B1
    clear B1
    go_wp2
    go_ret
    exact ⟨rfl, HB1.out⟩
  · rw [decide_eq_false hk] at HC
    rw [decide_eq_true hk]
    clear hk
    go_enter Tryz.func31, Tryz.ntmps31
    go_wp2_with fail
    refine HC.out.mono ?_
    rintro e w1 ⟨rfl, B1⟩
    have HB1 := Lib.hid B1
    clear B1
    go_wp2
    go_ret
    exact ⟨rfl, HB1.out⟩
set_option maxHeartbeats 2000000 in
theorem indexC (a : Option Addr) (len cap : Nat) (rows : List (List Int)) (p1 p2 b : Nat) (s : Sl) (ls lo hi : List Int) (pss : List (List P2)) (w : World) (ht : TabAt w) (hc : ChainAt w b ls.length ls lo hi) (hok : okArm ls lo hi) (hr : RSA w a len rows) (hp : PSS w s.a s.len pss) (hv : scnV pss)
    (x1 : Bx1 w p1 (.slice (some ⟨b, 0, none⟩) ls.length ls.length)) (x2 : Bx1 w p2 (.slice s.a s.len s.cap)) (hl : len ≤ 9223372036854775807) :
    Calls Tryz.prog 30 #[.slice a len cap, .func (.func 31) #[] #[.pointer (some ⟨p1, 0, none⟩), .pointer (some ⟨p2, 0, none⟩)]] w fun e w' => e = .returned (.int .i64 (firstV (okRow ls lo hi pss) rows 0)) ∧ Below w.heap.size w w' := by
  have HR := Lib.hid hr
  have HLE := Lib.hid hr.1
  have HC := Lib.hid (fun (j : Sl) (js : List Int) (u : World) (hu : Below w.heap.size w u) (hj : IntsAt u j.a j.len js) (bj : j.len ≤ 9223372036854775807) => contactC p1 p2 b j s ls lo hi js pss u (ht.below hu ht.lt) (hc.next hu) hok hj bj (hp.next hu) hv (x1.next hu) (x2.next hu))
  have HD := Lib.hid (fun (j : Nat) (h : j < len) (k : Int) => firstV_drop (good := okRow ls lo hi pss) (rows := rows) (j := j) (by rw [← hr.1]; exact h) k)
  have HE : Hid (∀ k, firstV (okRow ls lo hi pss) (rows.drop len) k = -1) := Lib.hid fun k => by rw [hr.1, List.drop_length]; rfl
  have HS : Hid (firstV (okRow ls lo hi pss) (rows.drop 0) ((0 : Nat) : Int) = firstV (okRow ls lo hi pss) rows 0) := Lib.hid rfl
  clear ht hc hok hr hp hv x1 x2
  generalize firstV (okRow ls lo hi pss) rows 0 = fv at *
  go_enter Tryz.func30, Tryz.ntmps30
  go_wp2
  go_loopw [5, 8] (fun _ kv wr => ∃ k : Nat, k ≤ len ∧ kv = .int .i64 (k : Int) ∧ Hid (firstV (okRow ls lo hi pss) (rows.drop k) (k : Int) = fv) ∧ Hid (Below w.heap.size w wr)) (fun _ kv _ => len - (intOf kv).toNat)
  case atStart => exact ⟨0, Nat.zero_le _, rfl, HS, Lib.hid (Below.refl _ _)⟩
  case round =>
    obtain ⟨k, hk, rfl, HI, HW⟩ := hrel
    clear HS
    have HR1 := Lib.hid (HR.out.next HW.out)
    by_cases hlt : k < len
    · obtain ⟨b2, rfl, lt, hcc⟩ := HR1.out.some (by omega)
      obtain ⟨t, d1, I1, I2⟩ := hcc k hlt
      have j1 : (0 : Int) ≤ (k : Int) := by omega
      have j2 : (k : Int) < (len : Int) := by omega
      unfold slQ at d1
      have HX := Lib.hid (HC.out t (rows.getD k []) wr HW.out I1 I2)
      have HDK := Lib.hid (HD.out k hlt (k : Int))
      clear hcc I1
      by_cases hg : okRow ls lo hi pss (rows.getD k [])
      · rw [decide_eq_false (fun h => h hg)] at HX
        have HI2 : Hid (firstV (okRow ls lo hi pss) (rows.drop (k + 1)) ((k + 1 : Nat) : Int) = fv) := Lib.hid (by rw [← HI.out, HDK.out.1 hg]; rfl)
        clear hg
        go_wp2_with fail
        refine HX.out.mono ?_
        rintro e w2 ⟨rfl, B⟩
        have HW2 := Lib.hid (below_call HW.out B)
        clear B d1 HX
        go_wp2
        go_roundw
        case rel => exact ⟨k + 1, by omega, by congr 1, HI2, HW2⟩
        case measure => simp [intOf]; omega
      · rw [decide_eq_true hg] at HX
        have HV : Hid ((k : Int) = fv) := Lib.hid (by rw [← HI.out, HDK.out.2 hg])
        clear hg
        go_wp2_with fail
        refine HX.out.mono ?_
        rintro e w2 ⟨rfl, B⟩
        have HW2 := Lib.hid (below_call HW.out B)
        clear B d1 HX
        go_wp2
        go_ret
        exact ⟨ret_int HV.out, HW2.out⟩
    · obtain rfl : k = len := by omega
      have HV : Hid ((-1 : Int) = fv) := Lib.hid (by rw [← HI.out, HE.out])
      go_wp2
      go_ret
      exact ⟨ret_int HV.out, HW.out⟩
set_option maxHeartbeats 4000000 in
theorem implFirstContact (x y z r s : Sl) (ls lo hi : List Int) (rows : List (List Int)) (pss : List (List P2)) (w : World) (ht : TabAt w) (hx : IntsAt w x.a x.len ls) (hy : IntsAt w y.a y.len lo) (hz : IntsAt w z.a z.len hi) (hr : RSA w r.a r.len rows) (hp : PSS w s.a s.len pss) (bx : x.len ≤ 9223372036854775807) (b_y : y.len ≤ 9223372036854775807) (bz : z.len ≤ 9223372036854775807) (br : r.len ≤ 9223372036854775807) (bs : s.len ≤ 9223372036854775807) :
    Calls Tryz.prog 11 #[av x y z, .slice r.a r.len r.cap, .slice s.a s.len s.cap] w fun e w' => e = .returned (.int .i64 (fcV ls lo hi rows pss)) ∧ Below w.heap.size w w' := by
  have HB := Lib.hid (below_box2 w (.cells #[.slice x.a x.len x.cap, .slice y.a y.len y.cap, .slice z.a z.len z.cap] 25) (.cells #[.slice s.a s.len s.cap] 26))
  have HX2 := Lib.hid (Bx1.box (w.alloc (.cells #[.slice x.a x.len x.cap, .slice y.a y.len y.cap, .slice z.a z.len z.cap] 25)) (.slice s.a s.len s.cap) 26)
  rw [World.size_alloc] at HX2
  have HA := Lib.hid (And.intro hx (And.intro hy (And.intro hz (And.intro hr hp))))
  have HT := Lib.hid ht
  have HLE := Lib.hid hr.1
  have hq : ∀ (a : Option Addr) (l c : Nat) (u : World), (binOp .eql 48 (.slice a l c) (.slice none 0 0)).run Tryz.prog u = .ok (.bool a.isNone) u := fun a l c u => eqlNil _ _ a l c u Tryz.underlying48
  clear hx hy hz hr hp ht
  obtain ⟨fv, hfv⟩ : ∃ fv, fcV ls lo hi rows pss = fv := ⟨_, rfl⟩
  rw [hfv]
  have HFV := Lib.hid hfv
  clear hfv
  go_enter Tryz.func11, Tryz.ntmps11
  go_wp2_with fail
  refine (chainOf x y z ls lo hi _ (HA.out.1.next HB.out) (HA.out.2.1.next HB.out) (HA.out.2.2.1.next HB.out) bx b_y bz).mono ?_
  generalize (w.alloc (.cells #[.slice x.a x.len x.cap, .slice y.a y.len y.cap, .slice z.a z.len z.cap] 25)).alloc (.cells #[.slice s.a s.len s.cap] 26) = w0 at *
  rintro e w2 ⟨B2, ⟨hok, b, rfl, _, hc⟩ | ⟨hok, rfl⟩⟩
  · have Bb := below_box w2 (.cells #[.slice (some ⟨b, 0, none⟩) ls.length ls.length] 48)
    have HB2 := Lib.hid (below_call (below_call HB.out B2) Bb)
    have HX1 := Lib.hid (Bx1.box w2 (.slice (some ⟨b, 0, none⟩) ls.length ls.length) 48)
    replace HX2 := Lib.hid ((HX2.out.next B2).next Bb)
    have HC := Lib.hid (hc.next Bb)
    have HOK := Lib.hid hok
    clear B2 Bb hc hok
    go_upto_region 2 with fail
    generalize w2.alloc (.cells #[.slice (some ⟨b, 0, none⟩) ls.length ls.length] 48) = w3 at *
    generalize w2.heap.size = q1 at *
    generalize w.heap.size + 1 = q2 at *
    obtain ⟨_, c1⟩ := HX1.out
    obtain ⟨_, c2⟩ := HX2.out
    by_cases h4 : r.len ≤ 400
    · have g4 : ¬ ((r.len : Int) > 400) := by omega
      have g5 : decide ((r.len : Int) > 400) = false := decide_eq_false g4
      have g6 : decide (400 < r.len) = false := decide_eq_false (by omega)
      have HSC := Lib.hid (implSceneValid s.a s.len s.cap pss w3 (HA.out.2.2.2.2.next HB2.out) bs)
      by_cases hs : scnV pss
      · rw [decide_eq_true hs] at HSC
        have HSS := Lib.hid hs
        clear hs
        go_wp2_with fail
        refine HSC.out.mono ?_
        rintro e w4 ⟨rfl, B4⟩
        have HB4 := Lib.hid (below_call HB2.out B4)
        have HIX := Lib.hid (indexC r.a r.len r.cap rows q1 q2 b s ls lo hi pss w4 (HT.out.below HB4.out HT.out.lt) (HC.out.next B4) HOK.out (HA.out.2.2.2.1.next HB4.out) (HA.out.2.2.2.2.next HB4.out) HSS.out (HX1.out.next B4) (HX2.out.next B4) br)
        have HV := Lib.hid (show firstV (okRow ls lo hi pss) rows 0 = fv from by rw [← HFV.out]; exact (fcV_in HOK.out HSS.out (by rw [← HLE.out]; exact h4)).symm)
        clear B4 HSC c1 c2
        go_wp2_with fail
        refine HIX.out.mono ?_
        rintro e w5 ⟨rfl, B5⟩
        have HB5 := Lib.hid (below_call HB4.out B5)
        clear B5 HIX
        go_wp2
        go_ret
        exact ⟨ret_int HV.out, HB5.out⟩
      · rw [decide_eq_false hs] at HSC
        have HV := Lib.hid (show (-2 : Int) = fv from by rw [← HFV.out]; exact (fcV_out (fun h => hs h.2.1)).symm)
        clear hs
        go_wp2_with fail
        refine HSC.out.mono ?_
        rintro e w4 ⟨rfl, B4⟩
        have HB4 := Lib.hid (below_call HB2.out B4)
        clear B4 HSC c1 c2
        go_wp2
        go_ret
        exact ⟨ret_int HV.out, HB4.out⟩
    · have g4 : (r.len : Int) > 400 := by omega
      have g5 : decide ((r.len : Int) > 400) = true := decide_eq_true g4
      have g6 : decide (400 < r.len) = true := decide_eq_true (by omega)
      have HV := Lib.hid (show (-2 : Int) = fv from by rw [← HFV.out]; exact (fcV_out (fun h => h4 (by rw [HLE.out]; exact h.2.2))).symm)
      go_wp2
      go_ret
      exact ⟨ret_int HV.out, HB2.out⟩
  · have Bb := below_box w2 (.cells #[.slice none 0 0] 48)
    have HB2 := Lib.hid (below_call (below_call HB.out B2) Bb)
    have HX1 := Lib.hid (Bx1.box w2 (.slice none 0 0) 48)
    have HV := Lib.hid (show (-2 : Int) = fv from by rw [← HFV.out]; exact (fcV_out (fun h => hok h.1)).symm)
    clear B2 Bb hok
    go_upto_region 2 with fail
    generalize w2.alloc (.cells #[.slice none 0 0] 48) = w3 at *
    generalize w2.heap.size = q1 at *
    obtain ⟨_, c1⟩ := HX1.out
    go_wp2
    go_ret
    exact ⟨ret_int HV.out, HB2.out⟩
end Go.Proofs.YtkogoflcacameaaGreatDoor
namespace Go.Proofs.YtkogoflcacameaaGreatDoor
set_option maxRecDepth 100000
open Go.RowKit
attribute [local go_sem ↓] Go.wp_at_zero Go.wp_at_succ
noncomputable instance (pss : List (List P2)) (qs : List P2) : Decidable (clrV pss qs) := Classical.propDecidable _
noncomputable instance (qs : List P2) : Decidable (slfV qs) := Classical.propDecidable _
set_option maxHeartbeats 4000000 in
theorem l10ClearC (x y z j s : Sl) (ls lo hi js : List Int) (pss : List (List P2)) (w : World) (hx : IntsAt w x.a x.len ls) (hj : IntsAt w j.a j.len js) (hok : okJoints ls lo hi js) (hp : PSS w s.a s.len pss) (hv : scnV pss) :
    Calls Tryz.prog 22 #[av x y z, .slice j.a j.len j.cap, .slice s.a s.len s.cap] w fun e w' => e = .returned (.bool (decide (clrV pss (ptsL ls js)))) ∧ Below w.heap.size w w' := by
  have HB := Lib.hid (below_box w (.cells #[.slice x.a x.len x.cap, .slice y.a y.len y.cap, .slice z.a z.len z.cap] 25))
  have HL3 := Lib.hid (l3Points x y z j ls lo hi js _ (hx.next HB.out) (hj.next HB.out) hok)
  have HP := Lib.hid (hp.next HB.out)
  have HPL := Lib.hid (ptsL_len ls js)
  have HOQ := Lib.hid (fun k (hk : k ≤ ls.length) => okQ_pt hok k hk)
  have n4 := hok.1.2.1
  have HSC := Lib.hid hv
  have HSN := Lib.hid (show s.len = pss.length from hp.1)
  obtain ⟨sa, sl, sc⟩ := s
  simp only at *
  have hs6 : sl ≤ 6 := by have := hv.1; have := HSN.out; omega
  clear hx hj hok hp hv
  generalize ptsL ls js = qs at *
  generalize ls.length = n at *
  go_enter Tryz.func22, Tryz.ntmps22
  go_wp2_with fail
  refine HL3.out.mono ?_
  generalize w.alloc (.cells #[.slice x.a x.len x.cap, .slice y.a y.len y.cap, .slice z.a z.len z.cap] 25) = w0 at *
  rintro e w1 ⟨v, rfl, O1, B1⟩
  obtain ⟨⟨ea, el, ec⟩, rfl, he⟩ := O1.sl
  have HQ := Lib.hid (OwnPt.ints O1).pl
  have HB1 := Lib.hid (below_call HB.out B1)
  have HP1 := Lib.hid (HP.out.next B1)
  have hel : el = n + 1 := by rw [← HPL.out]; exact he
  clear O1 B1 he HL3 HP
  subst hel
  go_wp2
  go_loopw [8] (fun kv wr => ∃ k : Nat, k ≤ n ∧ kv = .int .i64 (k : Int) ∧ Hid (∀ i, i < k → ∀ o ∈ pss, ¬ Hit o (cor qs i) (cor qs (i + 1))) ∧ Hid (Below w1.heap.size w1 wr)) (fun kv _ => n - (intOf kv).toNat)
  case atStart => exact ⟨0, Nat.zero_le _, rfl, Lib.hid (fun k hk => absurd hk (by omega)), Lib.hid (Below.refl _ _)⟩
  case round =>
    obtain ⟨k, hk, rfl, HI, HW⟩ := hrel
    by_cases hlt : k < n
    · have k1 : (k : Int) + 1 < ((n + 1 : Nat) : Int) := by omega
      have k2 : (k : Int) + 1 < (n : Int) + 1 := by omega
      have k3 : (k : Int) < (n : Int) := by omega
      have HW0 := Lib.hid HW.out
      go_wp2
      go_loopw [9] (fun jv wr => ∃ j : Nat, j ≤ sl ∧ jv = .int .i64 (j : Int) ∧ Hid (∀ i, i < j → ¬ Hit (pss.getD i []) (cor qs k) (cor qs (k + 1))) ∧ Hid (Below w1.heap.size w1 wr)) (fun jv _ => sl - (intOf jv).toNat)
      case atStart => exact ⟨0, Nat.zero_le _, rfl, Lib.hid (fun k hk => absurd hk (by omega)), HW0⟩
      case round =>
        clear HW HW0
        obtain ⟨j, hj, rfl, HJ, HW⟩ := hrel
        by_cases hjt : j < sl
        · have HP2 := Lib.hid (HP1.out.next HW.out)
          have HQ2 := Lib.hid (HQ.out.next HW.out)
          obtain ⟨b2, rfl, lt2, hc2⟩ := HP2.out.some (by omega)
          obtain ⟨t, d1, I1, I2⟩ := hc2 j hjt
          obtain ⟨be, oe, rfl, lte, hce⟩ := HQ2.out.somes (by omega)
          have hjp : j < pss.length := by rw [← HSN.out]; exact hjt
          have HOC := Lib.hid (HSC.out.2 _ (at_mem10 hjp))
          have j1 : (0 : Int) ≤ (j : Int) := by omega
          have j2 : (j : Int) < (sl : Int) := by omega
          have j3 : (0 : Int) ≤ (k : Int) := by omega
          have j4 : (k : Int) < ((n + 1 : Nat) : Int) := by omega
          have j5 : (k : Int) < (n : Int) + 1 := by omega
          have j6 : (0 : Int) ≤ (k : Int) + 1 := by omega
          have u0 := keptCell lt2 d1
          have u1 := keptCell (b := be) (o := oe + k * 2) lte (hce k (by omega)).1
          have u2 := keptCell (b := be) (o := oe + k * 2 + 1) lte (hce k (by omega)).2
          have u3 := keptCell (b := be) (o := oe + (k + 1) * 2) lte (hce (k + 1) (by omega)).1
          have u4 := keptCell (b := be) (o := oe + (k + 1) * 2 + 1) lte (hce (k + 1) (by omega)).2
          have HC := Lib.hid (fun (q : Kept wr) => keptCall (l8HitC t.a t.len t.cap (pss.getD j []) (cor qs k) (cor qs (k + 1)) q.u (I1.next q.b) (by have := I1.1; have := HOC.out.2.1; omega) HOC.out.2.2.1 (HOQ.out k (by omega)) (HOQ.out (k + 1) (by omega))))
          unfold slQ at u0
          have HMEM := Lib.hid (at_mem10 hjp)
          clear hc2 hce d1 I1
          by_cases hh : Hit (pss.getD j []) (cor qs k) (cor qs (k + 1))
          · rw [decide_eq_true hh] at HC
            have HV := Lib.hid (show false = decide (clrV pss qs) from (decide_eq_false (p := clrV pss qs) (fun q => q k (by rw [HPL.out]; omega) _ HMEM.out hh)).symm)
            clear hh
            generalize cor qs k = p at *
            generalize cor qs (k + 1) = p' at *
            go_upto_region 8 with fail
            refine wp_region_kept (by kernel_rfl) (by kernel_rfl) ?_
            repeat (go_big_quiet_step ((go_at_call 44; with_reducible exact HC.out _)))
            refine wpQuiet_nil ?_
            rintro w5 ⟨⟨_, K2⟩, rfl⟩
            have HW5 := Lib.hid (below_call HB1.out (below_call HW.out K2))
            clear u0 u1 u2 u3 u4 HC K2
            go_wp2
            go_ret
            exact ⟨ret_bool HV.out, HW5.out⟩
          · rw [decide_eq_false hh] at HC
            have HJ2 : Hid (∀ i, i < j + 1 → ¬ Hit (pss.getD i []) (cor qs k) (cor qs (k + 1))) := Lib.hid fun i hi => by
              by_cases e : i = j
              · subst e; exact hh
              · exact HJ.out i (by omega)
            clear hh HJ
            have HJ3 := Lib.hid HJ2.out
            generalize cor qs k = p at *
            generalize cor qs (k + 1) = p' at *
            go_upto_region 8 with fail
            refine wp_region_kept (by kernel_rfl) (by kernel_rfl) ?_
            repeat (go_big_quiet_step ((go_at_call 44; with_reducible exact HC.out _)))
            refine wpQuiet_nil ?_
            rintro w5 ⟨⟨_, K2⟩, rfl⟩
            have HW5 := Lib.hid (below_call HW.out K2)
            clear u0 u1 u2 u3 u4 HC K2
            go_wp2
            go_roundw
            case rel => exact ⟨j + 1, by omega, by congr 1, HJ3, HW5⟩
            case measure => simp [intOf]; omega
        · obtain rfl : j = sl := by omega
          have HI2 : Hid (∀ i, i < k + 1 → ∀ o ∈ pss, ¬ Hit o (cor qs i) (cor qs (i + 1))) := Lib.hid fun i hi o ho => by
            by_cases e : i = k
            · subst e
              obtain ⟨q, hq, rfl⟩ := mem_at10 ho
              exact HJ.out q (by rw [HSN.out]; exact hq)
            · exact HI.out i (by omega) o ho
          go_wp2
          go_roundw
          case rel => exact ⟨k + 1, by omega, by congr 1, HI2, HW⟩
          case measure => simp [intOf]; omega
    · obtain rfl : k = n := by omega
      have k1 : ¬ ((k : Int) + 1 < ((k + 1 : Nat) : Int)) := by omega
      have k2 : ¬ ((k : Int) + 1 < (k : Int) + 1) := by omega
      have HV := Lib.hid (show true = decide (clrV pss qs) from (decide_eq_true (p := clrV pss qs) (fun i hi o ho => HI.out i (by rw [HPL.out] at hi; omega) o ho)).symm)
      go_wp2
      go_ret
      exact ⟨ret_bool HV.out, below_call HB1.out HW.out⟩
end Go.Proofs.YtkogoflcacameaaGreatDoor
namespace Go.Proofs.YtkogoflcacameaaGreatDoor
set_option maxRecDepth 100000
open Go.RowKit
attribute [local go_sem ↓] Go.wp_at_zero Go.wp_at_succ
end Go.Proofs.YtkogoflcacameaaGreatDoor
