/- The walk of the exact law on free cells. -/
import Derived.Test.YtkogoflcacameaaDoorIf11
import Derived.Test.YtkogoflcacameaaDoorSk11
import Derived.Test.YtkogoflcacameaaDoorPm11
import Derived.Test.YtkogoflcacameaaDoorZbChn
import Derived.Deep.RegionHeld3
namespace Go.Proofs.YtkogoflcacameaaDoor
set_option maxRecDepth 100000
open Go.RowKit
attribute [local go_sem ↓] Go.wp_at_zero Go.wp_at_succ
theorem ownsSame {w w' : World} {B sz n : Nat} {e : TypeId} {v : Value} {xs : List Value} (h : w.ownsRow B e sz v n xs) (hb : ∀ g, v.ownBlock = some g → w'.heap[g]? = w.heap[g]?) : w'.ownsRow B e sz v n xs := by
  refine ⟨h.1, ?_⟩
  rcases h.2 with h2 | ⟨g, c, cur, hv, hb', hg, rest⟩
  · exact .inl h2
  · exact .inr ⟨g, c, cur, hv, hb', by rw [hb g (by rw [hv]; rfl)]; exact hg, rest⟩
theorem belowDown {B B' : Nat} {w w' : World} (h : Below B w w') (hB : B' ≤ B) : Below B' w w' := ⟨h.os, h.tape, h.output, h.size, fun k hk => h.block k (Nat.lt_of_lt_of_le hk hB)⟩
theorem Bol.RowsM.sameB {u u' : World} {g len k : Nat} {T : List (List Bool)} {vs : List Value} {bk : Nat → Nat} (h : Bol.RowsM u g len k T vs bk) (hS : u.heap.size ≤ u'.heap.size) (h0 : u'.heap[g]? = u.heap[g]?) (h1 : ∀ i, i < k → u'.heap[bk i]? = u.heap[bk i]?) : Bol.RowsM u' g len k T vs bk :=
  ⟨ownsSame h.own (fun q hq => by have : g = q := Option.some.inj hq; subst this; exact h0), h.val, fun i hi => ownsSame (h.row i hi) (fun q hq => by have : bk i = q := Option.some.inj hq; subst this; exact h1 i hi), h.gt, fun i hi => Nat.lt_of_lt_of_le (h.lt i hi) hS, h.inc⟩
theorem Pnt.RowsM.sameB {u u' : World} {g len k : Nat} {T : List (List P2)} {vs : List Value} {bk : Nat → Nat} (h : Pnt.RowsM u g len k T vs bk) (hS : u.heap.size ≤ u'.heap.size) (h0 : u'.heap[g]? = u.heap[g]?) (h1 : ∀ i, i < k → u'.heap[bk i]? = u.heap[bk i]?) : Pnt.RowsM u' g len k T vs bk :=
  ⟨ownsSame h.own (fun q hq => by have : g = q := Option.some.inj hq; subst this; exact h0), h.val, fun i hi => ownsSame (h.row i hi) (fun q hq => by have : bk i = q := Option.some.inj hq; subst this; exact h1 i hi), h.gt, fun i hi => Nat.lt_of_lt_of_le (h.lt i hi) hS, h.inc⟩
/-- A table of the call's own, or none at all. -/
def BR (u : World) (B : Nat) (a : Option Addr) (len cap : Nat) (T : List (List Bool)) : Prop :=
  len = T.length ∧ ((a = none ∧ len = 0 ∧ cap = 0) ∨ ∃ g vs bk, a = some ⟨g, 0, none⟩ ∧ cap = len ∧ B ≤ g ∧ Bol.RowsM u g len len T vs bk)
section
variable {u u' : World} {B len cap : Nat} {a : Option Addr} {T : List (List Bool)}
theorem BR.rsa (h : BR u B a len cap T) (hr : ∀ i, i < len → (T.getD i []).length ≤ 1048576) : Bol.RSA u a len T := by
  obtain ⟨h1, ⟨rfl, rfl, rfl⟩ | ⟨g, vs, bk, rfl, rfl, hg, hM⟩⟩ := h
  · exact ⟨h1, .inl (List.eq_nil_of_length_eq_zero h1.symm)⟩
  · exact hM.rsa h1 hr
theorem BR.next (h : BR u B a len cap T) (hb : Below u.heap.size u u') : BR u' B a len cap T :=
  ⟨h.1, h.2.imp id fun ⟨g, vs, bk, h1, h2, h3, h4⟩ => ⟨g, vs, bk, h1, h2, h3, h4.next hb⟩⟩
theorem BR.same (h : BR u B a len cap T) (hS : u.heap.size ≤ u'.heap.size) (hb : ∀ q, B ≤ q → q < u.heap.size → u'.heap[q]? = u.heap[q]?) : BR u' B a len cap T :=
  ⟨h.1, h.2.imp id fun ⟨g, vs, bk, h1, h2, h3, h4⟩ => ⟨g, vs, bk, h1, h2, h3, h4.sameB hS (hb g h3 (World.ownsRow.lt h4.own g rfl).2) (fun i hi => hb _ (by have := h4.gt i hi; omega) (h4.lt i hi))⟩⟩
end
theorem GotF.br {ls lo hi : List Int} {step : Int} {pss : List (List P2)} {w w' : World} {e : Ending} (h : GotF ls lo hi step pss w e w') : ∃ (a : Option Addr) (len cap : Nat), e = .returned (.slice a len cap) ∧ BR w' w.heap.size a len cap (freeT ls lo hi step pss) ∧ Below w.heap.size w w' := by
  obtain ⟨hb, ⟨hn, rfl⟩ | ⟨hk, g, vs, bk, rfl, hg, hM⟩⟩ := h
  · exact ⟨none, 0, 0, rfl, ⟨by rw [freeT_out hn]; rfl, .inl ⟨rfl, rfl, rfl⟩⟩, hb⟩
  · exact ⟨some ⟨g, 0, none⟩, _, _, rfl, ⟨(freeT_len hk).symm, .inr ⟨g, vs, bk, rfl, rfl, hg, hM⟩⟩, hb⟩
theorem freeT_small (ls lo hi : List Int) (step : Int) (pss : List (List P2)) : (freeT ls lo hi step pss).length ≤ 20 ∧ ∀ i, i < (freeT ls lo hi step pss).length → ((freeT ls lo hi step pss).getD i []).length ≤ 20 := by
  by_cases hk : okGrid ls lo hi step ∧ scnV pss
  · have hp := grid_pos hk.1
    rw [gridX_in hk.1, gridY_in hk.1] at hp
    rw [freeT_len hk]
    exact ⟨by omega, fun i hi2 => by rw [freeT_rl hk hi2]; omega⟩
  · rw [freeT_out hk]
    exact ⟨by simp, fun i hi2 => by simp at hi2⟩
theorem markBR {w : World} {B len cap : Nat} {a : Option Addr} {T : List (List Bool)} (h : BR w B a len cap T) (k : Int) (hl : len ≤ 1048576) (hk0 : 0 ≤ k) (hk1 : k ≤ 1048576) (hr : ∀ i, i < len → (T.getD i []).length ≤ 1048576) :
    Calls Tryd.prog 21 #[.slice a len cap, .int .i64 k] w fun e w' => e = .returned (.int .i64 (k + (Bol.preL T len : Int))) ∧ BR w' B a len cap (Bol.mkTo T k len) ∧ Below B w w' := by
  obtain ⟨h1, ⟨rfl, rfl, rfl⟩ | ⟨g, vs, bk, rfl, rfl, hg, hM⟩⟩ := h
  · have HE := Lib.hid (show BR w B none 0 0 (Bol.mkTo T k 0) from ⟨by rw [Bol.mkTo_len]; exact h1, .inl ⟨rfl, rfl, rfl⟩⟩)
    clear h1 hr
    go_enter Tryd.func21, Tryd.ntmps21
    go_wp2
    go_loop [1, 5] (fun kk i => kk = .int .i64 k ∧ i = .int .i64 0) (fun _ _ => 0)
    case atStart => exact ⟨rfl, rfl⟩
    case round =>
      obtain ⟨rfl, rfl⟩ := hrel
      go_wp2
      go_ret
      exact ⟨ret_int (by simp [Bol.preL]), HE.out, Below.refl _ _⟩
  · refine (Bol.markBoolSS g cap T vs bk k w hM h1 hl hr hk0 hk1).mono ?_
    rintro e w' ⟨rfl, hM2, hR⟩
    exact ⟨rfl, ⟨by rw [Bol.mkTo_len]; exact h1, .inr ⟨g, vs, bk, rfl, rfl, hg, hM2⟩⟩, hR.below (Below.refl _ _) (fun i hi => by have := hM.gt i hi; omega)⟩
theorem heldBR {w : World} {B len cap : Nat} {a : Option Addr} {T : List (List Bool)} {k : Int} (h : BR w B a len cap (Bol.mkTo T k len)) (hl : len ≤ 1048576) (hk0 : 0 ≤ k) (hk1 : k ≤ 1048576) (hr : ∀ i, i < len → (T.getD i []).length ≤ 1048576) :
    Calls Tryd.prog 22 #[.slice a len cap, .int .i64 k] w fun e w' => e = .returned (.int .i64 (k + (Bol.preL T len : Int))) ∧ w = w' := by
  obtain ⟨h1, ⟨rfl, rfl, rfl⟩ | ⟨g, vs, bk, rfl, rfl, hg, hM⟩⟩ := h
  · clear h1 hr
    go_enter Tryd.func22, Tryd.ntmps22
    go_wp2
    go_loop [1, 5] (fun kk i => kk = .int .i64 k ∧ i = .int .i64 0) (fun _ _ => 0)
    case atStart => exact ⟨rfl, rfl⟩
    case round =>
      obtain ⟨rfl, rfl⟩ := hrel
      go_wp2
      go_ret
      exact ⟨ret_int (by simp [Bol.preL]), rfl⟩
  · exact Bol.heldBoolSS g cap T vs bk k w hM (by rw [h1, Bol.mkTo_len]) hl hr hk0 hk1
set_option maxHeartbeats 8000000 in
theorem walkFnExactFreeCells (x y z : Sl) (ls lo hi : List Int) (step : Int) (s : Sl) (pss : List (List P2)) (w : World) (ht : TabAt w) (hx : IntsAt w x.a x.len ls) (hy : IntsAt w y.a y.len lo) (hz : IntsAt w z.a z.len hi) (bx : x.len ≤ 9223372036854775807) (b_y : y.len ≤ 9223372036854775807) (bz : z.len ≤ 9223372036854775807) (hs : PssIn w s.a s.len pss) (bs : s.len ≤ 9223372036854775807) :
    Calls Tryd.prog 4 #[av x y z, .int .i64 step, .slice s.a s.len s.cap] w fun e w' => e = .returned (.bool true) ∧ Below w.heap.size w w' := by
  have HA := Lib.hid (And.intro hx (And.intro hy (And.intro hz hs)))
  have HT := Lib.hid ht
  have HZs := Lib.hid (fun (left : Int) (h0 : 0 ≤ left) (h1 : left ≤ 1048576) => szPointSS s.a s.len s.cap left pss hs h0 h1 bs)
  clear ht hx hy hz hs
  obtain ⟨xa, xl, xc⟩ := x
  obtain ⟨ya, yl, yc⟩ := y
  obtain ⟨za, zl, zc⟩ := z
  obtain ⟨sa, sl, sc⟩ := s
  simp only at *
  have HB := Lib.hid (below_box w (.cells #[.slice xa xl xc, .slice ya yl yc, .slice za zl zc] 40))
  have P := AtA.box w (.slice xa xl xc) (.slice ya yl yc) (.slice za zl zc) 40
  go_enter Tryd.func4, Tryd.ntmps4
  go_wp2_with fail
  refine (szArm ⟨xa, xl, xc⟩ ⟨ya, yl, yc⟩ ⟨za, zl, zc⟩ 1048576 _ (by omega) (by omega) bx b_y bz).mono ?_
  rintro e w1 ⟨rr, rfl, hr, B1⟩
  replace P := P.next B1
  replace HB := Lib.hid (below_call HB.out B1)
  clear B1
  rcases hr with rfl | ⟨r0, r1⟩
  · go_wp2
    go_ret
    exact ⟨rfl, HB.out⟩
  have lx : xl ≤ 1048576 := by simp only at r1; omega
  have ly : yl ≤ 1048576 := by simp only at r1; omega
  have lz : zl ≤ 1048576 := by simp only at r1; omega
  have rr1 : rr ≤ 1048576 := by simp only at r1; omega
  have n0 : ¬ (rr < 0) := by omega
  have hsum : (xl : Int) + yl + zl ≤ 1048576 := by simp only at r1; omega
  clear r1
  obtain ⟨xs, hxs, HSs⟩ := HZs.out rr (by omega) (by omega)
  replace HSs := Lib.hid HSs
  have HXs := Lib.hid hxs
  have qs : xs = -1 ∨ (0 ≤ xs ∧ xs ≤ 1048576) := by rcases HXs.out with h | ⟨h1, h2, _, _⟩ <;> omega
  clear hxs HZs
  go_wp2_with fail
  refine (HSs.out _ HB.out).mono ?_
  rintro e w' ⟨rfl, rfl⟩
  clear HSs
  rcases qs with rfl | ⟨qas, qbs⟩
  · go_wp2
    go_ret
    exact ⟨rfl, HB.out⟩
  have HRs := Lib.hid (show sl ≤ 1048576 ∧ ∀ i, i < sl → (pss.getD i []).length ≤ 1048576 from by
    rcases HXs.out with h | ⟨_, _, h2, h3⟩
    · omega
    · exact ⟨by omega, fun i hi => by have := h3 i hi; omega⟩)
  have ns : ¬ (xs < 0) := by omega
  clear HXs
  have HRT := Lib.hid (freeT_small ls lo hi step pss)
  generalize hT : freeT ls lo hi step pss = T at *
  have HTT := Lib.hid hT
  clear hT
  obtain ⟨_, p1, p2, p3, _, _, _⟩ := id P
  go_wp2_with fail
  refine (toArm ⟨xa, xl, xc⟩ ⟨ya, yl, yc⟩ ⟨za, zl, zc⟩ ls lo hi _ (HA.out.1.next HB.out) (HA.out.2.1.next HB.out) (HA.out.2.2.1.next HB.out) lx ly lz).mono ?_
  rintro e w2 ⟨x2, y2, z2, rfl, q1, q2, q3, N2, B2⟩
  obtain ⟨xa2, xl2, xc2⟩ := x2
  obtain ⟨ya2, yl2, yc2⟩ := y2
  obtain ⟨za2, zl2, zc2⟩ := z2
  simp only at q1 q2 q3
  replace q1 := q1.symm
  replace q2 := q2.symm
  replace q3 := q3.symm
  subst q1 q2 q3
  replace P := P.next B2
  replace HB := Lib.hid (below_call HB.out B2)
  obtain ⟨I1, I2, I3⟩ := N2.ints
  clear p1 p2 p3 N2 B2
  go_wp2_with fail
  refine (toPointSS sa sl sc pss _ (HA.out.2.2.2.next HB.out) HRs.out.1 HRs.out.2).mono ?_
  rintro e w3s ⟨rfl, Os, Bs⟩
  replace P := P.next Bs
  replace HB := Lib.hid (below_call HB.out Bs)
  replace I1 := I1.next Bs
  replace I2 := I2.next Bs
  replace I3 := I3.next Bs
  clear Bs
  go_wp2_with fail
  refine (specFreeCells ⟨xa2, xl, xc2⟩ ⟨ya2, yl, yc2⟩ ⟨za2, zl, zc2⟩ ⟨some ⟨w2.heap.size, 0, none⟩, sl, sl⟩ ls lo hi step pss _ I1 I2 I3 Os.pss bx b_y bz bs).mono ?_
  rw [HTT.out]
  rintro e wB ⟨⟨sa0, sl0, sc0⟩, rfl, R0, B9⟩
  simp only at R0
  have W0 := Lib.hid R0
  replace P := P.next B9
  replace HB := Lib.hid (below_call HB.out B9)
  clear B9 I1 I2 I3 Os R0
  obtain ⟨_, p1, p2, p3, _, _, _⟩ := id P
  go_wp2_with fail
  refine (toArm ⟨xa, xl, xc⟩ ⟨ya, yl, yc⟩ ⟨za, zl, zc⟩ ls lo hi _ (HA.out.1.next HB.out) (HA.out.2.1.next HB.out) (HA.out.2.2.1.next HB.out) lx ly lz).mono ?_
  rintro e w5 ⟨x5, y5, z5, rfl, q1, q2, q3, N5, B5⟩
  obtain ⟨xa5, xl5, xc5⟩ := x5
  obtain ⟨ya5, yl5, yc5⟩ := y5
  obtain ⟨za5, zl5, zc5⟩ := z5
  simp only at q1 q2 q3
  replace q1 := q1.symm
  replace q2 := q2.symm
  replace q3 := q3.symm
  subst q1 q2 q3
  have X := AtA.box w5 (.slice xa5 xl xc5) (.slice ya5 yl yc5) (.slice za5 zl zc5) 25
  have Bx := below_box w5 (.cells #[.slice xa5 xl xc5, .slice ya5 yl yc5, .slice za5 zl zc5] 25)
  replace N5 := N5.next Bx
  have HK := Lib.hid (below_call B5 Bx)
  have PB := Lib.hid P
  clear p1 p2 p3 B5 Bx P
  go_upto_region 10 with fail
  generalize w5.alloc (.cells #[.slice xa5 xl xc5, .slice ya5 yl yc5, .slice za5 zl zc5] 25) = w6 at *
  have HN := Lib.hid (And.intro (show NewArm w6 wB.heap.size _ _ _ ls lo hi from N5) HK.out.size)
  go_wp2_with fail
  refine (Pnt.toPointSSM sa sl sc pss _ (HA.out.2.2.2.next (below_call HB.out HK.out)) HRs.out.1 HRs.out.2).mono ?_
  rintro e w7 ⟨rfl, ⟨vsP, bkP, hMP⟩, B7⟩
  have HPL := Lib.hid (show sl = pss.length from HA.out.2.2.2.1)
  have HM := Lib.hid hMP
  have HBK := Lib.hid (fun i (hi2 : i < sl) => And.intro (hMP.gt i hi2) (hMP.lt i hi2))
  have HSZ := Lib.hid (show w6.heap.size < w7.heap.size from (World.ownsRow.lt hMP.own w6.heap.size rfl).2)
  replace X := X.next B7
  replace N5 := N5.next B7
  replace HK := Lib.hid (below_call HK.out B7)
  clear B7 hMP
  have Os2 := (HM.out.rsa HPL.out HRs.out.2).pss
  obtain ⟨x0, x1, x2, x3, _, _, _⟩ := id X
  obtain ⟨I1, I2, I3⟩ := N5.ints
  go_wp2_with fail
  refine (implFreeCells ⟨xa5, xl, xc5⟩ ⟨ya5, yl, yc5⟩ ⟨za5, zl, zc5⟩ ⟨some ⟨w6.heap.size, 0, none⟩, sl, sl⟩ ls lo hi step pss _ (HT.out.below (below_call HB.out HK.out) HT.out.lt) I1 I2 I3 Os2 bx b_y bz bs).mono ?_
  intro e w8 hG
  obtain ⟨sa1, sl1, sc1, rfl, O1, B8⟩ := hG.br
  rw [HTT.out] at O1
  obtain rfl : sl1 = sl0 := by rw [O1.1, W0.out.1]
  have hs20 : sl1 ≤ 20 := by rw [O1.1]; exact HRT.out.1
  have HR20 := Lib.hid (fun i (hi2 : i < sl1) => show (T.getD i []).length ≤ 1048576 from Nat.le_trans (HRT.out.2 i (by rw [← O1.1]; exact hi2)) (by decide))
  have HO1 := Lib.hid O1
  replace X := X.next B8
  replace N5 := N5.next B8
  replace HM := Lib.hid (HM.out.next B8)
  replace HK := Lib.hid (below_call HK.out B8)
  clear B8 x0 x1 x2 x3 O1 hG Os2 I1 I2 I3
  go_wp2_with fail
  refine (Bol.eqBoolSSW sa1 sa0 sl1 sl1 sc1 sc0 T _ (HO1.out.rsa HR20.out) (W0.out.next HK.out) (by omega) HR20.out).mono ?_
  rintro e w9 ⟨rfl, B9⟩
  replace X := X.next B9
  replace N5 := N5.next B9
  replace HM := Lib.hid (HM.out.next B9)
  replace HO1 := Lib.hid (HO1.out.next B9)
  replace HK := Lib.hid (below_call HK.out B9)
  obtain ⟨I1, I2, I3⟩ := N5.ints
  clear B9
  have P := PB.out.next HK.out
  have g0 : Below w9.heap.size w9 w9 := Below.refl _ _
  go_wp2
  go_region_held3 (fun u => u.cell? ⟨w5.heap.size, 0, none⟩ = some (.slice xa5 xl xc5) ∧ u.cell? ⟨w5.heap.size, 1, none⟩ = some (.slice ya5 yl yc5) ∧ u.cell? ⟨w5.heap.size, 2, none⟩ = some (.slice za5 zl zc5) ∧ u.cell? ⟨w.heap.size, 0, none⟩ = some (.slice xa xl xc) ∧ u.cell? ⟨w.heap.size, 1, none⟩ = some (.slice ya yl yc) ∧ u.cell? ⟨w.heap.size, 2, none⟩ = some (.slice za zl zc)) (exact keepA (by repeat (first | (with_reducible assumption) | (with_reducible apply Below.drew))) X P) (first
    | (go_at_call 14
       refine (toArmR ⟨xa, xl, xc⟩ ⟨ya, yl, yc⟩ ⟨za, zl, zc⟩ ls lo hi w9 _ (by repeat (first | (with_reducible assumption) | (with_reducible apply Below.drew))) (HA.out.1.next (below_call HB.out HK.out)) (HA.out.2.1.next (below_call HB.out HK.out)) (HA.out.2.2.1.next (below_call HB.out HK.out)) lx ly lz).mono ?_
       rintro e wc ⟨xc7, yc7, zc7, rfl, J1, J2, J3, K7⟩)
    | (go_at_call 17
       refine (eqArmR ⟨xa5, xl, xc5⟩ ⟨ya5, yl, yc5⟩ ⟨za5, zl, zc5⟩ xc7 yc7 zc7 ls lo hi w9 _ (by repeat (first | (with_reducible assumption) | (with_reducible apply Below.drew))) (I1.next K7) (I2.next K7) (I3.next K7) J1 J2 J3 bx b_y bz).mono ?_
       rintro e wd ⟨rfl, Kd⟩))
  replace HK := Lib.hid (below_call HK.out Kd)
  replace HM := Lib.hid (HM.out.next Kd)
  replace HO1 := Lib.hid (HO1.out.next Kd)
  replace X := X.next Kd
  replace N5 := N5.next Kd
  clear Kd g0 P I1 I2 I3 K7 J1 J2 J3
  go_wp2_with fail
  refine (toPointSS sa sl sc pss _ (HA.out.2.2.2.next (below_call HB.out HK.out)) HRs.out.1 HRs.out.2).mono ?_
  rintro e wes ⟨rfl, Oe, Be⟩
  replace HM := Lib.hid (HM.out.next Be)
  replace HO1 := Lib.hid (HO1.out.next Be)
  replace X := X.next Be
  replace N5 := N5.next Be
  replace HK := Lib.hid (below_call HK.out Be)
  clear Be
  go_wp2_with fail
  refine (eqPointSS _ _ _ _ _ _ pss _ (HM.out.rsa HPL.out HRs.out.2) Oe HRs.out.1 HRs.out.2).mono ?_
  rintro e wfs ⟨rfl, Bf⟩
  replace HM := Lib.hid (HM.out.next Bf)
  replace HO1 := Lib.hid (HO1.out.next Bf)
  replace X := X.next Bf
  replace N5 := N5.next Bf
  replace HK := Lib.hid (below_call HK.out Bf)
  clear Bf Oe
  obtain ⟨_, x1, x2, x3, _, _, _⟩ := id X
  go_wp2_with fail
  refine (markArm ⟨xa5, xl, xc5⟩ ⟨ya5, yl, yc5⟩ ⟨za5, zl, zc5⟩ wB.heap.size ls lo hi 1 _ N5 (by omega) (by omega) lx ly lz).mono ?_
  rintro e wg ⟨rfl, Bg, Fg⟩
  replace HK := Lib.hid (HK.out.trans Bg)
  replace HM := Lib.hid (HM.out.sameB Bg.size (Fg _ (World.ownsRow.lt HM.out.own w6.heap.size rfl).2 (HN.out.1.apart (Nat.le_refl _))) (fun i hi2 => Fg _ (HM.out.lt i hi2) (HN.out.1.apart (Nat.le_of_lt (HBK.out i hi2).1))))
  replace HO1 := Lib.hid (HO1.out.same Bg.size (fun q hq1 hq2 => Fg q hq2 (HN.out.1.apart (Nat.le_trans (Nat.le_of_lt HSZ.out) hq1))))
  clear x1 x2 x3 X N5 Bg Fg
  go_wp2_with fail
  refine (Pnt.markPointSS w6.heap.size sl pss vsP bkP _ _ HM.out HPL.out HRs.out.1 HRs.out.2 (by (try simp only); omega) (by (try simp only); omega)).mono ?_
  rintro e wh ⟨rfl, _, hR0⟩
  replace HK := Lib.hid (hR0.below HK.out (fun i hi2 => by have := (HBK.out i hi2).1; have := HN.out.2; omega))
  replace HO1 := Lib.hid (HO1.out.same (Nat.le_of_eq hR0.size.symm) (fun q hq1 hq2 => hR0.block q (fun i hi2 => by have := (HBK.out i hi2).2; omega)))
  clear hR0 HM
  go_wp2_with fail
  refine (Bol.eqBoolSSW sa1 sa0 sl1 sl1 sc1 sc0 T _ (HO1.out.rsa HR20.out) (W0.out.next HK.out) (by omega) HR20.out).mono ?_
  rintro e wi ⟨rfl, Bi⟩
  replace HO1 := Lib.hid (HO1.out.next Bi)
  replace HK := Lib.hid (below_call HK.out Bi)
  clear Bi
  go_wp2_with fail
  refine (markBR HO1.out 1 (by omega) (by omega) (by omega) HR20.out).mono ?_
  rintro e wj ⟨rfl, Oj, Bj⟩
  replace HK := Lib.hid (HK.out.trans (belowDown Bj (Nat.le_trans HN.out.2 (Nat.le_of_lt HSZ.out))))
  have HOj := Lib.hid Oj
  have e2 : ((1 + (Bol.preL T sl1 : Int)) != (1 + (Bol.preL T sl1 : Int))) = false := by simp
  have n2 : ¬ (1 + (Bol.preL T sl1 : Int) < 0) := by omega
  clear Oj Bj HO1
  go_wp2_with fail
  refine (heldBR HOj.out (by omega) (by omega) (by omega) HR20.out).mono ?_
  rintro e w' ⟨rfl, rfl⟩
  have P := PB.out.next HK.out
  obtain ⟨_, p1, p2, p3, _, _, _⟩ := id P
  go_wp2_with fail
  refine (toArm ⟨xa, xl, xc⟩ ⟨ya, yl, yc⟩ ⟨za, zl, zc⟩ ls lo hi _ (HA.out.1.next (below_call HB.out HK.out)) (HA.out.2.1.next (below_call HB.out HK.out)) (HA.out.2.2.1.next (below_call HB.out HK.out)) lx ly lz).mono ?_
  rintro e wa ⟨xa, ya, za, rfl, q1, q2, q3, Na, Ba⟩
  obtain ⟨xaa, xla, xca⟩ := xa
  obtain ⟨yaa, yla, yca⟩ := ya
  obtain ⟨zaa, zla, zca⟩ := za
  simp only at q1 q2 q3
  replace q1 := q1.symm
  replace q2 := q2.symm
  replace q3 := q3.symm
  subst q1 q2 q3
  replace HOj := Lib.hid (HOj.out.next Ba)
  replace HK := Lib.hid (below_call HK.out Ba)
  obtain ⟨I1, I2, I3⟩ := Na.ints
  clear p1 p2 p3 Na Ba P
  go_wp2_with fail
  refine (toPointSS sa sl sc pss _ (HA.out.2.2.2.next (below_call HB.out HK.out)) HRs.out.1 HRs.out.2).mono ?_
  rintro e wbs ⟨rfl, Ob, Bb⟩
  replace I1 := I1.next Bb
  replace I2 := I2.next Bb
  replace I3 := I3.next Bb
  replace HOj := Lib.hid (HOj.out.next Bb)
  replace HK := Lib.hid (below_call HK.out Bb)
  clear Bb
  go_wp2_with fail
  refine (implFreeCells ⟨xaa, xl, xca⟩ ⟨yaa, yl, yca⟩ ⟨zaa, zl, zca⟩ ⟨some ⟨wa.heap.size, 0, none⟩, sl, sl⟩ ls lo hi step pss _ (HT.out.below (below_call HB.out HK.out) HT.out.lt) I1 I2 I3 Ob.pss bx b_y bz bs).mono ?_
  intro e wm hG
  obtain ⟨sam, slm, scm, rfl, Om, Bm⟩ := hG.br
  rw [HTT.out] at Om
  obtain rfl : slm = sl1 := by rw [Om.1, HOj.out.1, Bol.mkTo_len]
  have HOm := Lib.hid Om
  replace HOj := Lib.hid (HOj.out.next Bm)
  replace HK := Lib.hid (below_call HK.out Bm)
  clear Bm Om hG Ob I1 I2 I3
  go_wp2_with fail
  refine (Bol.eqBoolSSW sam sa0 slm slm scm sc0 T _ (HOm.out.rsa HR20.out) (W0.out.next HK.out) (by omega) HR20.out).mono ?_
  rintro e wn ⟨rfl, Bn⟩
  replace HOj := Lib.hid (HOj.out.next Bn)
  replace HK := Lib.hid (below_call HK.out Bn)
  clear Bn HOm
  go_wp2_with fail
  refine (heldBR HOj.out (by omega) (by omega) (by omega) HR20.out).mono ?_
  rintro e w' ⟨rfl, rfl⟩
  go_wp2
  go_ret
  exact ⟨rfl, below_call HB.out HK.out⟩
end Go.Proofs.YtkogoflcacameaaDoor
