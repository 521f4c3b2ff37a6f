/- The walk of the law FnBoxOf: it returns true at every code. -/
import Derived.Test.YtlbheofomjakmaaWc7
import Derived.Test.YtlbheofomjakmaaBs7
import Derived.Test.YtlbheofomjakmaaCl7
namespace Go.Proofs.Ytlbheofomjakmaa
set_option maxRecDepth 100000
open Go.RowKit
attribute [local go_sem ↓] Go.wp_at_zero Go.wp_at_succ
/-- Four answers, in one block. -/
def four (p q r s : Bool) : Array Value := #[.bool p, .bool q, .bool r, .bool s]
theorem Blk.four4 {W : World} {b : Nat} {p q r s : Bool} {t : TypeId} (h : Blk W b (four p q r s) t) (p' q' r' s' : Bool) :
    Blk ((((W.setCell ⟨b, 0, none⟩ (.bool p')).setCell ⟨b, 1, none⟩ (.bool q')).setCell ⟨b, 2, none⟩ (.bool r')).setCell ⟨b, 3, none⟩ (.bool s')) b (four p' q' r' s') t :=
  (((h.set 0 _).set 1 _).set 2 _).set 3 _
theorem below_set8 {w w' : World} (h : Below w.heap.size w w') {b : Nat} (hb : w.heap.size ≤ b) (p q r s : Value) :
    Below w.heap.size w ((((w'.setCell ⟨b, 0, none⟩ p).setCell ⟨b, 1, none⟩ q).setCell ⟨b, 2, none⟩ r).setCell ⟨b, 3, none⟩ s) :=
  (((h.setCell (p := ⟨b, 0, none⟩) hb _).setCell (p := ⟨b, 1, none⟩) hb _).setCell (p := ⟨b, 2, none⟩) hb _).setCell (p := ⟨b, 3, none⟩) hb _
theorem far8 (w : World) {b c : Nat} (hc : c ≠ b) (o : Nat) (p q r s : Value) :
    ((((w.setCell ⟨c, 0, none⟩ p).setCell ⟨c, 1, none⟩ q).setCell ⟨c, 2, none⟩ r).setCell ⟨c, 3, none⟩ s).cell? ⟨b, o, none⟩ = w.cell? ⟨b, o, none⟩ := by
  rw [World.cell?_setCell_far _ _ _ _ hc, World.cell?_setCell_far _ _ _ _ hc, World.cell?_setCell_far _ _ _ _ hc, World.cell?_setCell_far _ _ _ _ hc]
theorem AtP.far8 {w : World} {b c : Nat} {x y : Int} (h : AtP w b x y) (hc : c ≠ b) (p q r s : Value) : AtP ((((w.setCell ⟨c, 0, none⟩ p).setCell ⟨c, 1, none⟩ q).setCell ⟨c, 2, none⟩ r).setCell ⟨c, 3, none⟩ s) b x y :=
  ⟨by simpa [World.setCell] using h.lt, (Go.Proofs.Ytlbheofomjakmaa.far8 w hc 0 p q r s).trans h.c0, (Go.Proofs.Ytlbheofomjakmaa.far8 w hc 1 p q r s).trans h.c1⟩
theorem hitB_yes {f : Nat → Int} {v : Int} {k : Nat} (h : hitB f v k = true) : true = hitB f v (k + 1) := by unfold hitB; rw [h]; rfl
theorem hitB_no {f : Nat → Int} {v : Int} {k : Nat} (h : hitB f v k = false) : (f k == v) = hitB f v (k + 1) := by conv => rhs; unfold hitB; rw [h, Bool.false_or]
theorem hit_low (f : Nat → Int) (m : Nat) : hitB f (lowF f m) (m + 1) = true := by
  obtain ⟨i, hi, he⟩ := lowF_ex f m
  exact hitB_of f _ (m + 1) i (by omega) he
theorem hit_top (f : Nat → Int) (m : Nat) : hitB f (topF f m) (m + 1) = true := by
  obtain ⟨i, hi, he⟩ := topF_ex f m
  exact hitB_of f _ (m + 1) i (by omega) he
set_option maxHeartbeats 8000000 in
theorem walkFnBoxOf (w : World) (a : Option Addr) (len cap : Nat) (zs : List Int) (h : Bytes w a len cap zs) :
    Calls Try.prog 6 #[.slice a len cap] w fun e w' => e = .returned (.bool true) ∧ Below w.heap.size w w' := by
  have hle := h.len_le
  obtain ⟨hl, hm⟩ := hle
  unfold maxLen at hm
  by_cases hlen : len ≤ 1048576
  · go_enter Try.func6, Try.ntmps6
    go_wp2_with fail
    refine (drawBoxOf w a len cap zs h).mono ?_
    rintro e w1 ⟨s, ps, rfl, hsl, hn, _, O, B1⟩
    have hs8 : s.len ≤ 8 := by omega
    have HB := Lib.hid B1
    have HCAP : s.len ≤ s.cap := by
      rcases O.2 with ⟨hv, _⟩ | ⟨_, _, _, hv, _, _, hc, _⟩
      · simp only [Value.slice.injEq] at hv; omega
      · simp only [Value.slice.injEq] at hv; omega
    clear B1 h
    have HLN := Lib.hid hsl
    clear hsl
    have HX : Hid (∃ lx ly hx hy : Int, boxE ps = .returned (.tuple #[pt lx ly, pt hx hy]) ∧ (boxV lowF pX ps = lx ∧ boxV lowF pY ps = ly) ∧ boxV topF pX ps = hx ∧ boxV topF pY ps = hy) := Lib.hid ⟨_, _, _, _, rfl, ⟨rfl, rfl⟩, rfl, rfl⟩
    obtain ⟨lx, ly, hx, hy, hbe, hbv⟩ := HX.out
    have HE := Lib.hid hbe
    have HV := Lib.hid hbv
    clear hbe hbv HX
    go_wp2_with fail
    refine (implBoxOf s.a s.len s.cap ps _ O.ints HCAP (by omega)).mono ?_
    rw [HE.out]
    rintro e w2 ⟨rfl, B2⟩
    obtain ⟨P4, P5⟩ := at2 w2 lx ly hx hy 31
    replace B2 := below_call B2 (below_box2 w2 (.cells #[.int .i64 lx, .int .i64 ly] 31) (.cells #[.int .i64 hx, .int .i64 hy] 31))
    replace O := O.next B2
    replace HB := Lib.hid (below_call HB.out B2)
    clear B2
    go_upto_region 5 with fail
    generalize (w2.alloc (.cells #[.int .i64 lx, .int .i64 ly] 31)).alloc (.cells #[.int .i64 hx, .int .i64 hy] 31) = w3 at *
    generalize w2.heap.size = g4 at *
    go_wp2_with fail
    refine (specBoxOf s.a s.len s.cap ps _ O.ints (by omega)).mono ?_
    rw [HE.out]
    rintro e w4 ⟨rfl, B4⟩
    obtain ⟨P6, P7⟩ := at2 w4 lx ly hx hy 31
    replace B4 := below_call B4 (below_box2 w4 (.cells #[.int .i64 lx, .int .i64 ly] 31) (.cells #[.int .i64 hx, .int .i64 hy] 31))
    replace O := O.next B4
    replace P4 := P4.next B4
    replace P5 := P5.next B4
    replace HB := Lib.hid (below_call HB.out B4)
    clear B4 HE
    go_upto_region 6 with fail
    generalize (w4.alloc (.cells #[.int .i64 lx, .int .i64 ly] 31)).alloc (.cells #[.int .i64 hx, .int .i64 hy] 31) = w5 at *
    generalize w4.heap.size = g6 at *
    have z1 : (lx != lx) = false := by simp
    have z2 : (ly != ly) = false := by simp
    have z3 : (hx != hx) = false := by simp
    have z4 : (hy != hy) = false := by simp
    obtain ⟨_, p0, p1⟩ := id P4
    obtain ⟨_, p2, p3⟩ := id P5
    obtain ⟨_, p4, p5⟩ := id P6
    obtain ⟨_, p6, p7⟩ := id P7
    go_upto_region 8 with fail
    clear p0 p1 p2 p3 p4 p5 p6 p7 P6 P7 z1 z2 z3 z4
    by_cases hn0 : ps.length = 0
    · have hnb : ¬ okBox ps := fun q => by have := q.1; omega
      obtain ⟨⟨v1, v2⟩, v3, v4⟩ := HV.out
      rw [boxV_out hnb] at v1 v2 v3 v4
      subst v1 v2 v3 v4
      have hs0 : s.len = 0 := by rw [HLN.out]; exact hn0
      have z5 : ((0 : Int) == 0) = true := rfl
      rw [hs0]
      clear hnb hn0 HLN hs0 HV O HCAP
      obtain ⟨_, p0, p1⟩ := id P4
      obtain ⟨_, p2, p3⟩ := id P5
      go_wp2_with fail
      refine (alive _).mono ?_
      rintro e w' ⟨rfl, rfl⟩
      go_wp2
      go_ret
      exact ⟨rfl, HB.out⟩
    · have hn1 : 1 ≤ ps.length := by omega
      obtain ⟨b, hb, ltb, hcb⟩ := O.ints.somes (by have := HLN.out; omega)
      obtain ⟨m, hm'⟩ : ∃ m, s.len = m + 1 := ⟨s.len - 1, by have := HLN.out; omega⟩
      rw [hb, hm'] at O ⊢
      rw [hm'] at HLN hcb HCAP hs8
      have HC := Lib.hid hcb
      have e0 : (((m + 1 : Nat) : Int) == 0) = false := by simp; omega
      have e00 : ((m : Int) + 1 == 0) = false := by simp; omega
      have HPP := Lib.hid (And.intro P4 P5)
      have HLT := Lib.hid ltb
      clear hb hm' hcb hn0 hn1 hn P4 P5 ltb O
      have K8 := Lib.hid (Blk.new w5 (four false false false false) 38)
      have W8 := Lib.hid (below_box w5 (.cells (four false false false false) 38))
      go_wp2
      go_loopw [9] (fun i wr => ∃ k : Nat, k ≤ m + 1 ∧ i = .int .i64 (k : Int) ∧ Hid (∀ i, i < k → okP (pX ps i) (pY ps i)) ∧ Hid (Blk wr w5.heap.size (four false false false false) 38) ∧ Hid (Below w5.heap.size w5 wr)) (fun i _ => m + 1 - (intOf i).toNat)
      case atStart => exact ⟨0, Nat.zero_le _, rfl, Lib.hid (fun i hi => absurd hi (Nat.not_lt_zero _)), K8, W8⟩
      case round =>
        obtain ⟨k, hk, rfl, HO, HK, HW⟩ := hrel
        clear K8 W8
        by_cases hlt : k < m + 1
        · obtain ⟨c0, c1⟩ := HC.out k hlt
          have d1 : wr.cell? ⟨b, k * 2, none⟩ = _ := (HW.out.cell (p := ⟨b, k * 2, none⟩) HLT.out).trans c0
          have d2 : wr.cell? ⟨b, k * 2 + 1, none⟩ = _ := (HW.out.cell (p := ⟨b, k * 2 + 1, none⟩) HLT.out).trans c1
          have j1 : (0 : Int) ≤ (k : Int) := by omega
          have j2 : (k : Int) < ((m + 1 : Nat) : Int) := by omega
          have j3 : (k : Int) < (m : Int) + 1 := by omega
          clear c0 c1
          by_cases hv : okP (pX ps k) (pY ps k)
          · have HO2 : Hid (∀ i, i < k + 1 → okP (pX ps i) (pY ps i)) := Lib.hid (fun i hi => by
              by_cases e : i = k
              · subst e; exact hv
              · exact HO.out i (by omega))
            have HOK := Lib.hid hv
            clear hv HO
            generalize pX ps k = px at *
            generalize pY ps k = py at *
            go_wp2_with fail
            refine (implPointValidY px py _ HOK.out).mono ?_
            rintro e w7 ⟨rfl, B7⟩
            have HK2 := Lib.hid (HK.out.next B7)
            have HW2 := Lib.hid (below_call HW.out B7)
            clear B7 HK HW d1 d2
            go_wp2
            go_roundw
            case rel => exact ⟨k + 1, by omega, by congr 1, HO2, HK2, HW2⟩
            case measure => simp [intOf]; omega
          · have hnb : ¬ okBox ps := fun q => (not_okPts (i := k) hv) q.2.2
            obtain ⟨⟨v1, v2⟩, v3, v4⟩ := HV.out
            rw [boxV_out hnb] at v1 v2 v3 v4
            subst v1 v2 v3 v4
            have HNV := Lib.hid hv
            clear hv hnb HO HK
            generalize pX ps k = px at *
            generalize pY ps k = py at *
            go_wp2_with fail
            refine (implPointValidN px py _ HNV.out).mono ?_
            rintro e w7 ⟨rfl, B7⟩
            obtain ⟨_, p0, p1⟩ := (HPP.out.1.next HW.out).next B7
            obtain ⟨_, p2, p3⟩ := (HPP.out.2.next HW.out).next B7
            have HB7 := Lib.hid (below_call (below_call HB.out HW.out) B7)
            have z5 : ((0 : Int) == 0) = true := rfl
            clear B7 HW d1 d2
            go_wp2
            go_ret
            exact ⟨rfl, HB7.out⟩
        · obtain rfl : k = m + 1 := by omega
          have j2 : ¬ (((m + 1 : Nat) : Int) < ((m + 1 : Nat) : Int)) := by omega
          have hokb : okBox ps := ⟨by have := HLN.out; omega, by have := HLN.out; omega, okPts_of fun i hi => HO.out i (by have := HLN.out; omega)⟩
          obtain ⟨⟨v1, v2⟩, v3, v4⟩ := HV.out
          rw [boxV_in hokb, ← HLN.out, Nat.add_sub_cancel] at v1 v2 v3 v4
          have HLO := Lib.hid (fun i (hi : i < m + 1) => And.intro (And.intro (lowF_le (pX ps) m i (by omega)) (lowF_le (pY ps) m i (by omega))) (And.intro (topF_ge (pX ps) m i (by omega)) (topF_ge (pY ps) m i (by omega))))
          have HHI := Lib.hid (And.intro (And.intro (hit_low (pX ps) m) (hit_low (pY ps) m)) (And.intro (hit_top (pX ps) m) (hit_top (pY ps) m)))
          rw [v1, v2, v3, v4] at HLO HHI
          clear v1 v2 v3 v4 hokb HV HO
          have HPL := Lib.hid (And.intro (HPP.out.1.next HW.out) (HPP.out.2.next HW.out))
          have HB8 := Lib.hid (below_call HB.out HW.out)
          have HC2 := Lib.hid (fun i (hi : i < m + 1) => And.intro ((HW.out.cell (p := ⟨b, i * 2, none⟩) HLT.out).trans (HC.out i hi).1) ((HW.out.cell (p := ⟨b, i * 2 + 1, none⟩) HLT.out).trans (HC.out i hi).2))
          have hgw : w5.heap.size < wr.heap.size := HK.out.lt
          have hbg : b < w5.heap.size := HLT.out
          have hpg : g4 < w5.heap.size ∧ g4 + 1 < w5.heap.size := ⟨HPP.out.1.lt, HPP.out.2.lt⟩
          have hwg : w.heap.size ≤ w5.heap.size := HB.out.size
          clear HB HC HPP HLT HW
          generalize w5.heap.size = g8 at *
          go_wp2
          go_loopw [10] (fun i wq => ∃ k : Nat, k ≤ m + 1 ∧ i = .int .i64 (k : Int) ∧ Hid (Blk wq g8 (four (hitB (pX ps) lx k) (hitB (pX ps) hx k) (hitB (pY ps) ly k) (hitB (pY ps) hy k)) 38) ∧ Hid (AtP wq g4 lx ly ∧ AtP wq (g4 + 1) hx hy) ∧ Hid (∀ i, i < m + 1 → wq.cell? ⟨b, i * 2, none⟩ = some (.int .i64 (pX ps i)) ∧ wq.cell? ⟨b, i * 2 + 1, none⟩ = some (.int .i64 (pY ps i))) ∧ Hid (Below w.heap.size w wq)) (fun i _ => m + 1 - (intOf i).toNat)
          case atStart => exact ⟨0, Nat.zero_le _, rfl, HK, HPL, HC2, HB8⟩
          case round =>
            obtain ⟨k, hk, rfl, HK, HPL, HC, HW⟩ := hrel
            clear HC2 HB8
            by_cases hlt : k < m + 1
            · obtain ⟨d1, d2⟩ := HC.out k hlt
              obtain ⟨⟨f1, f2⟩, f3, f4⟩ := HLO.out k hlt
              have HY := Lib.hid (And.intro (And.intro (fun h => hitB_yes (f := pX ps) (v := lx) (k := k) h) (fun h => hitB_no (f := pX ps) (v := lx) (k := k) h)) (And.intro (And.intro (fun h => hitB_yes (f := pX ps) (v := hx) (k := k) h) (fun h => hitB_no (f := pX ps) (v := hx) (k := k) h)) (And.intro (And.intro (fun h => hitB_yes (f := pY ps) (v := ly) (k := k) h) (fun h => hitB_no (f := pY ps) (v := ly) (k := k) h)) (And.intro (fun h => hitB_yes (f := pY ps) (v := hy) (k := k) h) (fun h => hitB_no (f := pY ps) (v := hy) (k := k) h)))))
              have j1 : (0 : Int) ≤ (k : Int) := by omega
              have j2 : (k : Int) < ((m + 1 : Nat) : Int) := by omega
              have j3 : (k : Int) < (m : Int) + 1 := by omega
              have n1 : ¬ pX ps k < lx := by omega
              have n2 : ¬ hx < pX ps k := by omega
              have n3 : ¬ pY ps k < ly := by omega
              have n4 : ¬ hy < pY ps k := by omega
              clear f1 f2 f3 f4
              generalize pX ps k = px at *
              generalize pY ps k = py at *
              generalize hitB (pX ps) lx k = b0 at *
              generalize hitB (pX ps) hx k = b1 at *
              generalize hitB (pY ps) ly k = b2 at *
              generalize hitB (pY ps) hy k = b3 at *
              have hsz : g8 < wr.heap.size := HK.out.lt
              have HK1 := Lib.hid (HK.out.alloc (.cells #[.int .i64 px, .int .i64 py] 31))
              have HP1 := Lib.hid (And.intro (HPL.out.1.alloc (.cells #[.int .i64 px, .int .i64 py] 31)) (HPL.out.2.alloc (.cells #[.int .i64 px, .int .i64 py] 31)))
              have HC1 := Lib.hid (fun i (hi : i < m + 1) => And.intro (((below_box wr (.cells #[.int .i64 px, .int .i64 py] 31)).cell (p := ⟨b, i * 2, none⟩) (show b < wr.heap.size by omega)).trans (HC.out i hi).1) (((below_box wr (.cells #[.int .i64 px, .int .i64 py] 31)).cell (p := ⟨b, i * 2 + 1, none⟩) (show b < wr.heap.size by omega)).trans (HC.out i hi).2))
              have HW1 := Lib.hid (below_call HW.out (below_box wr (.cells #[.int .i64 px, .int .i64 py] 31)))
              have HP := AtP.box wr px py 31
              clear HK HPL HC HW
              go_upto_region 20 with fail
              clear d1 d2
              generalize wr.alloc (.cells #[.int .i64 px, .int .i64 py] 31) = wa at *
              generalize wr.heap.size = sz at *
              obtain ⟨_, a0, a1⟩ := id HP
              obtain ⟨_, p0, p1⟩ := id HP1.out.1
              obtain ⟨_, p2, p3⟩ := id HP1.out.2
              go_upto_region 22 with fail
              have HPn := fun p q r s => And.intro (HP1.out.1.far8 (c := g8) (by omega) p q r s) (HP1.out.2.far8 (c := g8) (by omega) p q r s)
              have HCn := fun i (hi : i < m + 1) p q r s => And.intro ((far8 wa (b := b) (c := g8) (by omega) (i * 2) p q r s).trans (HC1.out i hi).1) ((far8 wa (b := b) (c := g8) (by omega) (i * 2 + 1) p q r s).trans (HC1.out i hi).2)
              have HBn := fun p q r s => below_set8 HW1.out hwg p q r s
              replace HPn := Lib.hid HPn
              replace HCn := Lib.hid HCn
              replace HBn := Lib.hid HBn
              have q0 : wa.cell? ⟨g8, 0, none⟩ = some (.bool b0) := HK1.out.cell 0 rfl
              have q1 : wa.cell? ⟨g8, 1, none⟩ = some (.bool b1) := HK1.out.cell 1 rfl
              have q2 : wa.cell? ⟨g8, 2, none⟩ = some (.bool b2) := HK1.out.cell 2 rfl
              have q3 : wa.cell? ⟨g8, 3, none⟩ = some (.bool b3) := HK1.out.cell 3 rfl
              have y0 := HK1.out.frozen 0
              have y1 := HK1.out.frozen 1
              have y2 := HK1.out.frozen 2
              have y3 := HK1.out.frozen 3
              clear HP1 HC1 HW1 HP n1 n2 n3 n4
              cases b0 <;> cases b1 <;> cases b2 <;> cases b3
              all_goals
                go_wp2
                go_roundw
                case rel =>
                  exact ⟨k + 1, by omega, by congr 1, Lib.hid (by
                    (first | rw [← HY.out.1.1 rfl] | rw [← HY.out.1.2 rfl])
                    (first | rw [← HY.out.2.1.1 rfl] | rw [← HY.out.2.1.2 rfl])
                    (first | rw [← HY.out.2.2.1.1 rfl] | rw [← HY.out.2.2.1.2 rfl])
                    (first | rw [← HY.out.2.2.2.1 rfl] | rw [← HY.out.2.2.2.2 rfl])
                    exact HK1.out.four4 _ _ _ _), Lib.hid (HPn.out _ _ _ _), Lib.hid (fun i hi => HCn.out i hi _ _ _ _), Lib.hid (HBn.out _ _ _ _)⟩
                case measure => simp [intOf]; omega
            · obtain rfl : k = m + 1 := by omega
              rw [HHI.out.1.1, HHI.out.1.2, HHI.out.2.1, HHI.out.2.2] at HK
              have q0 : wr.cell? ⟨g8, 0, none⟩ = some (.bool true) := HK.out.cell 0 rfl
              have q1 : wr.cell? ⟨g8, 1, none⟩ = some (.bool true) := HK.out.cell 1 rfl
              have q2 : wr.cell? ⟨g8, 2, none⟩ = some (.bool true) := HK.out.cell 2 rfl
              have q3 : wr.cell? ⟨g8, 3, none⟩ = some (.bool true) := HK.out.cell 3 rfl
              go_wp2
              go_ret
              exact ⟨rfl, HW.out⟩
  · clear h
    go_enter Try.func6, Try.ntmps6
    go_wp2
    go_ret
    exact ⟨rfl, Below.refl _ _⟩
end Go.Proofs.Ytlbheofomjakmaa
