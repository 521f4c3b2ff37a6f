/- The document's functions on clearance. -/
import Derived.Test.YtgpoknehbadddaaSq9
import Derived.Test.YtgpoknehbadddaaOq9
import Derived.Test.YtgpoknehbadddaaSh8
import Derived.Test.YtgpoknehbadddaaDx8
import Derived.Test.YtgpoknehbadddaaSm8
namespace Go.Proofs.Ytgpoknehbadddaa
set_option maxRecDepth 100000
open Go.RowKit
attribute [local go_sem ↓] Go.wp_at_zero Go.wp_at_succ
theorem at3_next {w w' : World} {x1 x2 x3 : Nat} {a b c : P2} (h : AtP w x1 a.1 a.2 ∧ AtP w x2 b.1 b.2 ∧ AtP w x3 c.1 c.2) (B : Below w.heap.size w w') : AtP w' x1 a.1 a.2 ∧ AtP w' x2 b.1 b.2 ∧ AtP w' x3 c.1 c.2 := ⟨h.1.next B, h.2.1.next B, h.2.2.next B⟩
theorem box3 (w : World) (p a b : P2) : let w0 := ((w.alloc (.cells #[.int .i64 p.1, .int .i64 p.2] 24)).alloc (.cells #[.int .i64 a.1, .int .i64 a.2] 24)).alloc (.cells #[.int .i64 b.1, .int .i64 b.2] 24)
    AtP w0 w.heap.size p.1 p.2 ∧ AtP w0 (w.heap.size + 1) a.1 a.2 ∧ AtP w0 (w.heap.size + 1 + 1) b.1 b.2 := by
  have k1 := AtP.box w p.1 p.2 24
  have k2 := AtP.box (w.alloc (.cells #[.int .i64 p.1, .int .i64 p.2] 24)) a.1 a.2 24
  have k3 := AtP.box ((w.alloc (.cells #[.int .i64 p.1, .int .i64 p.2] 24)).alloc (.cells #[.int .i64 a.1, .int .i64 a.2] 24)) b.1 b.2 24
  simp only [World.size_alloc] at k2 k3
  exact ⟨(k1.next (below_box _ _)).next (below_box _ _), k2.next (below_box _ _), k3⟩
theorem l9NearC (p : P2) (w : World) :
    Calls Try.prog 36 #[pt p.1 p.2] w fun e w' => e = .returned (.bool (decide (near9 p))) ∧ Below w.heap.size w w' := by
  have HB := Lib.hid (below_box w (.cells #[.int .i64 p.1, .int .i64 p.2] 24))
  by_cases hx : -1000 ≤ p.1 ∧ p.1 ≤ 1000
  · by_cases hy : -1000 ≤ p.2 ∧ p.2 ≤ 1000
    · rw [decide_eq_true (show near9 p from ⟨hx, hy⟩)]
      go_enter Try.func36, Try.ntmps36
      go_wp2_with fail
      refine (l1In_yes p.1 (-1000) 1000 _ hx.1 hx.2).mono ?_
      rintro e w' ⟨rfl, rfl⟩
      go_wp2_with fail
      refine (l1In_yes p.2 (-1000) 1000 _ hy.1 hy.2).mono ?_
      rintro e w' ⟨rfl, rfl⟩
      go_wp2
      go_ret
      exact ⟨rfl, HB.out⟩
    · rw [decide_eq_false (show ¬ near9 p from fun k => hy k.2)]
      go_enter Try.func36, Try.ntmps36
      go_wp2_with fail
      refine (l1In_yes p.1 (-1000) 1000 _ hx.1 hx.2).mono ?_
      rintro e w' ⟨rfl, rfl⟩
      go_wp2_with fail
      refine (l1In_no p.2 (-1000) 1000 _ (by omega)).mono ?_
      rintro e w' ⟨rfl, rfl⟩
      go_wp2
      go_ret
      exact ⟨rfl, HB.out⟩
  · rw [decide_eq_false (show ¬ near9 p from fun k => hx k.1)]
    go_enter Try.func36, Try.ntmps36
    go_wp2_with fail
    refine (l1In_no p.1 (-1000) 1000 _ (by omega)).mono ?_
    rintro e w' ⟨rfl, rfl⟩
    go_wp2
    go_ret
    exact ⟨rfl, HB.out⟩
set_option maxHeartbeats 1000000 in
theorem l9SquareC (p a b : P2) (w : World) (hp : near9 p) (ha : near9 a) (hb : near9 b) :
    Calls Try.prog 37 #[pt p.1 p.2, pt a.1 a.2, pt b.1 b.2] w fun e w' => e = .returned (.int .i64 (segQ p a b)) ∧ Below w.heap.size w w' := by
  have HB := Lib.hid (below_box3 w (.cells #[.int .i64 p.1, .int .i64 p.2] 24) (.cells #[.int .i64 a.1, .int .i64 a.2] 24) (.cells #[.int .i64 b.1, .int .i64 b.2] 24))
  have HX := Lib.hid (box3 w p a b)
  have HP := Lib.hid (near_ok hp)
  have HA := Lib.hid (near_ok ha)
  have HQ := Lib.hid (near_ok hb)
  have e1 : sq2 a b = (b.1 - a.1) * (b.1 - a.1) + (b.2 - a.2) * (b.2 - a.2) := by unfold sq2; grind
  have e2 : dot9 p a b = (p.1 - a.1) * (b.1 - a.1) + (p.2 - a.2) * (b.2 - a.2) := rfl
  obtain ⟨⟨D1, D2⟩, D3, D4⟩ := near_dot hp ha hb
  obtain ⟨C1, C2⟩ := near_cr hp ha hb
  obtain ⟨⟨X1, X2⟩, X3, X4⟩ := near_dot hb ha hb
  have HSV := Lib.hid (show segQ p a b = if dot9 p a b ≤ 0 then sq2 p a else if sq2 a b ≤ dot9 p a b then sq2 p b else cr a b p * cr a b p / sq2 a b from rfl)
  rw [e1, e2] at HSV
  clear e1 e2
  generalize hsv : segQ p a b = v at *
  clear hsv
  unfold near9 at hp ha hb
  obtain ⟨⟨m1, m2⟩, m3, m4⟩ := hp
  obtain ⟨⟨m5, m6⟩, m7, m8⟩ := ha
  obtain ⟨⟨n1, n2⟩, n3, n4⟩ := hb
  by_cases h1 : (p.1 - a.1) * (b.1 - a.1) + (p.2 - a.2) * (b.2 - a.2) ≤ 0
  · have HV := Lib.hid (show sq2 p a = v from by rw [HSV.out, if_pos h1])
    clear HSV
    go_enter Try.func37, Try.ntmps37
    go_wp2_with fail
    generalize ((w.alloc (.cells #[.int .i64 p.1, .int .i64 p.2] 24)).alloc (.cells #[.int .i64 a.1, .int .i64 a.2] 24)).alloc (.cells #[.int .i64 b.1, .int .i64 b.2] 24) = w0 at *
    obtain ⟨⟨_, p1, p2⟩, ⟨_, a1, a2⟩, ⟨_, b1, b2⟩⟩ := HX.out
    go_wp2_with fail
    refine (squareC p a _ HP.out HA.out).mono ?_
    rintro e w' ⟨rfl, B⟩
    go_wp2
    go_ret
    exact ⟨ret_int HV.out, below_call HB.out B⟩
  · by_cases h2 : (b.1 - a.1) * (b.1 - a.1) + (b.2 - a.2) * (b.2 - a.2) ≤ (p.1 - a.1) * (b.1 - a.1) + (p.2 - a.2) * (b.2 - a.2)
    · have HV := Lib.hid (show sq2 p b = v from by rw [HSV.out, if_neg h1, if_pos h2])
      clear HSV
      go_enter Try.func37, Try.ntmps37
      go_wp2_with fail
      generalize ((w.alloc (.cells #[.int .i64 p.1, .int .i64 p.2] 24)).alloc (.cells #[.int .i64 a.1, .int .i64 a.2] 24)).alloc (.cells #[.int .i64 b.1, .int .i64 b.2] 24) = w0 at *
      obtain ⟨⟨_, p1, p2⟩, ⟨_, a1, a2⟩, ⟨_, b1, b2⟩⟩ := HX.out
      go_wp2_with fail
      refine (squareC p b _ HP.out HQ.out).mono ?_
      rintro e w' ⟨rfl, B⟩
      go_wp2
      go_ret
      exact ⟨ret_int HV.out, below_call HB.out B⟩
    · have hz : ¬ (b.1 - a.1) * (b.1 - a.1) + (b.2 - a.2) * (b.2 - a.2) = 0 := by omega
      have HCR := Lib.hid (fun u => crossC a b p u HA.out HQ.out HP.out)
      rw [if_neg h1, if_neg h2] at HSV
      generalize cr a b p = c at *
      have hcc := mul_bd (x := c) (y := c) (A := 8000000) (B := 8000000) C1 C2 C1 C2
      have HV := Lib.hid (show (c * c).tdiv ((b.1 - a.1) * (b.1 - a.1) + (b.2 - a.2) * (b.2 - a.2)) = v from by rw [HSV.out, Int.tdiv_eq_ediv_of_nonneg (sq_nn9 c)])
      clear HSV
      go_enter Try.func37, Try.ntmps37
      go_wp2_with fail
      generalize ((w.alloc (.cells #[.int .i64 p.1, .int .i64 p.2] 24)).alloc (.cells #[.int .i64 a.1, .int .i64 a.2] 24)).alloc (.cells #[.int .i64 b.1, .int .i64 b.2] 24) = w0 at *
      obtain ⟨⟨_, p1, p2⟩, ⟨_, a1, a2⟩, ⟨_, b1, b2⟩⟩ := HX.out
      go_wp2_with fail
      refine (HCR.out _).mono ?_
      rintro e w' ⟨rfl, B⟩
      go_wp2
      go_ret
      exact ⟨ret_int HV.out, below_call HB.out B⟩
set_option maxHeartbeats 1000000 in
theorem sSq (p a b : P2) (w : World) :
    Calls Try.prog 12 #[pt p.1 p.2, pt a.1 a.2, pt b.1 b.2] w fun e w' => e = .returned (.int .i64 (ssV p a b)) ∧ Below w.heap.size w w' := by
  have HB := Lib.hid (below_box3 w (.cells #[.int .i64 p.1, .int .i64 p.2] 24) (.cells #[.int .i64 a.1, .int .i64 a.2] 24) (.cells #[.int .i64 b.1, .int .i64 b.2] 24))
  have HX := Lib.hid (box3 w p a b)
  have HN0 := Lib.hid (fun u => l9NearC p u)
  have HN1 := Lib.hid (fun u => l9NearC a u)
  have HN2 := Lib.hid (fun u => l9NearC b u)
  by_cases k0 : near9 p
  rotate_left
  · rw [decide_eq_false k0] at HN0
    have HV := Lib.hid (show -1 = ssV p a b from (ssV_no fun h => k0 h.1).symm)
    generalize ssV p a b = v at *
    clear k0
    go_enter Try.func12, Try.ntmps12
    go_wp2_with fail
    generalize ((w.alloc (.cells #[.int .i64 p.1, .int .i64 p.2] 24)).alloc (.cells #[.int .i64 a.1, .int .i64 a.2] 24)).alloc (.cells #[.int .i64 b.1, .int .i64 b.2] 24) = w0 at *
    refine (HN0.out _).mono ?_
    rintro e w1 ⟨rfl, B⟩
    replace HB := Lib.hid (below_call HB.out B)
    replace HX := Lib.hid (at3_next HX.out B)
    clear B
    obtain ⟨⟨_, p1, p2⟩, ⟨_, a1, a2⟩, ⟨_, b1, b2⟩⟩ := HX.out
    go_wp2
    go_ret
    exact ⟨ret_int HV.out, HB.out⟩
  rw [decide_eq_true k0] at HN0
  by_cases k1 : near9 a
  rotate_left
  · rw [decide_eq_false k1] at HN1
    have HV := Lib.hid (show -1 = ssV p a b from (ssV_no fun h => k1 h.2.1).symm)
    generalize ssV p a b = v at *
    clear k0 k1
    go_enter Try.func12, Try.ntmps12
    go_wp2_with fail
    generalize ((w.alloc (.cells #[.int .i64 p.1, .int .i64 p.2] 24)).alloc (.cells #[.int .i64 a.1, .int .i64 a.2] 24)).alloc (.cells #[.int .i64 b.1, .int .i64 b.2] 24) = w0 at *
    refine (HN0.out _).mono ?_
    rintro e w1 ⟨rfl, B⟩
    replace HB := Lib.hid (below_call HB.out B)
    replace HX := Lib.hid (at3_next HX.out B)
    clear B
    obtain ⟨⟨_, p1, p2⟩, ⟨_, a1, a2⟩, ⟨_, b1, b2⟩⟩ := HX.out
    go_wp2_with fail
    refine (HN1.out _).mono ?_
    rintro e w2 ⟨rfl, B⟩
    replace HB := Lib.hid (below_call HB.out B)
    replace HX := Lib.hid (at3_next HX.out B)
    clear B p1 p2 a1 a2 b1 b2
    obtain ⟨⟨_, p1, p2⟩, ⟨_, a1, a2⟩, ⟨_, b1, b2⟩⟩ := HX.out
    go_wp2
    go_ret
    exact ⟨ret_int HV.out, HB.out⟩
  rw [decide_eq_true k1] at HN1
  by_cases k2 : near9 b
  rotate_left
  · rw [decide_eq_false k2] at HN2
    have HV := Lib.hid (show -1 = ssV p a b from (ssV_no fun h => k2 h.2.2).symm)
    generalize ssV p a b = v at *
    clear k0 k1 k2
    go_enter Try.func12, Try.ntmps12
    go_wp2_with fail
    generalize ((w.alloc (.cells #[.int .i64 p.1, .int .i64 p.2] 24)).alloc (.cells #[.int .i64 a.1, .int .i64 a.2] 24)).alloc (.cells #[.int .i64 b.1, .int .i64 b.2] 24) = w0 at *
    refine (HN0.out _).mono ?_
    rintro e w1 ⟨rfl, B⟩
    replace HB := Lib.hid (below_call HB.out B)
    replace HX := Lib.hid (at3_next HX.out B)
    clear B
    obtain ⟨⟨_, p1, p2⟩, ⟨_, a1, a2⟩, ⟨_, b1, b2⟩⟩ := HX.out
    go_wp2_with fail
    refine (HN1.out _).mono ?_
    rintro e w2 ⟨rfl, B⟩
    replace HB := Lib.hid (below_call HB.out B)
    replace HX := Lib.hid (at3_next HX.out B)
    clear B p1 p2 a1 a2 b1 b2
    obtain ⟨⟨_, p1, p2⟩, ⟨_, a1, a2⟩, ⟨_, b1, b2⟩⟩ := HX.out
    go_wp2_with fail
    refine (HN2.out _).mono ?_
    rintro e w3 ⟨rfl, B⟩
    replace HB := Lib.hid (below_call HB.out B)
    replace HX := Lib.hid (at3_next HX.out B)
    clear B p1 p2 a1 a2 b1 b2
    obtain ⟨⟨_, p1, p2⟩, ⟨_, a1, a2⟩, ⟨_, b1, b2⟩⟩ := HX.out
    go_wp2
    go_ret
    exact ⟨ret_int HV.out, HB.out⟩
  rw [decide_eq_true k2] at HN2
  have HN3 := Lib.hid (fun u => l9SquareC p a b u k0 k1 k2)
  have HV := Lib.hid (show segQ p a b = ssV p a b from (ssV_yes k0 k1 k2).symm)
  generalize ssV p a b = v at *
  generalize segQ p a b = q at *
  clear k0 k1 k2
  go_enter Try.func12, Try.ntmps12
  go_wp2_with fail
  generalize ((w.alloc (.cells #[.int .i64 p.1, .int .i64 p.2] 24)).alloc (.cells #[.int .i64 a.1, .int .i64 a.2] 24)).alloc (.cells #[.int .i64 b.1, .int .i64 b.2] 24) = w0 at *
  refine (HN0.out _).mono ?_
  rintro e w1 ⟨rfl, B⟩
  replace HB := Lib.hid (below_call HB.out B)
  replace HX := Lib.hid (at3_next HX.out B)
  clear B
  obtain ⟨⟨_, p1, p2⟩, ⟨_, a1, a2⟩, ⟨_, b1, b2⟩⟩ := HX.out
  go_wp2_with fail
  refine (HN1.out _).mono ?_
  rintro e w2 ⟨rfl, B⟩
  replace HB := Lib.hid (below_call HB.out B)
  replace HX := Lib.hid (at3_next HX.out B)
  clear B p1 p2 a1 a2 b1 b2
  obtain ⟨⟨_, p1, p2⟩, ⟨_, a1, a2⟩, ⟨_, b1, b2⟩⟩ := HX.out
  go_wp2_with fail
  refine (HN2.out _).mono ?_
  rintro e w3 ⟨rfl, B⟩
  replace HB := Lib.hid (below_call HB.out B)
  replace HX := Lib.hid (at3_next HX.out B)
  clear B p1 p2 a1 a2 b1 b2
  obtain ⟨⟨_, p1, p2⟩, ⟨_, a1, a2⟩, ⟨_, b1, b2⟩⟩ := HX.out
  go_wp2_with fail
  refine (HN3.out _).mono ?_
  rintro e w4 ⟨rfl, B⟩
  replace HB := Lib.hid (below_call HB.out B)
  replace HX := Lib.hid (at3_next HX.out B)
  clear B p1 p2 a1 a2 b1 b2
  obtain ⟨⟨_, p1, p2⟩, ⟨_, a1, a2⟩, ⟨_, b1, b2⟩⟩ := HX.out
  go_wp2
  go_ret
  exact ⟨ret_int HV.out, HB.out⟩
theorem sSqE (p a b : P2) (n : Int) (hn : ssV p a b = n) (w : World) :
    Calls Try.prog 12 #[pt p.1 p.2, pt a.1 a.2, pt b.1 b.2] w fun e w' => e = .returned (.int .i64 n) ∧ Below w.heap.size w w' := by
  subst hn; exact sSq p a b w
theorem near_all {ps : List P2} (h : ∀ k, k < ps.length → near9 (cor ps k)) : ∀ q ∈ ps, near9 q := fun q hq => by obtain ⟨i, hi, rfl⟩ := mem_cor hq; exact h i hi
set_option maxHeartbeats 2000000 in
theorem sPq (a : Option Addr) (len cap : Nat) (ps : List P2) (p : P2) (w : World) (hp : PL w a len ps) (hl : len ≤ 9223372036854775807) :
    Calls Try.prog 17 #[.slice a len cap, pt p.1 p.2] w fun e w' => e = .returned (.int .i64 (psV ps p)) ∧ Below w.heap.size w w' := by
  have HB := Lib.hid (below_box w (.cells #[.int .i64 p.1, .int .i64 p.2] 24))
  have HX := Lib.hid (AtP.box w p.1 p.2 24)
  have HP := Lib.hid (hp.next HB.out)
  have HLE := Lib.hid hp.1
  have HCV := Lib.hid (fun (u : World) (hu : PL u a len ps) => specConvexValid a len cap ps u hu hl)
  have HN := Lib.hid (fun u => l9NearC p u)
  clear hp
  by_cases k0 : okCvx ps
  rotate_left
  · rw [decide_eq_false k0] at HCV
    have HV := Lib.hid (show -1 = psV ps p from (psV_no fun h => k0 h.1).symm)
    generalize psV ps p = v at *
    clear k0
    go_enter Try.func17, Try.ntmps17
    go_wp2_with fail
    generalize w.alloc (.cells #[.int .i64 p.1, .int .i64 p.2] 24) = w0 at *
    refine (HCV.out _ HP.out).mono ?_
    rintro e w1 ⟨rfl, B⟩
    replace HB := Lib.hid (below_call HB.out B)
    obtain ⟨_, a1, a2⟩ := HX.out.next B
    clear B
    go_wp2
    go_ret
    exact ⟨ret_int HV.out, HB.out⟩
  rw [decide_eq_true k0] at HCV
  by_cases k1 : near9 p
  rotate_left
  · rw [decide_eq_false k1] at HN
    have HV := Lib.hid (show -1 = psV ps p from (psV_no fun h => k1 h.2.1).symm)
    generalize psV ps p = v at *
    clear k0 k1
    go_enter Try.func17, Try.ntmps17
    go_wp2_with fail
    generalize w.alloc (.cells #[.int .i64 p.1, .int .i64 p.2] 24) = w0 at *
    refine (HCV.out _ HP.out).mono ?_
    rintro e w1 ⟨rfl, B⟩
    replace HB := Lib.hid (below_call HB.out B)
    replace HX := Lib.hid (HX.out.next B)
    obtain ⟨_, a1, a2⟩ := HX.out
    clear B
    go_wp2_with fail
    refine (HN.out _).mono ?_
    rintro e w2 ⟨rfl, B⟩
    replace HB := Lib.hid (below_call HB.out B)
    obtain ⟨_, c1, c2⟩ := HX.out.next B
    clear B a1 a2
    go_wp2
    go_ret
    exact ⟨ret_int HV.out, HB.out⟩
  rw [decide_eq_true k1] at HN
  have HK := Lib.hid (And.intro k0 k1)
  have HL := Lib.hid (show 3 ≤ len ∧ len ≤ 8 from by rw [HLE.out]; exact ⟨k0.1, k0.2.1⟩)
  clear k0 k1
  go_enter Try.func17, Try.ntmps17
  go_wp2_with fail
  generalize w.alloc (.cells #[.int .i64 p.1, .int .i64 p.2] 24) = w0 at *
  refine (HCV.out _ HP.out).mono ?_
  rintro e w1 ⟨rfl, B⟩
  replace HB := Lib.hid (below_call HB.out B)
  replace HX := Lib.hid (HX.out.next B)
  replace HP := Lib.hid (HP.out.next B)
  obtain ⟨_, a1, a2⟩ := HX.out
  clear B
  go_wp2_with fail
  refine (HN.out _).mono ?_
  rintro e w2 ⟨rfl, B⟩
  replace HB := Lib.hid (below_call HB.out B)
  replace HX := Lib.hid (HX.out.next B)
  replace HP := Lib.hid (HP.out.next B)
  clear B a1 a2 HCV HN
  obtain ⟨_, a1, a2⟩ := HX.out
  go_wp2
  clear a1 a2
  go_loopw [5, 6] (fun bv kv wr => ∃ j : Nat, j ≤ len ∧ kv = .int .i64 (j : Int) ∧ bv = .int .i64 (minE ps p j) ∧ Hid (∀ k, k < j → near9 (cor ps k) ∧ near9 (cor ps (nx ps k))) ∧ Hid (Below w2.heap.size w2 wr)) (fun _ kv _ => len - (intOf kv).toNat)
  case atStart => exact ⟨0, Nat.zero_le _, rfl, rfl, Lib.hid (fun k hk => absurd hk (by omega)), Lib.hid (Below.refl _ _)⟩
  case round =>
    obtain ⟨j, hj, rfl, rfl, HI, HW⟩ := hrel
    have HP1 := Lib.hid (HP.out.next HW.out)
    have HX1 := Lib.hid (HX.out.next HW.out)
    by_cases hlt : j < len
    · obtain ⟨b, o, rfl, lt, hc⟩ := HP1.out.somes (by omega)
      have HMD := Lib.hid (show ((j : Int) + 1).tmod (len : Int) = (nx ps j : Nat) ∧ nx ps j < len by
        rw [HLE.out] at hlt ⊢; exact ⟨tmod_nx ps j, nx_lt hlt⟩)
      obtain ⟨n, hn⟩ : ∃ n, ssV p (cor ps j) (cor ps (nx ps j)) = n := ⟨_, rfl⟩
      have j1 : (0 : Int) ≤ (j : Int) := by omega
      have j2 : (j : Int) < (len : Int) := by omega
      have u1 := keptCell (b := b) (o := o + j * 2) lt (hc j hlt).1
      have u2 := keptCell (b := b) (o := o + j * 2 + 1) lt (hc j hlt).2
      have u3 := keptCell (b := b) (o := o + nx ps j * 2) lt (hc (nx ps j) HMD.out.2).1
      have u4 := keptCell (b := b) (o := o + nx ps j * 2 + 1) lt (hc (nx ps j) HMD.out.2).2
      obtain ⟨u5, u6⟩ := HX1.out.kepts
      have HC := Lib.hid (fun (q : Kept wr) => keptCall (sSqE p (cor ps j) (cor ps (nx ps j)) n hn q.u))
      have hm1 := HMD.out.1
      have j3 : (0 : Int) ≤ (nx ps j : Int) := by omega
      have j4 : (nx ps j : Int) < (len : Int) := by have := HMD.out.2; omega
      have t0 : ¬ len = 0 := by omega
      have t1 : ¬ (len : Int) = 0 := by omega
      have HM := Lib.hid (show minE ps p (j + 1) = if minE ps p j < 0 ∨ segQ p (cor ps j) (cor ps (nx ps j)) < minE ps p j then segQ p (cor ps j) (cor ps (nx ps j)) else minE ps p j from rfl)
      have HSC := Lib.hid (ssV_cases p (cor ps j) (cor ps (nx ps j)))
      rw [hn] at HSC
      clear hc hn
      go_upto_region 7 with fail
      refine wp_region_kept (by kernel_rfl) (by kernel_rfl) ?_
      repeat (go_big_quiet_step ((go_at_call 12; with_reducible exact HC.out _)))
      refine wpQuiet_nil ?_
      rintro w3 ⟨⟨_, K2⟩, rfl⟩
      have HW2 := Lib.hid (below_call HW.out K2)
      clear u1 u2 u3 u4 u5 u6 HC K2 j3 j4 hm1
      rcases HSC.out with ⟨rfl, hno⟩ | ⟨h0, _, hy1, hy2, hv⟩
      · have HV := Lib.hid (show -1 = psV ps p from (psV_no fun h => hno ⟨HK.out.2, h.2.2 _ (cor_mem (by rw [← HLE.out]; exact hlt)), h.2.2 _ (cor_mem (by rw [← HLE.out]; exact HMD.out.2))⟩).symm)
        clear hno HSC
        go_wp2
        go_ret
        exact ⟨ret_int HV.out, below_call HB.out HW2.out⟩
      · have HI2 : Hid (∀ k, k < j + 1 → near9 (cor ps k) ∧ near9 (cor ps (nx ps k))) := Lib.hid fun k hk => by
          by_cases e : k = j
          · subst e; exact ⟨hy1, hy2⟩
          · exact HI.out k (by omega)
        rw [← hv] at HM
        clear hv hy1 hy2 HSC
        have hg : ¬ n < 0 := by omega
        generalize minE ps p j = m at *
        by_cases c1 : m < 0
        · have HE := Lib.hid (show minE ps p (j + 1) = n from by rw [HM.out, if_pos (.inl c1)])
          clear HM
          go_wp2
          go_roundw
          case rel => exact ⟨j + 1, by omega, by congr 1, by rw [HE.out], HI2, HW2⟩
          case measure => simp [intOf]; omega
        · by_cases c2 : n < m
          · have HE := Lib.hid (show minE ps p (j + 1) = n from by rw [HM.out, if_pos (.inr c2)])
            clear HM
            go_wp2
            go_roundw
            case rel => exact ⟨j + 1, by omega, by congr 1, by rw [HE.out], HI2, HW2⟩
            case measure => simp [intOf]; omega
          · have HE := Lib.hid (show minE ps p (j + 1) = m from by rw [HM.out, if_neg (by omega)])
            clear HM
            go_wp2
            go_roundw
            case rel => exact ⟨j + 1, by omega, by congr 1, by rw [HE.out], HI2, HW2⟩
            case measure => simp [intOf]; omega
    · obtain rfl : j = len := by omega
      have HOK := Lib.hid (show okPol9 ps p from ⟨HK.out.1, HK.out.2, near_all fun k hk => (HI.out k (by rw [HLE.out]; exact hk)).1⟩)
      have HIN := Lib.hid (fun (u : World) (hu : PL u a j ps) => l8InsideC a j cap ps p u hu (by have := HL.out; omega) HK.out.1.2.2.1 (near_ok HK.out.2))
      obtain ⟨_, a1, a2⟩ := HX1.out
      by_cases hi : Ins ps p
      · rw [decide_eq_true hi] at HIN
        have HV := Lib.hid (show 0 = psV ps p from (psV_in HOK.out hi).symm)
        clear hi
        go_wp2_with fail
        refine (HIN.out _ HP1.out).mono ?_
        rintro e w3 ⟨rfl, B⟩
        have HB3 := Lib.hid (below_call HB.out (below_call HW.out B))
        clear B a1 a2
        go_wp2
        go_ret
        exact ⟨ret_int HV.out, HB3.out⟩
      · rw [decide_eq_false hi] at HIN
        have HV := Lib.hid (show minE ps p j = psV ps p from by rw [psV_out HOK.out hi, ← HLE.out])
        clear hi
        go_wp2_with fail
        refine (HIN.out _ HP1.out).mono ?_
        rintro e w3 ⟨rfl, B⟩
        have HB3 := Lib.hid (below_call HB.out (below_call HW.out B))
        clear B a1 a2
        go_wp2
        go_ret
        exact ⟨ret_int HV.out, HB3.out⟩
theorem sPqE (a : Option Addr) (len cap : Nat) (ps : List P2) (p : P2) (n : Int) (hn : psV ps p = n) (w : World) (hp : PL w a len ps) (hl : len ≤ 9223372036854775807) :
    Calls Try.prog 17 #[.slice a len cap, pt p.1 p.2] w fun e w' => e = .returned (.int .i64 n) ∧ Below w.heap.size w w' := by
  subst hn; exact sPq a len cap ps p w hp hl
theorem mem_at9 {pss : List (List P2)} {o : List P2} (h : o ∈ pss) : ∃ i, i < pss.length ∧ pss.getD i [] = o := by
  obtain ⟨i, hi, e⟩ := List.getElem_of_mem h
  exact ⟨i, hi, by rw [List.getD_eq_getElem?_getD, List.getElem?_eq_getElem hi]; exact e⟩
theorem at_mem9 {pss : List (List P2)} {i : Nat} (h : i < pss.length) : pss.getD i [] ∈ pss := by
  rw [List.getD_eq_getElem?_getD, List.getElem?_eq_getElem h]; exact List.getElem_mem h
set_option maxHeartbeats 2000000 in
theorem sKc (a : Option Addr) (len cap : Nat) (pss : List (List P2)) (p : P2) (d : Int) (w : World) (hp : PSS w a len pss) (hl : len ≤ 9223372036854775807) :
    Calls Try.prog 22 #[.slice a len cap, pt p.1 p.2, .int .i64 d] w fun e w' => e = .returned (.bool (decide (clr9 pss p d))) ∧ Below w.heap.size w w' := by
  have HB := Lib.hid (below_box w (.cells #[.int .i64 p.1, .int .i64 p.2] 24))
  have HX := Lib.hid (AtP.box w p.1 p.2 24)
  have HP := Lib.hid (hp.next HB.out)
  have HLE := Lib.hid hp.1
  clear hp
  by_cases k0 : len ≤ 8
  rotate_left
  · have HV := Lib.hid (show false = decide (clr9 pss p d) from (decide_eq_false fun h => k0 (by rw [HLE.out]; exact h.1)).symm)
    generalize decide (clr9 pss p d) = v at *
    have g : (len : Int) > 8 := by omega
    go_enter Try.func22, Try.ntmps22
    go_wp2
    go_ret
    exact ⟨ret_bool HV.out, HB.out⟩
  have g : ¬ (len : Int) > 8 := by omega
  by_cases k1 : 0 ≤ d ∧ d ≤ 1000
  rotate_left
  · have HV := Lib.hid (show false = decide (clr9 pss p d) from (decide_eq_false fun h => k1 h.2.1).symm)
    generalize decide (clr9 pss p d) = v at *
    go_enter Try.func22, Try.ntmps22
    go_wp2_with fail
    generalize w.alloc (.cells #[.int .i64 p.1, .int .i64 p.2] 24) = w0 at *
    refine (l1In_no d 0 1000 _ (by omega)).mono ?_
    rintro e w' ⟨rfl, rfl⟩
    go_wp2
    go_ret
    exact ⟨ret_bool HV.out, HB.out⟩
  obtain ⟨k1, k2⟩ := k1
  have hdd := mul_bd (x := d) (y := d) (A := 1000) (B := 1000) (by omega) (by omega) (by omega) (by omega)
  go_enter Try.func22, Try.ntmps22
  go_wp2_with fail
  generalize w.alloc (.cells #[.int .i64 p.1, .int .i64 p.2] 24) = w0 at *
  refine (l1In_yes d 0 1000 _ k1 k2).mono ?_
  rintro e w' ⟨rfl, rfl⟩
  go_wp2
  go_loopw [7] (fun kv wr => ∃ j : Nat, j ≤ len ∧ kv = .int .i64 (j : Int) ∧ Hid (∀ k, k < j → okPol9 (pss.getD k []) p ∧ d * d ≤ psV (pss.getD k []) p) ∧ Hid (Below w0.heap.size w0 wr)) (fun kv _ => len - (intOf kv).toNat)
  case atStart => exact ⟨0, Nat.zero_le _, rfl, Lib.hid (fun k hk => absurd hk (by omega)), Lib.hid (Below.refl _ _)⟩
  case round =>
    obtain ⟨j, hj, rfl, HI, HW⟩ := hrel
    have HP1 := Lib.hid (HP.out.next HW.out)
    have HX1 := Lib.hid (HX.out.next HW.out)
    by_cases hlt : j < len
    · obtain ⟨b, rfl, lt, hc⟩ := HP1.out.some (by omega)
      obtain ⟨s, d1, I1, I2⟩ := hc j hlt
      obtain ⟨n, hn⟩ : ∃ n, psV (pss.getD j []) p = n := ⟨_, rfl⟩
      have j1 : (0 : Int) ≤ (j : Int) := by omega
      have j2 : (j : Int) < (len : Int) := by omega
      unfold slQ at d1
      have u1 := keptCell lt d1
      obtain ⟨u5, u6⟩ := HX1.out.kepts
      have HJ := Lib.hid I1
      have HC := Lib.hid (fun (q : Kept wr) => keptCall (sPqE s.a s.len s.cap (pss.getD j []) p n hn q.u (HJ.out.next q.b) I2))
      have HNE := Lib.hid (psV_neg (ps := pss.getD j []) (p := p))
      have HBD := Lib.hid (psV_bd (pss.getD j []) p)
      have HM : Hid (pss.getD j [] ∈ pss) := Lib.hid (at_mem9 (by rw [← HLE.out]; exact hlt))
      have HNN : Hid (psV (pss.getD j []) p = n) := Lib.hid hn
      rw [hn] at HNE HBD
      clear hc hn d1 I1
      go_upto_region 6 with fail
      refine wp_region_kept (by kernel_rfl) (by kernel_rfl) ?_
      repeat (go_big_quiet_step ((go_at_call 17; with_reducible exact HC.out _)))
      refine wpQuiet_nil ?_
      rintro w3 ⟨⟨_, K2⟩, rfl⟩
      have HW2 := Lib.hid (below_call HW.out K2)
      clear u1 u5 u6 HC K2
      by_cases hno : okPol9 (pss.getD j []) p ∧ d * d ≤ n
      · obtain ⟨hy1, hy2⟩ := hno
        have HI2 : Hid (∀ k, k < j + 1 → okPol9 (pss.getD k []) p ∧ d * d ≤ psV (pss.getD k []) p) := Lib.hid fun k hk => by
          by_cases e : k = j
          · subst e; exact ⟨hy1, by rw [HNN.out]; exact hy2⟩
          · exact HI.out k (by omega)
        have g0 : ¬ n < 0 := fun k => (HNE.out.1 k) hy1
        have g1 : ¬ n < d * d := by omega
        clear hy1 hy2 HNE HBD HNN
        go_wp2
        go_roundw
        case rel => exact ⟨j + 1, by omega, by congr 1, HI2, HW2⟩
        case measure => simp [intOf]; omega
      · have HV := Lib.hid (show false = decide (clr9 pss p d) from (decide_eq_false fun h => hno (by have := h.2.2 _ HM.out; rw [HNN.out] at this; exact this)).symm)
        by_cases g0 : n < 0
        · clear hno HNN HNE HBD
          go_wp2
          go_ret
          exact ⟨ret_bool HV.out, below_call HB.out HW2.out⟩
        · have g1 : n < d * d := by
            rcases Int.lt_or_le n (d * d) with k | k
            · exact k
            · exact absurd ⟨Classical.byContradiction fun q => g0 (HNE.out.2 q), k⟩ hno
          clear hno HNN HNE HBD
          go_wp2
          go_ret
          exact ⟨ret_bool HV.out, below_call HB.out HW2.out⟩
    · obtain rfl : j = len := by omega
      have HV := Lib.hid (show true = decide (clr9 pss p d) from (decide_eq_true (p := clr9 pss p d) ⟨by rw [← HLE.out]; exact k0, ⟨k1, k2⟩, fun o ho => by
        obtain ⟨i, hi, rfl⟩ := mem_at9 ho
        exact HI.out i (by rw [HLE.out]; exact hi)⟩).symm)
      go_wp2
      go_ret
      exact ⟨ret_bool HV.out, below_call HB.out HW.out⟩
end Go.Proofs.Ytgpoknehbadddaa
