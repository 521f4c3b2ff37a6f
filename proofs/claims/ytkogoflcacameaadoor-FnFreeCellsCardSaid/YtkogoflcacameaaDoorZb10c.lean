/- Several of my texts in one: Cl10, Sg10, Nm10, Ch10, Cc10. -/
import Derived.Test.YtkogoflcacameaaDoorSc10
import Derived.Test.YtkogoflcacameaaDoorZcCol
import Derived.Test.YtkogoflcacameaaDoorZbPr
import Derived.Test.YtkogoflcacameaaDoorZbSk
import Derived.Test.YtkogoflcacameaaDoorZbKt
import Derived.Outline
namespace Go.Proofs.YtkogoflcacameaaDoor
set_option maxRecDepth 100000
/-- No link meets an obstacle. -/
def clrV (pss : List (List P2)) (qs : List P2) : Prop := ∀ k, k + 1 < qs.length → ∀ o ∈ pss, ¬ Hit o (cor qs k) (cor qs (k + 1))
/-- No two links that are not consecutive meet. -/
def slfV (qs : List P2) : Prop := ∀ k j, k + 2 ≤ j → j + 1 < qs.length → ¬ Meet (cor qs k) (cor qs (k + 1)) (cor qs j) (cor qs (j + 1))
def armV (ls lo hi js : List Int) (pss : List (List P2)) : Prop := okJoints ls lo hi js ∧ scnV pss ∧ clrV pss (ptsL ls js)
noncomputable instance (ls lo hi js : List Int) (pss : List (List P2)) : Decidable (armV ls lo hi js pss) := Classical.propDecidable _
def selV (ls lo hi js : List Int) : Prop := okJoints ls lo hi js ∧ slfV (ptsL ls js)
noncomputable instance (ls lo hi js : List Int) : Decidable (selV ls lo hi js) := Classical.propDecidable _
theorem clrV.part {pss qss : List (List P2)} {qs : List P2} (h : clrV pss qs) (hs : ∀ o ∈ qss, o ∈ pss) : clrV qss qs := fun k hk o ho => h k hk o (hs o ho)
theorem clrV_nil (qs : List P2) : clrV [] qs := fun k hk o ho => by cases ho
theorem armV.part {ls lo hi js : List Int} {pss qss : List (List P2)} (h : armV ls lo hi js pss) (hs : ∀ o ∈ qss, o ∈ pss) (hl : qss.length ≤ pss.length) : armV ls lo hi js qss := ⟨h.1, h.2.1.part hs hl, h.2.2.part hs⟩
theorem armV_nil {ls lo hi js : List Int} (h : okJoints ls lo hi js) : armV ls lo hi js [] := ⟨h, scnV_nil, clrV_nil _⟩
/-- The triangle round the base. -/
def baseT : List P2 := [(-1, -1), (1, -1), (0, 1)]
theorem baseT_cvx : okCvx baseT := by
  refine ⟨by decide, by decide, fun p hp => ?_, fun i j hi hj h1 h2 => ?_⟩
  · simp only [baseT, List.mem_cons, List.not_mem_nil, or_false] at hp
    rcases hp with rfl | rfl | rfl <;> (unfold okP; decide)
  · have hi' : i < 3 := hi
    have hj' : j < 3 := hj
    revert h1 h2
    have : (i = 0 ∨ i = 1 ∨ i = 2) ∧ (j = 0 ∨ j = 1 ∨ j = 2) := by omega
    obtain ⟨rfl | rfl | rfl, rfl | rfl | rfl⟩ := this <;> decide
theorem baseT_ins : Ins baseT (0, 0) := by
  intro k hk
  have hk' : k < 3 := hk
  have : k = 0 ∨ k = 1 ∨ k = 2 := by omega
  rcases this with rfl | rfl | rfl <;> decide
theorem cor_pts0 (ls js : List Int) : cor (ptsL ls js) 0 = (0, 0) := by
  have := ptsL_at ls js 0 (by omega)
  unfold cor
  rw [this]
  simp [ptX, ptY]
theorem armV_base {ls lo hi js : List Int} {pss : List (List P2)} (h : okJoints ls lo hi js) (hb : baseT ∈ pss) : ¬ armV ls lo hi js pss := fun k => by
  have n1 := h.1.1
  refine k.2.2 0 (by rw [ptsL_len]; omega) baseT hb (.inl (.inl ?_))
  rw [cor_pts0]
  exact baseT_ins
theorem slfV_short {qs : List P2} (h : qs.length ≤ 3) : slfV qs := fun k j hkj hj => by omega
theorem meet_axis {a b c d : P2} (ha : a.2 = 0) (hb : b.2 = 0) (hc : c.2 = 0) (hd : d.2 = 0) (h1 : a.1 < b.1) (h2 : b.1 < c.1) (h3 : c.1 < d.1) : ¬ Meet a b c d := by
  have e1 : cr a b c = 0 := by unfold cr; rw [ha, hb, hc]; simp
  have e2 : cr a b d = 0 := by unfold cr; rw [ha, hb, hd]; simp
  rintro (⟨k, _⟩ | ⟨_, k⟩ | ⟨_, k⟩ | ⟨_, k⟩ | ⟨_, k⟩)
  · exact k (by rw [e1, e2])
  all_goals (unfold OnB at k; omega)
theorem sumN_lt {ls : List Int} (h : ∀ k, k < ls.length → 1 ≤ ls.getD k 0) {a : Nat} : ∀ {b : Nat}, a < b → b ≤ ls.length → sumN ls a < sumN ls b := by
  intro b
  induction b with
  | zero => intro hab; omega
  | succ b ih =>
    intro hab hb
    have l := h b (by omega)
    have e : sumN ls (b + 1) = sumN ls b + ls.getD b 0 := rfl
    by_cases k : a = b
    · subst k; omega
    · have := ih (by omega) (by omega); omega
theorem slfV_zero {ls lo hi : List Int} (h : okArm ls lo hi) (n : Nat) : slfV (ptsL ls (List.replicate n 0)) := by
  intro k j hkj hj
  rw [ptsL_len] at hj
  have hb : ∀ k, k < ls.length → 1 ≤ ls.getD k 0 ∧ ls.getD k 0 ≤ 500 := fun k hk => len_bd h k hk
  have hc : ∀ i, i ≤ ls.length → cor (ptsL ls (List.replicate n 0)) i = (sumN ls i, 0) := fun i hi => by
    have e := ptsL_at ls (List.replicate n 0) i hi
    have z := pt_zero ls hb n i hi
    unfold cor
    rw [e, z.1, z.2]
  have h1 := fun {a b : Nat} => sumN_lt (ls := ls) (fun k hk => (hb k hk).1) (a := a) (b := b)
  rw [hc k (by omega), hc (k + 1) (by omega), hc j (by omega), hc (j + 1) (by omega)]
  exact meet_axis rfl rfl rfl rfl (h1 (by omega) (by omega)) (h1 (by omega) (by omega)) (h1 (by omega) (by omega))
/-- The index of the first row of joint angles that is not clear, from index k on; -1 if there is none. -/
noncomputable def firstV (good : List Int → Prop) : List (List Int) → Int → Int
  | [], _ => -1
  | r :: rs, k => @ite _ (good r) (Classical.propDecidable _) (firstV good rs (k + 1)) k
theorem firstV_drop {good : List Int → Prop} {rows : List (List Int)} {j : Nat} (h : j < rows.length) (k : Int) :
    (good (rows.getD j []) → firstV good (rows.drop j) k = firstV good (rows.drop (j + 1)) (k + 1)) ∧ (¬ good (rows.getD j []) → firstV good (rows.drop j) k = k) := by
  rw [List.drop_eq_getElem_cons h, List.getD_eq_getElem?_getD, List.getElem?_eq_getElem h]
  constructor
  · intro g; exact if_pos g
  · intro g; exact if_neg g
theorem firstV_is (good : List Int → Prop) : ∀ (rows : List (List Int)) (k : Int), 0 ≤ k →
    (firstV good rows k = -1 ∧ ∀ i, i < rows.length → good (rows.getD i [])) ∨ ∃ j : Nat, j < rows.length ∧ firstV good rows k = k + j ∧ ¬ good (rows.getD j []) ∧ ∀ i, i < j → good (rows.getD i [])
  | [], k, _ => .inl ⟨rfl, fun i hi => by simp at hi⟩
  | r :: rs, k, hk => by
    by_cases g : good r
    · have e : firstV good (r :: rs) k = firstV good rs (k + 1) := if_pos g
      rw [e]
      rcases firstV_is good rs (k + 1) (by omega) with ⟨h1, h2⟩ | ⟨j, h1, h2, h3, h4⟩
      · refine .inl ⟨h1, fun i hi => ?_⟩
        cases i with
        | zero => exact g
        | succ i => exact h2 i (by simpa using hi)
      · refine .inr ⟨j + 1, by simpa using h1, by rw [h2]; omega, h3, fun i hi => ?_⟩
        cases i with
        | zero => exact g
        | succ i => exact h4 i (by omega)
    · have e : firstV good (r :: rs) k = k := if_neg g
      exact .inr ⟨0, by simp, by rw [e]; omega, g, fun i hi => by omega⟩
def okRow (ls lo hi : List Int) (pss : List (List P2)) (js : List Int) : Prop := okJoints ls lo hi js ∧ clrV pss (ptsL ls js)
noncomputable def fcV (ls lo hi : List Int) (rows : List (List Int)) (pss : List (List P2)) : Int :=
  @ite _ (okArm ls lo hi ∧ scnV pss ∧ rows.length ≤ 400) (Classical.propDecidable _) (firstV (okRow ls lo hi pss) rows 0) (-2)
theorem armV_row {ls lo hi js : List Int} {pss : List (List P2)} (h : scnV pss) : armV ls lo hi js pss ↔ okRow ls lo hi pss js := ⟨fun k => ⟨k.1, k.2.2⟩, fun k => ⟨k.1, h, k.2⟩⟩
end Go.Proofs.YtkogoflcacameaaDoor
namespace Go.Proofs.YtkogoflcacameaaDoor
set_option maxRecDepth 100000
open Go.RowKit
attribute [local go_sem ↓] Go.wp_at_zero Go.wp_at_succ
/-- A segment as a value. -/
abbrev sg (a b : P2) : Value := .agg #[.int .i64 a.1, .int .i64 a.2, .int .i64 b.1, .int .i64 b.2]
abbrev sgC (a b : P2) : Array Value := #[.int .i64 a.1, .int .i64 a.2, .int .i64 b.1, .int .i64 b.2]
/-- A slice of segments reads as f 0, f 1, .. -/
def SgA (w : World) (a : Option Addr) (len : Nat) (f : Nat → P2 × P2) : Prop :=
  len = 0 ∨ ∃ b o, a = some ⟨b, o, none⟩ ∧ b < w.heap.size ∧ ∀ i, i < len → w.cell? ⟨b, o + i * 4, none⟩ = some (.int .i64 (f i).1.1) ∧ w.cell? ⟨b, o + i * 4 + 1, none⟩ = some (.int .i64 (f i).1.2) ∧ w.cell? ⟨b, o + i * 4 + 2, none⟩ = some (.int .i64 (f i).2.1) ∧ w.cell? ⟨b, o + i * 4 + 3, none⟩ = some (.int .i64 (f i).2.2)
theorem SgA.next {w w' : World} {a : Option Addr} {len : Nat} {f : Nat → P2 × P2} (h : SgA w a len f) (hb : Below w.heap.size w w') : SgA w' a len f :=
  h.imp id fun ⟨b, o, h1, h2, h3⟩ => ⟨b, o, h1, Nat.lt_of_lt_of_le h2 hb.size, fun i hi => ⟨(hb.cell (p := ⟨b, o + i * 4, none⟩) h2).trans (h3 i hi).1, (hb.cell (p := ⟨b, o + i * 4 + 1, none⟩) h2).trans (h3 i hi).2.1, (hb.cell (p := ⟨b, o + i * 4 + 2, none⟩) h2).trans (h3 i hi).2.2.1, (hb.cell (p := ⟨b, o + i * 4 + 3, none⟩) h2).trans (h3 i hi).2.2.2⟩⟩
theorem SgA.some {w : World} {a : Option Addr} {len : Nat} {f : Nat → P2 × P2} (h : SgA w a len f) (hl : 1 ≤ len) : ∃ b o, a = Option.some ⟨b, o, none⟩ ∧ b < w.heap.size ∧ ∀ i, i < len → w.cell? ⟨b, o + i * 4, none⟩ = Option.some (.int .i64 (f i).1.1) ∧ w.cell? ⟨b, o + i * 4 + 1, none⟩ = Option.some (.int .i64 (f i).1.2) ∧ w.cell? ⟨b, o + i * 4 + 2, none⟩ = Option.some (.int .i64 (f i).2.1) ∧ w.cell? ⟨b, o + i * 4 + 3, none⟩ = Option.some (.int .i64 (f i).2.2) := by
  rcases h with h | h
  · omega
  · exact h
/-- No segment meets an obstacle, as the program tells. -/
def nmO (f : Nat → P2 × P2) (n : Nat) (pss : List (List P2)) : Prop := ∀ i, i < n → ∀ j, j < pss.length → ¬ hitV (pss.getD j []) (f i).1 (f i).2
noncomputable instance (f : Nat → P2 × P2) (n : Nat) (pss : List (List P2)) : Decidable (nmO f n pss) := Classical.propDecidable _
/-- No segment of the one list meets one of the other. -/
def nmS (f : Nat → P2 × P2) (n : Nat) (g : Nat → P2 × P2) (m : Nat) : Prop := ∀ i, i < n → ∀ j, j < m → ¬ smV (f i).1 (f i).2 (g j).1 (g j).2
noncomputable instance (f : Nat → P2 × P2) (n : Nat) (g : Nat → P2 × P2) (m : Nat) : Decidable (nmS f n g m) := Classical.propDecidable _
theorem box4s (w : World) (a b : P2) (T : TypeId) : (w.alloc (.cells (sgC a b) T)).cell? ⟨w.heap.size, 0, none⟩ = some (.int .i64 a.1) ∧ (w.alloc (.cells (sgC a b) T)).cell? ⟨w.heap.size, 1, none⟩ = some (.int .i64 a.2) ∧ (w.alloc (.cells (sgC a b) T)).cell? ⟨w.heap.size, 2, none⟩ = some (.int .i64 b.1) ∧ (w.alloc (.cells (sgC a b) T)).cell? ⟨w.heap.size, 3, none⟩ = some (.int .i64 b.2) :=
  ⟨by simp, by simp, by simp, by simp⟩
/-- A segment lies in block x. -/
def SgB (w : World) (x : Nat) (p : P2 × P2) : Prop := x < w.heap.size ∧ w.cell? ⟨x, 0, none⟩ = some (.int .i64 p.1.1) ∧ w.cell? ⟨x, 1, none⟩ = some (.int .i64 p.1.2) ∧ w.cell? ⟨x, 2, none⟩ = some (.int .i64 p.2.1) ∧ w.cell? ⟨x, 3, none⟩ = some (.int .i64 p.2.2)
theorem SgB.next {w w' : World} {x : Nat} {p : P2 × P2} (h : SgB w x p) (hb : Below w.heap.size w w') : SgB w' x p :=
  ⟨Nat.lt_of_lt_of_le h.1 hb.size, (hb.cell (p := ⟨x, 0, none⟩) h.1).trans h.2.1, (hb.cell (p := ⟨x, 1, none⟩) h.1).trans h.2.2.1, (hb.cell (p := ⟨x, 2, none⟩) h.1).trans h.2.2.2.1, (hb.cell (p := ⟨x, 3, none⟩) h.1).trans h.2.2.2.2⟩
theorem SgB.box (w : World) (p : P2 × P2) (T : TypeId) : SgB (w.alloc (.cells (sgC p.1 p.2) T)) w.heap.size p := ⟨by simp, box4s w p.1 p.2 T⟩
theorem segHits (a b : P2) (s : Sl) (ps : List P2) (w : World) (hp : PL w s.a s.len ps) (hl : s.len ≤ 1000) :
    Calls Tryd.prog 55 #[sg a b, .slice s.a s.len s.cap] w fun e w' => e = .returned (.bool (decide (hitV ps a b))) ∧ Below w.heap.size w w' := by
  have HB := Lib.hid (below_box w (.cells (sgC a b) 91))
  have HC := Lib.hid (hitsC s.a s.len s.cap ps a b _ (hp.next HB.out) hl)
  clear hp
  go_enter Tryd.func55, Tryd.ntmps55
  go_wp2_with fail
  refine HC.out.mono ?_
  rintro e w1 ⟨rfl, B⟩
  have HB1 := Lib.hid (below_call HB.out B)
  clear B HC
  go_wp2
  go_ret
  exact ⟨rfl, HB1.out⟩
end Go.Proofs.YtkogoflcacameaaDoor
namespace Go.Proofs.YtkogoflcacameaaDoor
set_option maxRecDepth 100000
open Go.RowKit
attribute [local go_sem ↓] Go.wp_at_zero Go.wp_at_succ
set_option maxHeartbeats 4000000 in
theorem noneMeetO (a : Option Addr) (len cap : Nat) (s : Sl) (f : Nat → P2 × P2) (pss : List (List P2)) (w : World) (hs : SgA w a len f) (hp : PSS w s.a s.len pss) (hl : len ≤ 1000) (hn : s.len ≤ 1000) (hv : ∀ k, k < pss.length → (pss.getD k []).length ≤ 1000) :
    Calls Tryd.prog 53 #[.slice a len cap, .slice s.a s.len s.cap, .func (.func 55) #[] #[]] w fun e w' => e = .returned (.bool (decide (nmO f len pss))) ∧ Below w.heap.size w w' := by
  have HS := Lib.hid hs
  have HP := Lib.hid hp
  have HLE := Lib.hid hp.1
  have HV := Lib.hid hv
  obtain ⟨sa, sl, sc⟩ := s
  simp only at *
  clear hs hp hv
  go_enter Tryd.func53, Tryd.ntmps53
  go_wp2
  go_loopw [13] (fun iv wr => ∃ i : Nat, i ≤ len ∧ iv = .int .i64 (i : Int) ∧ Hid (nmO f i pss) ∧ Hid (Below w.heap.size w wr)) (fun iv _ => len - (intOf iv).toNat)
  case atStart => exact ⟨0, Nat.zero_le _, rfl, Lib.hid (fun k hk => absurd hk (by omega)), Lib.hid (Below.refl _ _)⟩
  case round =>
    obtain ⟨i, hi, rfl, HI, HW⟩ := hrel
    have HS1 := Lib.hid (HS.out.next HW.out)
    by_cases hlt : i < len
    · obtain ⟨b, o, rfl, lt, hc⟩ := HS1.out.some (by omega)
      obtain ⟨d1, d2, d3, d4⟩ := hc i hlt
      have i1 : (0 : Int) ≤ (i : Int) := by omega
      have i2 : (i : Int) < (len : Int) := by omega
      obtain ⟨p, hp⟩ : ∃ p, f i = p := ⟨_, rfl⟩
      rw [hp] at d1 d2 d3 d4
      have HPP := Lib.hid hp
      have HB1 := Lib.hid (below_call HW.out (below_box wr (.cells (sgC p.1 p.2) 91)))
      have HX := Lib.hid (SgB.box wr p 91)
      clear hc hp
      go_wp2
      generalize wr.alloc (.cells (sgC p.1 p.2) 91) = w1 at *
      generalize wr.heap.size = x at *
      clear d1 d2 d3 d4
      go_loopw [19] (fun jv wr => ∃ j : Nat, j ≤ sl ∧ jv = .int .i64 (j : Int) ∧ Hid (∀ k, k < j → ¬ hitV (pss.getD k []) p.1 p.2) ∧ Hid (Below w1.heap.size w1 wr)) (fun jv _ => sl - (intOf jv).toNat)
      case atStart => exact ⟨0, Nat.zero_le _, rfl, Lib.hid (fun k hk => absurd hk (by omega)), Lib.hid (Below.refl _ _)⟩
      case round =>
        obtain ⟨j, hj, rfl, HJ, HW2⟩ := hrel
        have HP2 := Lib.hid (HP.out.next (below_call HB1.out HW2.out))
        by_cases hjt : j < sl
        · obtain ⟨b2, rfl, lt2, hc2⟩ := HP2.out.some (by omega)
          obtain ⟨s, e1, I1, I2⟩ := hc2 j hjt
          have j1 : (0 : Int) ≤ (j : Int) := by omega
          have j2 : (j : Int) < (sl : Int) := by omega
          unfold slQ at e1
          obtain ⟨_, x1, x2, x3, x4⟩ := HX.out.next HW2.out
          have HC := Lib.hid (segHits p.1 p.2 s (pss.getD j []) wr I1 (by have := HV.out j (by rw [← HLE.out]; exact hjt); have := I1.1; omega))
          clear hc2 I1
          by_cases hh : hitV (pss.getD j []) p.1 p.2
          · rw [decide_eq_true hh] at HC
            have HD := Lib.hid (show false = decide (nmO f len pss) from (decide_eq_false (fun k => k i hlt j (by rw [← HLE.out]; exact hjt) (by rw [HPP.out]; exact hh))).symm)
            clear hh
            go_wp2_with fail
            refine HC.out.mono ?_
            rintro e w2 ⟨rfl, B⟩
            have HB2 := Lib.hid (below_call HB1.out (below_call HW2.out B))
            clear B e1 HC x1 x2 x3 x4
            go_wp2
            go_ret
            exact ⟨ret_bool HD.out, HB2.out⟩
          · rw [decide_eq_false hh] at HC
            have HJ2 : Hid (∀ k, k < j + 1 → ¬ hitV (pss.getD k []) p.1 p.2) := Lib.hid fun k hk => by
              by_cases e : k = j
              · subst e; exact hh
              · exact HJ.out k (by omega)
            clear hh
            go_wp2_with fail
            refine HC.out.mono ?_
            rintro e w2 ⟨rfl, B⟩
            have HB2 := Lib.hid (below_call HW2.out B)
            clear B e1 HC x1 x2 x3 x4
            go_wp2
            go_roundw
            case rel => exact ⟨j + 1, by omega, by congr 1, HJ2, HB2⟩
            case measure => simp [intOf]; omega
        · obtain rfl : j = sl := by omega
          have HI2 : Hid (nmO f (i + 1) pss) := Lib.hid fun k hk => by
            by_cases e : k = i
            · subst e; rw [HPP.out]; exact fun q hq => HJ.out q (by rw [HLE.out]; exact hq)
            · exact HI.out k (by omega)
          have HB2 := Lib.hid (below_call HB1.out HW2.out)
          go_wp2
          go_roundw
          case rel => exact ⟨i + 1, by omega, by congr 1, HI2, HB2⟩
          case measure => simp [intOf]; omega
    · obtain rfl : i = len := by omega
      have HD := Lib.hid (show true = decide (nmO f i pss) from (decide_eq_true HI.out).symm)
      go_wp2
      go_ret
      exact ⟨ret_bool HD.out, HW.out⟩
end Go.Proofs.YtkogoflcacameaaDoor
namespace Go.Proofs.YtkogoflcacameaaDoor
set_option maxRecDepth 100000
open Go.RowKit
attribute [local go_sem ↓] Go.wp_at_zero Go.wp_at_succ
/-- The k-th link of an arm. -/
def sgF (ls js : List Int) (k : Nat) : P2 × P2 := (cor (ptsL ls js) k, cor (ptsL ls js) (k + 1))
/-- The cells of a list of segments. -/
def cs (f : Nat → P2 × P2) (j : Nat) : Int := if j % 4 = 0 then (f (j / 4)).1.1 else if j % 4 = 1 then (f (j / 4)).1.2 else if j % 4 = 2 then (f (j / 4)).2.1 else (f (j / 4)).2.2
theorem cs0 (f : Nat → P2 × P2) (i : Nat) : cs f (i * 4) = (f i).1.1 := by unfold cs; rw [if_pos (by omega), show i * 4 / 4 = i by omega]
theorem cs1 (f : Nat → P2 × P2) (i : Nat) : cs f (i * 4 + 1) = (f i).1.2 := by unfold cs; rw [if_neg (by omega), if_pos (by omega), show (i * 4 + 1) / 4 = i by omega]
theorem cs2 (f : Nat → P2 × P2) (i : Nat) : cs f (i * 4 + 2) = (f i).2.1 := by unfold cs; rw [if_neg (by omega), if_neg (by omega), if_pos (by omega), show (i * 4 + 2) / 4 = i by omega]
theorem cs3 (f : Nat → P2 × P2) (i : Nat) : cs f (i * 4 + 3) = (f i).2.2 := by unfold cs; rw [if_neg (by omega), if_neg (by omega), if_neg (by omega), show (i * 4 + 3) / 4 = i by omega]
theorem infoSeg : (Tryd.prog.info? 91).map (fun i => (i.zero, i.size, i.bytes)) = some (some (.agg #[.int .i64 0, .int .i64 0, .int .i64 0, .int .i64 0]), 4, 32) := by kernel_rfl
theorem made_seg (f : Nat → Int) (n : Nat) : (madeCells (Value.agg #[.int .i64 0, .int .i64 0, .int .i64 0, .int .i64 0]).cells (n * 4)).toList = cpart f (fun _ => 0) (n * 4) (0 * 4) := by
  unfold cpart madeCells
  show (Array.map _ (Array.range (n * 4))).toList = _
  rw [Array.toList_map, Array.toList_range]
  apply List.map_congr_left
  intro j _
  have hm : j % 4 = 0 ∨ j % 4 = 1 ∨ j % 4 = 2 ∨ j % 4 = 3 := by omega
  rw [show (if j < 0 * 4 then f j else (fun _ => (0 : Int)) j) = 0 by rw [if_neg (by omega)]]
  show (#[Value.int .i64 0, Value.int .i64 0, Value.int .i64 0, Value.int .i64 0] : Array Value)[j % 4]! = _
  rcases hm with h | h | h | h <;> rw [h] <;> simp
theorem SgA.row {w : World} {B g n cap t : Nat} {f : Nat → P2 × P2} (h : w.ownsRow B t 4 (.slice (Option.some ⟨g, 0, none⟩) n cap) n (cpart (cs f) (fun _ => 0) (n * 4) (n * 4))) : SgA w (Option.some ⟨g, 0, none⟩) n f := by
  refine .inr ⟨g, 0, rfl, (World.ownsRow.lt h g rfl).2, fun i hi => ?_⟩
  have c0 := h.cellAt (i * 4) (by omega)
  have c1 := h.cellAt (i * 4 + 1) (by omega)
  have c2 := h.cellAt (i * 4 + 2) (by omega)
  have c3 := h.cellAt (i * 4 + 3) (by omega)
  rw [cpart_at _ _ _ _ _ (by omega), if_pos (by omega)] at c0 c1 c2 c3
  rw [cs0] at c0
  rw [cs1] at c1
  rw [cs2] at c2
  rw [cs3] at c3
  rw [Nat.zero_add]
  exact ⟨c0, c1, c2, c3⟩
set_option maxHeartbeats 4000000 in
theorem segmentsC (b cap : Nat) (j : Sl) (ls lo hi js : List Int) (w : World) (ht : TabAt w) (hc : ChainAt w b ls.length ls lo hi) (hok : okJoints ls lo hi js) (hj : IntsAt w j.a j.len js) (hcap : ls.length ≤ cap) :
    Calls Tryd.prog 54 #[.slice (some ⟨b, 0, none⟩) ls.length cap, .slice j.a j.len j.cap] w fun e w' => ∃ c, e = .returned (.slice (some ⟨c, 0, none⟩) ls.length ls.length) ∧ SgA w' (some ⟨c, 0, none⟩) ls.length (sgF ls js) ∧ Below w.heap.size w w' := by
  obtain ⟨i0, hi0, hz0, hz1, hz2⟩ := info_parts infoSeg
  have n4 := hok.1.2.1
  have HPC := Lib.hid (pointsC b cap j ls lo hi js w ht hc hok hj hcap)
  have HPL := Lib.hid (ptsL_len ls js)
  have HM := Lib.hid (made_seg (cs (sgF ls js)) ls.length)
  have HPS := Lib.hid (fun m => cpart_set (cs (sgF ls js)) (fun _ => 0) (ls.length * 4) m)
  have HZ := Lib.hid (fun k => And.intro (cs0 (sgF ls js) k) (And.intro (cs1 (sgF ls js) k) (And.intro (cs2 (sgF ls js) k) (cs3 (sgF ls js) k))))
  have HF := Lib.hid (fun k => show sgF ls js k = (cor (ptsL ls js) k, cor (ptsL ls js) (k + 1)) from rfl)
  clear ht hc hok hj hcap
  generalize sgF ls js = f at *
  generalize ls.length = n at *
  go_enter Tryd.func54, Tryd.ntmps54
  go_wp2_with fail
  refine HPC.out.mono ?_
  rintro e w1 ⟨v, rfl, O1, B1⟩
  obtain ⟨⟨ea, el, ec⟩, rfl, he⟩ := O1.sl
  have HP := Lib.hid (OwnPt.ints O1).pl
  have HB := Lib.hid B1
  have hel : el = n + 1 := by rw [← HPL.out]; exact he
  clear O1 B1 he HPC HPL
  generalize ptsL ls js = qs at *
  subst hel
  go_wp2_with (first
    | (at_make; refine wpList_make_full _ rfl _ _ 92 rfl w1.heap.size 91 i0 (.agg #[.int .i64 0, .int .i64 0, .int .i64 0, .int .i64 0]) 4 Tryd.underlying92 hi0 hz0 hz1 .i64 .i64 _ _ n rfl rfl rfl rfl (by rw [hz2]; omega) (by unfold maxLen; omega) (Nat.le_refl _) ?_; intro w2 own1 grow1))
  have own2 : w2.ownsRow w1.heap.size 91 4 (.slice (some ⟨w1.heap.size, 0, none⟩) n n) n (cpart (cs f) (fun _ => 0) (n * 4) (0 * 4)) := by rw [← HM.out]; exact own1
  have HG : Below w1.heap.size w1 w2 := (Below.refl _ _).grown grow1 (Nat.le_refl _) (fun k hk => by cases hk)
  clear own1 grow1 HM
  go_loopw [16] (fun iv wr => ∃ k : Nat, k ≤ n ∧ iv = .int .i64 (k : Int) ∧ Hid (wr.ownsRow w1.heap.size 91 4 (.slice (some ⟨w1.heap.size, 0, none⟩) n n) n (cpart (cs f) (fun _ => 0) (n * 4) (k * 4))) ∧ Hid (Below w1.heap.size w1 wr)) (fun iv _ => n - (intOf iv).toNat)
  case atStart => exact ⟨0, Nat.zero_le _, rfl, Lib.hid own2, Lib.hid HG⟩
  case round =>
    obtain ⟨k, hk, rfl, HO, HW⟩ := hrel
    clear own2 HG
    by_cases hlt : k < n
    · have HP1 := Lib.hid (HP.out.next HW.out)
      obtain ⟨be, oe, rfl, lt, hc⟩ := HP1.out.somes (by omega)
      have j1 : (0 : Int) ≤ (k : Int) := by omega
      have j2 : (k : Int) < (n : Int) := by omega
      have j3 : (k : Int) < ((n + 1 : Nat) : Int) := by omega
      have j4 : (0 : Int) ≤ (k : Int) + 1 := by omega
      have j5 : (k : Int) + 1 < ((n + 1 : Nat) : Int) := by omega
      have j6 : (k : Int) < (n : Int) + 1 := by omega
      have j7 : (k : Int) + 1 < (n : Int) + 1 := by omega
      have u1 := keptCell (b := be) (o := oe + k * 2) lt (hc k (by omega)).1
      have u2 := keptCell (b := be) (o := oe + k * 2 + 1) lt (hc k (by omega)).2
      have u3 := keptCell (b := be) (o := oe + (k + 1) * 2) lt (hc (k + 1) (by omega)).1
      have u4 := keptCell (b := be) (o := oe + (k + 1) * 2 + 1) lt (hc (k + 1) (by omega)).2
      have Z := HZ.out k
      rw [HF.out] at Z
      clear hc HZ HF
      generalize cor qs k = p at *
      generalize cor qs (k + 1) = q at *
      simp only at Z
      replace Z := Lib.hid Z
      go_upto_region 6 with fail
      refine wp_region_ktail 13 (by kernel_rfl) (by kernel_rfl) ?_
      simp only [List.take_succ_cons, List.take_zero, List.drop_succ_cons, List.drop_zero]
      repeat (go_big_quiet_step (fail))
      refine wpQuiet_nil ?_
      rintro w3 ⟨⟨_, K3⟩, rfl⟩
      have HO3 := Lib.hid (World.ownsRow.kept (row := none) HO.out ⟨K3.os, K3.tape, K3.output, K3.size, fun k hk _ => K3.block k hk⟩ (.inr (by simp [Value.ownBlock])))
      have r1 := HO3.out.cellAt (k * 4) (by omega)
      have r3 := HO3.out.cellAt (k * 4 + 1) (by omega)
      have r5 := HO3.out.cellAt (k * 4 + 2) (by omega)
      have r7 := HO3.out.cellAt (k * 4 + 3) (by omega)
      rw [cpart_at _ _ _ _ _ (by omega)] at r1 r3 r5 r7
      have r2 := HO3.out.frozenAt (k * 4)
      have r4 := HO3.out.frozenAt (k * 4 + 1)
      have r6 := HO3.out.frozenAt (k * 4 + 2)
      have r8 := HO3.out.frozenAt (k * 4 + 3)
      have s5 := HO3.out.stored (k * 4) (.int .i64 (cs f (k * 4)))
      have s6 := s5.1.stored (k * 4 + 1) (.int .i64 (cs f (k * 4 + 1)))
      have s7 := s6.1.stored (k * 4 + 2) (.int .i64 (cs f (k * 4 + 2)))
      have s8 := s7.1.stored (k * 4 + 3) (.int .i64 (cs f (k * 4 + 3)))
      have HS := Lib.hid (And.intro s8.1 (((s5.2.trans s6.2).trans s7.2).trans s8.2))
      rw [HPS.out, HPS.out, HPS.out, HPS.out, Z.out.1, Z.out.2.1, Z.out.2.2.1, Z.out.2.2.2] at HS
      have HW3 := Lib.hid (below_call HW.out K3)
      clear s5 s6 s7 s8 K3 Z u1 u2 u3 u4
      go_wp2
      go_roundw
      case rel => exact ⟨k + 1, by omega, by congr 1, Lib.hid (by rw [show (k + 1) * 4 = k * 4 + 1 + 1 + 1 + 1 by omega]; exact HS.out.1), Lib.hid (HW3.out.grown HS.out.2 HW3.out.size (fun q hq => by injection hq with hq; omega))⟩
      case measure => simp [intOf]; omega
    · obtain rfl : k = n := by omega
      go_wp2
      go_ret
      exact ⟨_, rfl, SgA.row HO.out, below_call HB.out HW.out⟩
end Go.Proofs.YtkogoflcacameaaDoor
namespace Go.Proofs.YtkogoflcacameaaDoor
set_option maxRecDepth 100000
open Go.RowKit
attribute [local go_sem ↓] Go.wp_at_zero Go.wp_at_succ
theorem okQ_pt {ls lo hi js : List Int} (h : okJoints ls lo hi js) (k : Nat) (hk : k ≤ ls.length) : okQ (cor (ptsL ls js) k) := by
  have e : cor (ptsL ls js) k = (ptX ls js k, ptY ls js k) := ptsL_at ls js k hk
  have b := pt_bd ls js (len_bd h.1) k hk
  have n := h.1.2.1
  rw [e]
  unfold okQ okP
  simp only
  omega
theorem nmO_iff {ls lo hi js : List Int} {pss : List (List P2)} (h : okJoints ls lo hi js) (hs : scnV pss) : nmO (sgF ls js) ls.length pss ↔ clrV pss (ptsL ls js) := by
  have key : ∀ k, k < ls.length → ∀ o ∈ pss, (hitV o (sgF ls js k).1 (sgF ls js k).2 ↔ Hit o (cor (ptsL ls js) k) (cor (ptsL ls js) (k + 1))) := fun k hk o ho =>
    hitV_iff (hs.2 o ho) (okQ_pt h k (by omega)) (okQ_pt h (k + 1) (by omega))
  constructor
  · intro q k hk o ho hit
    rw [ptsL_len] at hk
    obtain ⟨j, hj, rfl⟩ := mem_at10 ho
    exact q k (by omega) j hj ((key k (by omega) _ ho).2 hit)
  · intro q k hk j hj hit
    exact q k (by rw [ptsL_len]; omega) _ (at_mem10 hj) ((key k hk _ (at_mem10 hj)).1 hit)
theorem nmS_iff {ls lo hi js : List Int} (h : okJoints ls lo hi js) : (∀ k, k < ls.length → nmS (sgF ls js) k (fun i => sgF ls js (k + 1 + i)) (ls.length - (k + 1))) ↔ slfV (ptsL ls js) := by
  have key : ∀ i j, i < ls.length → j < ls.length → (smV (sgF ls js i).1 (sgF ls js i).2 (sgF ls js j).1 (sgF ls js j).2 ↔ Meet (cor (ptsL ls js) i) (cor (ptsL ls js) (i + 1)) (cor (ptsL ls js) j) (cor (ptsL ls js) (j + 1))) := fun i j hi hj =>
    smV_iff (okQ_pt h i (by omega)) (okQ_pt h (i + 1) (by omega)) (okQ_pt h j (by omega)) (okQ_pt h (j + 1) (by omega))
  constructor
  · intro q i j hij hj hm
    rw [ptsL_len] at hj
    have := q (i + 1) (by omega) i (by omega) (j - (i + 2)) (by omega)
    simp only at this
    rw [show i + 1 + 1 + (j - (i + 2)) = j by omega] at this
    exact this ((key i j (by omega) (by omega)).2 hm)
  · intro q k hk i hi j hj hm
    exact q i (k + 1 + j) (by omega) (by rw [ptsL_len]; omega) ((key i (k + 1 + j) (by omega) (by omega)).1 hm)
theorem scn_len {pss : List (List P2)} (h : scnV pss) : ∀ k, k < pss.length → (pss.getD k []).length ≤ 1000 := fun k hk => by have := (h.2 _ (at_mem10 hk)).2.1; omega
noncomputable instance (ls lo hi : List Int) (pss : List (List P2)) (js : List Int) : Decidable (okRow ls lo hi pss js) := Classical.propDecidable _
theorem SgA.front {w : World} {a : Option Addr} {n k : Nat} {f : Nat → P2 × P2} (h : SgA w a n f) (hk : k ≤ n) : SgA w a k f := by
  rcases h with h | ⟨b, o, h1, h2, h3⟩
  · exact .inl (by omega)
  · exact .inr ⟨b, o, h1, h2, fun i hi => h3 i (by omega)⟩
theorem SgA.back {w : World} {c n k : Nat} {f : Nat → P2 × P2} (h : SgA w (Option.some ⟨c, 0, none⟩) n f) (hk : k ≤ n) : SgA w (Option.some ⟨c, k * 4, none⟩) (n - k) (fun i => f (k + i)) := by
  rcases h with h | ⟨b, o, h1, h2, h3⟩
  · exact .inl (by omega)
  · simp only [Option.some.injEq, Addr.mk.injEq, and_true] at h1
    obtain ⟨rfl, rfl⟩ := h1
    refine .inr ⟨c, k * 4, rfl, h2, fun i hi => ?_⟩
    have := h3 (k + i) (by omega)
    rw [show 0 + (k + i) * 4 = k * 4 + i * 4 by omega] at this
    exact this
set_option maxHeartbeats 2000000 in
theorem clearOf (b cap : Nat) (j s : Sl) (ls lo hi js : List Int) (pss : List (List P2)) (w : World) (ht : TabAt w) (hc : ChainAt w b ls.length ls lo hi) (hok : okArm ls lo hi) (hj : IntsAt w j.a j.len js) (bj : j.len ≤ 9223372036854775807) (hcap : ls.length ≤ cap) (hp : PSS w s.a s.len pss) (hv : scnV pss) :
    Calls Tryd.prog 29 #[.slice (some ⟨b, 0, none⟩) ls.length cap, .slice j.a j.len j.cap, .slice s.a s.len s.cap] w fun e w' => e = .returned (.bool (decide (okRow ls lo hi pss js))) ∧ Below w.heap.size w w' := by
  have HC := Lib.hid (allows b cap j ls lo hi js w hc hok hj bj)
  by_cases hk : okJoints ls lo hi js
  · rw [decide_eq_true hk] at HC
    have HS := Lib.hid (fun (u : World) (hu : Below w.heap.size w u) => segmentsC b cap j ls lo hi js u (ht.below hu ht.lt) (hc.next hu) hk (hj.next hu) hcap)
    have HN := Lib.hid (fun (c : Nat) (u : World) (hu : Below w.heap.size w u) (h : SgA u (some ⟨c, 0, none⟩) ls.length (sgF ls js)) => noneMeetO (some ⟨c, 0, none⟩) ls.length ls.length s (sgF ls js) pss u h (hp.next hu) (by have := hok.2.1; omega) (by have := hp.1; have := hv.1; omega) (scn_len hv))
    have HV := Lib.hid (show decide (nmO (sgF ls js) ls.length pss) = decide (okRow ls lo hi pss js) from Bool.eq_iff_iff.2 (by simp only [decide_eq_true_eq]; exact ⟨fun h => ⟨hk, (nmO_iff hk hv).1 h⟩, fun h => (nmO_iff hk hv).2 h.2⟩))
    generalize decide (nmO (sgF ls js) ls.length pss) = v at *
    obtain ⟨ja, jl, jc⟩ := j
    obtain ⟨sa, sl, sc⟩ := s
    simp only at *
    clear ht hc hok hj bj hcap hp hv hk
    generalize ls.length = n at *
    go_enter Tryd.func29, Tryd.ntmps29
    go_wp2_with fail
    refine HC.out.mono ?_
    rintro e w1 ⟨rfl, B1⟩
    have HB1 := Lib.hid B1
    clear B1
    go_wp2_with fail
    refine (HS.out _ HB1.out).mono ?_
    rintro e w2 ⟨c, rfl, S2, B2⟩
    have HB2 := Lib.hid (below_call HB1.out B2)
    have HS2 := Lib.hid S2
    clear B2 S2
    go_wp2_with fail
    refine (HN.out _ _ HB2.out HS2.out).mono ?_
    rintro e w3 ⟨rfl, B3⟩
    have HB3 := Lib.hid (below_call HB2.out B3)
    clear B3
    go_wp2
    go_ret
    exact ⟨ret_bool HV.out, HB3.out⟩
  · rw [decide_eq_false hk] at HC
    have HV := Lib.hid (show false = decide (okRow ls lo hi pss js) from (decide_eq_false (fun h => hk h.1)).symm)
    obtain ⟨ja, jl, jc⟩ := j
    obtain ⟨sa, sl, sc⟩ := s
    simp only at *
    clear ht hc hok hj bj hcap hp hv hk
    generalize ls.length = n at *
    go_enter Tryd.func29, Tryd.ntmps29
    go_wp2_with fail
    refine HC.out.mono ?_
    rintro e w1 ⟨rfl, B1⟩
    have HB1 := Lib.hid B1
    clear B1
    go_wp2
    go_ret
    exact ⟨ret_bool HV.out, HB1.out⟩
theorem clearOfNil (j s : Sl) (w : World) :
    Calls Tryd.prog 29 #[.slice none 0 0, .slice j.a j.len j.cap, .slice s.a s.len s.cap] w fun e w' => e = .returned (.bool false) ∧ w = w' := by
  go_enter Tryd.func29, Tryd.ntmps29
  go_wp2_with fail
  refine (allowsNil j w).mono ?_
  rintro e w' ⟨rfl, rfl⟩
  go_wp2
  go_ret
  exact ⟨rfl, rfl⟩
set_option maxHeartbeats 2000000 in
theorem implArmClear (x y z j s : Sl) (ls lo hi js : List Int) (pss : List (List P2)) (w : World) (ht : TabAt w) (hx : IntsAt w x.a x.len ls) (hy : IntsAt w y.a y.len lo) (hz : IntsAt w z.a z.len hi) (hj : IntsAt w j.a j.len js) (hp : PSS w s.a s.len pss) (bx : x.len ≤ 9223372036854775807) (b_y : y.len ≤ 9223372036854775807) (bz : z.len ≤ 9223372036854775807) (bj : j.len ≤ 9223372036854775807) (bs : s.len ≤ 9223372036854775807) :
    Calls Tryd.prog 10 #[av x y z, .slice j.a j.len j.cap, .slice s.a s.len s.cap] w fun e w' => e = .returned (.bool (decide (armV ls lo hi js pss))) ∧ Below w.heap.size w w' := by
  have HB := Lib.hid (below_box w (.cells #[.slice x.a x.len x.cap, .slice y.a y.len y.cap, .slice z.a z.len z.cap] 25))
  have HX := Lib.hid (AtA.box w (.slice x.a x.len x.cap) (.slice y.a y.len y.cap) (.slice z.a z.len z.cap) 25)
  have HSC := Lib.hid (implSceneValid s.a s.len s.cap pss _ (hp.next HB.out) bs)
  by_cases hs : scnV pss
  rotate_left
  · rw [decide_eq_false hs] at HSC
    have HV := Lib.hid (show false = decide (armV ls lo hi js pss) from (decide_eq_false (fun h => hs h.2.1)).symm)
    clear hx hy hz hj hp hs ht
    go_enter Tryd.func10, Tryd.ntmps10
    go_wp2_with fail
    refine HSC.out.mono ?_
    rintro e w1 ⟨rfl, B1⟩
    have HB1 := Lib.hid (below_call HB.out B1)
    clear B1
    go_wp2
    go_ret
    exact ⟨ret_bool HV.out, HB1.out⟩
  rw [decide_eq_true hs] at HSC
  have HA := Lib.hid (And.intro hx (And.intro hy (And.intro hz (And.intro hj hp))))
  have HT := Lib.hid ht
  have HSS := Lib.hid hs
  clear hx hy hz hj hp hs ht
  go_enter Tryd.func10, Tryd.ntmps10
  go_wp2_with fail
  refine HSC.out.mono ?_
  rintro e w1 ⟨rfl, B1⟩
  have HB1 := Lib.hid (below_call HB.out B1)
  obtain ⟨_, c0, c1, c2, _, _, _⟩ := HX.out.next B1
  clear B1 HSC
  go_wp2_with fail
  refine (chainOf x y z ls lo hi _ (HA.out.1.next HB1.out) (HA.out.2.1.next HB1.out) (HA.out.2.2.1.next HB1.out) bx b_y bz).mono ?_
  rintro e w2 ⟨B2, ⟨hok, b, rfl, _, hc⟩ | ⟨hok, rfl⟩⟩
  · have HB2 := Lib.hid (below_call HB1.out B2)
    have HC := Lib.hid (clearOf b ls.length j s ls lo hi js pss w2 (HT.out.below HB2.out HT.out.lt) hc hok (HA.out.2.2.2.1.next HB2.out) bj (Nat.le_refl _) (HA.out.2.2.2.2.next HB2.out) HSS.out)
    have HV := Lib.hid (show decide (okRow ls lo hi pss js) = decide (armV ls lo hi js pss) from Bool.eq_iff_iff.2 (by simp only [decide_eq_true_eq]; exact (armV_row HSS.out).symm))
    clear B2 hc hok c0 c1 c2
    generalize ls.length = n at *
    generalize decide (okRow ls lo hi pss js) = v at *
    go_wp2_with fail
    refine HC.out.mono ?_
    rintro e w3 ⟨rfl, B3⟩
    have HB3 := Lib.hid (below_call HB2.out B3)
    clear B3
    go_wp2
    go_ret
    exact ⟨ret_bool HV.out, HB3.out⟩
  · have HB2 := Lib.hid (below_call HB1.out B2)
    have HV := Lib.hid (show false = decide (armV ls lo hi js pss) from (decide_eq_false (fun h => hok h.1.1)).symm)
    clear B2 hok c0 c1 c2
    go_wp2_with fail
    refine (clearOfNil j s _).mono ?_
    rintro e w' ⟨rfl, rfl⟩
    go_wp2
    go_ret
    exact ⟨ret_bool HV.out, HB2.out⟩
end Go.Proofs.YtkogoflcacameaaDoor
