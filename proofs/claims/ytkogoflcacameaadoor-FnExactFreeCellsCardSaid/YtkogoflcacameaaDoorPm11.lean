/- Rows of rows of points in blocks of their own: copied, marked. -/
import Derived.Test.YtkogoflcacameaaDoorOq9
namespace Go.Proofs.YtkogoflcacameaaDoor.Pnt
set_option maxRecDepth 100000
open Go.RowKit
attribute [local go_sem ↓] Go.wp_at_zero Go.wp_at_succ
/-- A row's length. -/
def rl (pss : List (List P2)) (i : Nat) : Nat := (pss.getD i []).length
/-- The first k rows lie in blocks of their own. -/
structure RowsM (u : World) (g len k : Nat) (pss : List (List P2)) (vs : List Value) (bk : Nat → Nat) : Prop where
  own : u.ownsRow g 72 1 (.slice (some ⟨g, 0, none⟩) len len) len vs
  val : ∀ i, i < k → vs[i]? = some (.slice (some ⟨bk i, 0, none⟩) (rl pss i) (rl pss i))
  row : ∀ i, i < k → OwnPt u (g + 1) (.slice (some ⟨bk i, 0, none⟩) (rl pss i) (rl pss i)) (pss.getD i [])
  gt : ∀ i, i < k → g < bk i
  lt : ∀ i, i < k → bk i < u.heap.size
  inc : ∀ i j, i < j → j < k → bk i < bk j
theorem RowsM.next {u u' : World} {g len k : Nat} {pss : List (List P2)} {vs : List Value} {bk : Nat → Nat} (h : RowsM u g len k pss vs bk) (hb : Below u.heap.size u u') : RowsM u' g len k pss vs bk :=
  ⟨World.ownsRow.kept (row := none) h.own ⟨hb.os, hb.tape, hb.output, hb.size, fun k hk _ => hb.block k hk⟩ (.inr (by simp [Value.ownBlock])), h.val, fun i hi => (h.row i hi).next hb, h.gt, fun i hi => Nat.lt_of_lt_of_le (h.lt i hi) hb.size, h.inc⟩
theorem RowsM.rsa {u : World} {g len : Nat} {pss : List (List P2)} {vs : List Value} {bk : Nat → Nat} (h : RowsM u g len len pss vs bk) (hl : len = pss.length) (hr : ∀ i, i < len → (pss.getD i []).length ≤ 1048576) : PSA u (some ⟨g, 0, none⟩) len pss := by
  by_cases h0 : len = 0
  · subst h0; exact ⟨hl, .inl (List.eq_nil_of_length_eq_zero hl.symm)⟩
  · refine ⟨hl, .inr ⟨g, rfl, (World.ownsRow.lt h.own _ rfl).2, fun i hi => ?_⟩⟩
    have hi' : i < len := by omega
    exact ⟨⟨some ⟨bk i, 0, none⟩, rl pss i, rl pss i⟩, (World.ownsRow.cellAt h.own i (by omega)).trans (h.val i hi'), OwnPt.ints (h.row i hi'), by have := hr i hi'; unfold rl; simp only; omega⟩
set_option maxHeartbeats 1000000 in
theorem markPointS (a : Option Addr) (len cap B : Nat) (ps : List (Int × Int)) (k : Int) (w : World) (h : OwnPt w B (.slice a len cap) ps) (hk0 : 0 ≤ k) (hk1 : k ≤ 35184372088832) (hl : len ≤ 1073741824) :
    Calls Tryd.prog 45 #[.slice a len cap, .int .i64 k] w (MarkedP B (.slice a len cap) len k w) := by
  rcases h.2 with ⟨hv, hn⟩ | ⟨g, c, cur, hv, hb, hg, hnc, hcm, hcs, htake⟩
  · simp only [Value.slice.injEq] at hv
    obtain ⟨rfl, rfl, rfl⟩ := hv
    clear h
    go_enter Tryd.func45, Tryd.ntmps45
    go_wp2
    go_loop [1, 5] (fun kk i => kk = .int .i64 k ∧ i = .int .i64 0) (fun _ _ => 0)
    case atStart => exact ⟨rfl, rfl⟩
    case round =>
      obtain ⟨rfl, rfl⟩ := hrel
      go_wp2
      go_ret
      exact ⟨ret_int (by omega), World.ownsRow_nil _ _ _ _, World.grownBy.refl _ _, rfl⟩
  · simp only [Value.slice.injEq] at hv
    obtain ⟨rfl, rfl, rfl⟩ := hv
    have H0 : w.ownsRow B 89 2 (.slice (some ⟨g, 0, none⟩) ps.length cap) ps.length (cpart (fun i => k + (i : Int)) (cz ps) (ps.length * 2) (0 * 2)) := by
      have e : pvals ps = cpart (fun i => k + (i : Int)) (cz ps) (ps.length * 2) (0 * 2) := by
        rw [pvals_cpart ps (cz ps)]
        exact cpart_congr _ _ _ _ _ _ _ fun i hi => by simp
      rw [← e]; exact h
    have HF := Lib.hid (show cpart (fun i => k + (i : Int)) (cz ps) (ps.length * 2) (ps.length * 2) = pvals (pmarks k ps.length) by
      rw [pvals_cpart (pmarks k ps.length) (cz ps), pmarks_len]
      exact cpart_congr _ _ _ _ _ _ _ fun i hi => by rw [if_pos hi, if_pos hi, cz_pmarks k _ i hi])
    have HP := Lib.hid (fun j => cpart_set (fun i => k + (i : Int)) (cz ps) (ps.length * 2) j)
    clear hb hg hnc hcm hcs htake h
    go_enter Tryd.func45, Tryd.ntmps45
    go_wp2
    go_loopw [1, 5] (fun kk i wr => ∃ j : Nat, j ≤ ps.length ∧ kk = .int .i64 (k + 2 * (j : Int)) ∧ i = .int .i64 (j : Int) ∧ Hid (wr.ownsRow B 89 2 (.slice (some ⟨g, 0, none⟩) ps.length cap) ps.length (cpart (fun i => k + (i : Int)) (cz ps) (ps.length * 2) (j * 2))) ∧ Hid (w.grownBy wr (some g)) ∧ Hid (wr.heap.size = w.heap.size)) (fun _ i _ => ps.length - (intOf i).toNat)
    case atStart => exact ⟨0, Nat.zero_le _, by simp, rfl, Lib.hid H0, Lib.hid (World.grownBy.refl _ _), Lib.hid rfl⟩
    case round =>
      obtain ⟨j, hj, rfl, rfl, HO, HW, HS⟩ := hrel
      clear H0
      by_cases hlt : j < ps.length
      · have d2 := HO.out.cellAt (j * 2) (by omega)
        have d3 := HO.out.frozenAt (j * 2)
        have d4 := HO.out.cellAt (j * 2 + 1) (by omega)
        have d5 := HO.out.frozenAt (j * 2 + 1)
        rw [cpart_at _ _ _ _ _ (by omega)] at d2 d4
        have s1 := HO.out.stored (j * 2) (.int .i64 (k + ((j * 2 : Nat) : Int)))
        have s2 := s1.1.stored (j * 2 + 1) (.int .i64 (k + ((j * 2 + 1 : Nat) : Int)))
        have HT := Lib.hid (And.intro s2.1 (s1.2.trans s2.2))
        rw [HP.out (j * 2), HP.out (j * 2 + 1)] at HT
        rw [show k + ((j * 2 : Nat) : Int) = k + 2 * (j : Int) by omega, show k + ((j * 2 + 1 : Nat) : Int) = k + 2 * (j : Int) + 1 by omega] at HT
        clear s1 s2
        go_wp2
        go_roundw
        case rel => exact ⟨j + 1, by omega, by congr 1; omega, by congr 1, Lib.hid (by rw [show (j + 1) * 2 = j * 2 + 1 + 1 by omega]; exact HT.out.1), Lib.hid (HW.out.trans HT.out.2), Lib.hid (by simpa [World.setCell] using HS.out)⟩
        case measure => simp [intOf]; omega
      · obtain rfl : j = ps.length := by omega
        go_wp2
        go_ret
        refine ⟨rfl, ?_, HW.out, HS.out⟩
        unfold OwnPt
        rw [pmarks_len, ← HF.out]
        exact HO.out
set_option maxHeartbeats 2000000 in
theorem toPointSSM (a : Option Addr) (len cap : Nat) (pss : List (List P2)) (w : World) (h : PssIn w a len pss) (hl : len ≤ 1048576) (hr : ∀ i, i < len → (pss.getD i []).length ≤ 1048576) :
    Calls Tryd.prog 15 #[.slice a len cap] w fun e w' => e = .returned (.slice (some ⟨w.heap.size, 0, none⟩) len len) ∧ (∃ vs bk, RowsM w' w.heap.size len len pss vs bk) ∧ Below w.heap.size w w' := by
  obtain ⟨i0, hi0, hz0, hz1, hz2⟩ := info_parts infoSl9
  have HK := Lib.hid h
  have HR := Lib.hid hr
  clear h hr
  go_enter Tryd.func15, Tryd.ntmps15
  go_wp2_with (first
    | (at_make; refine wpList_make_full _ rfl _ _ 26 rfl w.heap.size 72 i0 (.slice none 0 0) 1 Tryd.underlying26 hi0 hz0 hz1 .i64 .i64 _ _ len rfl rfl (by omega) (by omega) (by rw [hz2]; omega) (by unfold maxLen; omega) (Nat.le_refl _) ?_; intro w1 own1 grow1))
  have HG : Below w.heap.size w w1 := (Below.refl _ _).grown grow1 (Nat.le_refl _) (fun k hk => by cases hk)
  have HO1 : Hid (∃ vs bk, RowsM w1 w.heap.size len 0 pss vs bk) := Lib.hid ⟨_, fun _ => 0, own1, fun i hi => by omega, fun i hi => by omega, fun i hi => by omega, fun i hi => by omega, fun i j _ hj => by omega⟩
  clear own1 grow1
  go_loopw [4] (fun i wr => ∃ k : Nat, k ≤ len ∧ i = .int .i64 (k : Int) ∧ Hid (∃ vs bk, RowsM wr w.heap.size len k pss vs bk) ∧ Hid (Below w.heap.size w wr)) (fun i _ => len - (intOf i).toNat)
  case atStart => exact ⟨0, Nat.zero_le _, rfl, HO1, Lib.hid HG⟩
  case round =>
    obtain ⟨k, hk, rfl, HO, HW⟩ := hrel
    clear HO1 HG
    by_cases hlt : k < len
    · obtain ⟨b, off, rfl, lt, hc⟩ := HK.out.some (by omega)
      obtain ⟨s, d1, I1, I2⟩ := hc k hlt
      have d2 : wr.cell? ⟨b, off + k, none⟩ = _ := (HW.out.cell (p := ⟨b, off + k, none⟩) lt).trans d1
      have J1 := I1.next HW.out
      have hrk := HR.out k hlt
      have hsl : s.len ≤ 1048576 := by rw [J1.1]; exact hrk
      have HSL := Lib.hid (show s.len = rl pss k from J1.1)
      have j1 : (0 : Int) ≤ (k : Int) := by omega
      have j2 : (k : Int) < (len : Int) := by omega
      obtain ⟨vs, bk, ho⟩ := HO.out
      have HHO := Lib.hid ho
      have hsz := (World.ownsRow.lt ho.own w.heap.size rfl).2
      unfold slQ at d2
      clear hc d1 I1 HO ho lt
      go_wp2_with fail
      refine (toPointS s.a s.len s.cap (pss.getD k []) _ J1 hsl).mono ?_
      rintro e w2 ⟨rfl, O2, B2⟩
      have HO2 := Lib.hid (HHO.out.next B2)
      have hvl : vs.length = len := by have := HHO.out.own.1; simpa using this
      have r1 := HO2.out.own.cellAt k (by omega)
      rw [List.getElem?_eq_getElem (by omega)] at r1
      have r2 := HO2.out.own.frozenAt k
      have s1 := HO2.out.own.stored k (.slice (some ⟨wr.heap.size, 0, none⟩) s.len s.len)
      have HN : Hid (∃ vs bk, RowsM (w2.setCell ⟨w.heap.size, k, none⟩ (.slice (some ⟨wr.heap.size, 0, none⟩) s.len s.len)) w.heap.size len (k + 1) pss vs bk) := Lib.hid ⟨_, fun i => if i = k then wr.heap.size else bk i, s1.1, fun i hi => by
        by_cases hik : i = k
        · subst hik
          rw [if_pos rfl, List.getElem?_set_self (by omega), HSL.out]
        · rw [if_neg hik, List.getElem?_set_ne (by omega)]; exact HO2.out.val i (by omega), fun i hi => by
        by_cases hik : i = k
        · subst hik
          rw [if_pos rfl, ← HSL.out]
          exact (OwnPt.down6 (B' := w.heap.size + 1) O2 (by omega)).off9 s1.2 (fun q hq => by injection hq with hq; omega)
        · rw [if_neg hik]; exact (HO2.out.row i (by omega)).off9 s1.2 (fun q hq => by injection hq with hq; omega), fun i hi => by
        by_cases hik : i = k
        · subst hik; rw [if_pos rfl]; omega
        · rw [if_neg hik]; exact HO2.out.gt i (by omega), fun i hi => by
        by_cases hik : i = k
        · subst hik; rw [if_pos rfl]; have := (World.ownsRow.lt O2 _ rfl).2; simpa [World.setCell] using this
        · rw [if_neg hik]; have := HO2.out.lt i (by omega); simpa [World.setCell] using this, fun i j hij hj => by
        rw [if_neg (by omega)]
        by_cases hjk : j = k
        · subst hjk; rw [if_pos rfl]; exact HHO.out.lt i (by omega)
        · rw [if_neg hjk]; exact HO2.out.inc i j hij (by omega)⟩
      have HW2 := Lib.hid ((below_call HW.out B2).grown s1.2 (below_call HW.out B2).size (fun q hq => by injection hq with hq; omega))
      clear s1 O2 B2 d2 J1 HHO
      go_wp2
      go_roundw
      case rel => exact ⟨k + 1, by omega, by congr 1, HN, HW2⟩
      case measure => simp [intOf]; omega
    · obtain rfl : k = len := by omega
      go_wp2
      go_ret
      exact ⟨rfl, HO.out, HW.out⟩
/-- The lengths of the rows ahead of row i. -/
def preL (pss : List (List P2)) : Nat → Nat
  | 0 => 0
  | i + 1 => preL pss i + 2 * rl pss i
theorem preL_le {pss : List (List P2)} {len : Nat} (h : ∀ i, i < len → (pss.getD i []).length ≤ 1048576) : ∀ {j : Nat}, j ≤ len → preL pss j ≤ j * 2097152
  | 0, _ => by simp [preL]
  | j + 1, hj => by
    have h1 := preL_le h (j := j) (by omega)
    have h2 := h j (by omega)
    show preL pss j + 2 * rl pss j ≤ _
    unfold rl
    omega
/-- The first j rows marked. -/
def mkTo (pss : List (List P2)) (k : Int) (j : Nat) : List (List P2) := (List.range pss.length).map fun i => if i < j then pmarks (k + (preL pss i : Int)) (rl pss i) else pss.getD i []
theorem mkTo_len (pss : List (List P2)) (k : Int) (j : Nat) : (mkTo pss k j).length = pss.length := by simp [mkTo]
theorem mkTo_at (pss : List (List P2)) (k : Int) (j i : Nat) (h : i < pss.length) : (mkTo pss k j).getD i [] = if i < j then pmarks (k + (preL pss i : Int)) (rl pss i) else pss.getD i [] := by
  unfold mkTo
  rw [List.getD_eq_getElem?_getD, List.getElem?_map, List.getElem?_range h]; rfl
theorem mkTo_rl (pss : List (List P2)) (k : Int) (j i : Nat) (h : i < pss.length) : rl (mkTo pss k j) i = rl pss i := by
  unfold rl
  rw [mkTo_at pss k j i h]
  split
  · rw [pmarks_len]; rfl
  · rfl
theorem mkTo_zero (pss : List (List P2)) (k : Int) : mkTo pss k 0 = pss := by
  apply List.ext_getElem?
  intro i
  by_cases h : i < pss.length
  · unfold mkTo
    rw [List.getElem?_map, List.getElem?_range h, List.getElem?_eq_getElem h]
    simp only [Option.map_some, Nat.not_lt_zero, if_false, List.getD_eq_getElem?_getD, List.getElem?_eq_getElem h, Option.getD_some]
  · rw [List.getElem?_eq_none (by rw [mkTo_len]; omega), List.getElem?_eq_none (by omega)]
/-- Only the rows' blocks have changed. -/
structure Rows0 (u u' : World) (len : Nat) (bk : Nat → Nat) : Prop where
  os : u'.os = u.os
  tape : u'.tape = u.tape
  output : u'.output = u.output
  size : u'.heap.size = u.heap.size
  block : ∀ q, (∀ i, i < len → q ≠ bk i) → u'.heap[q]? = u.heap[q]?
/-- What marking leaves. -/
def MarkedSS (g len : Nat) (pss : List (List P2)) (vs : List Value) (bk : Nat → Nat) (k : Int) (w : World) (e : Ending) (w' : World) : Prop :=
  e = .returned (.int .i64 (k + (preL pss len : Int))) ∧ RowsM w' g len len (mkTo pss k len) vs bk ∧ Rows0 w w' len bk
theorem ownPtAway {u u' : World} {B : Nat} {v : Value} {ps : List P2} {ob : Option Nat} (h : OwnPt u B v ps) (hg : u.grownBy u' ob) (hb : ∀ k, ob = some k → v.ownBlock ≠ some k) : OwnPt u' B v ps :=
  World.ownsRow.kept h hg (by
    rcases h.2 with ⟨rfl, _⟩ | ⟨g, c, cur, rfl, hB, _⟩
    · exact .inl rfl
    · exact .inr fun e => hb g e.symm rfl)
theorem RowsM.mark {u u' : World} {g len j : Nat} {pss : List (List P2)} {vs : List Value} {bk : Nat → Nat} {k : Int} (h : RowsM u g len len (mkTo pss k j) vs bk) (hn : len = pss.length) (hj : j < len) (hO : OwnPt u' (g + 1) (.slice (some ⟨bk j, 0, none⟩) (rl pss j) (rl pss j)) (pmarks (k + (preL pss j : Int)) (rl pss j))) (hG : u.grownBy u' (some (bk j))) (hS : u'.heap.size = u.heap.size) :
    RowsM u' g len len (mkTo pss k (j + 1)) vs bk := by
  have hg := h.gt j hj
  refine ⟨World.ownsRow.kept h.own hG (.inr (by simp [Value.ownBlock]; omega)), fun i hi => ?_, fun i hi => ?_, h.gt, fun i hi => by rw [hS]; exact h.lt i hi, h.inc⟩
  · rw [mkTo_rl pss k (j + 1) i (by omega)]
    have := h.val i hi
    rw [mkTo_rl pss k j i (by omega)] at this
    exact this
  · rw [mkTo_rl pss k (j + 1) i (by omega), mkTo_at pss k (j + 1) i (by omega)]
    by_cases e : i = j
    · subst e
      rw [if_pos (by omega)]; exact hO
    · have := h.row i hi
      rw [mkTo_rl pss k j i (by omega), mkTo_at pss k j i (by omega)] at this
      have e2 : (if i < j + 1 then pmarks (k + (preL pss i : Int)) (rl pss i) else pss.getD i []) = if i < j then pmarks (k + (preL pss i : Int)) (rl pss i) else pss.getD i [] := by
        by_cases c : i < j
        · rw [if_pos c, if_pos (by omega)]
        · rw [if_neg c, if_neg (by omega)]
      rw [e2]
      refine ownPtAway this hG (fun q hq => ?_)
      injection hq with hq
      subst hq
      intro q2
      have q3 : bk i = bk j := Option.some.inj q2
      rcases Nat.lt_or_ge i j with c | c
      · have := h.inc i j c hj; omega
      · have := h.inc j i (by omega) hi; omega
theorem Rows0.step {w u u' : World} {len j : Nat} {bk : Nat → Nat} (h : Rows0 w u len bk) (hj : j < len) (hG : u.grownBy u' (some (bk j))) (hS : u'.heap.size = u.heap.size) : Rows0 w u' len bk :=
  ⟨hG.os.trans h.os, hG.tape.trans h.tape, hG.output.trans h.output, hS.trans h.size, fun q hq => by
    by_cases e : q < u.heap.size
    · exact (hG.block q e (fun e2 => hq j hj (Option.some.inj e2))).trans (h.block q hq)
    · rw [Array.getElem?_eq_none (by omega), Array.getElem?_eq_none (by rw [← h.size]; omega)]⟩
set_option maxHeartbeats 2000000 in
theorem markPointSS (g len : Nat) (pss : List (List P2)) (vs : List Value) (bk : Nat → Nat) (k : Int) (w : World) (h : RowsM w g len len pss vs bk) (hn : len = pss.length) (hl : len ≤ 1048576) (hr : ∀ i, i < len → (pss.getD i []).length ≤ 1048576) (hk0 : 0 ≤ k) (hk1 : k ≤ 4194304) :
    Calls Tryd.prog 20 #[.slice (some ⟨g, 0, none⟩) len len, .int .i64 k] w (MarkedSS g len pss vs bk k w) := by
  unfold MarkedSS
  have HR := Lib.hid hr
  have HN := Lib.hid hn
  have HM0 := Lib.hid (show RowsM w g len len (mkTo pss k 0) vs bk by rw [mkTo_zero]; exact h)
  clear h hr hn
  go_enter Tryd.func20, Tryd.ntmps20
  go_wp2
  go_loopw [1, 5] (fun kk i wr => ∃ j : Nat, j ≤ len ∧ kk = .int .i64 (k + (preL pss j : Int)) ∧ i = .int .i64 (j : Int) ∧ Hid (RowsM wr g len len (mkTo pss k j) vs bk) ∧ Hid (Rows0 w wr len bk)) (fun _ i _ => len - (intOf i).toNat)
  case atStart => exact ⟨0, Nat.zero_le _, by simp [preL], rfl, HM0, Lib.hid ⟨rfl, rfl, rfl, rfl, fun _ _ => rfl⟩⟩
  case round =>
    obtain ⟨j, hj, rfl, rfl, HO, HW⟩ := hrel
    clear HM0
    by_cases hlt : j < len
    · have hjl : j < pss.length := by have := HN.out; omega
      have r1 := HO.out.own.cellAt j (by omega)
      rw [HO.out.val j hlt, mkTo_rl pss k j j hjl] at r1
      have r2 := HO.out.own.frozenAt j
      have j1 : (0 : Int) ≤ (j : Int) := by omega
      have j2 : (j : Int) < (len : Int) := by omega
      have hrow := HO.out.row j hlt
      rw [mkTo_rl pss k j j hjl, mkTo_at pss k j j hjl, if_neg (by omega)] at hrow
      have hrn : rl pss j ≤ 1048576 := HR.out j hlt
      have hpj := preL_le HR.out (by omega : j ≤ len)
      have HMK := Lib.hid (markPointS (some ⟨bk j, 0, none⟩) (rl pss j) (rl pss j) (g + 1) (pss.getD j []) (k + (preL pss j : Int)) wr hrow (by omega) (by omega) (by omega))
      clear hrow
      have HO2 := HO
      go_wp2_with fail
      refine HMK.out.mono ?_
      rintro e w2 ⟨rfl, O2, G2, S2⟩
      have HM := Lib.hid (HO2.out.mark HN.out hlt O2 G2 S2)
      have HW2 := Lib.hid (HW.out.step hlt G2 S2)
      clear HMK HO HO2 HW O2 G2 S2 r1 r2
      go_wp2
      go_roundw
      case rel => exact ⟨j + 1, by omega, by congr 1; show _ = k + ((preL pss j + 2 * rl pss j : Nat) : Int); omega, by congr 1, HM, HW2⟩
      case measure => simp [intOf]; omega
    · obtain rfl : j = len := by omega
      go_wp2
      go_ret
      exact ⟨rfl, HO.out, HW.out⟩
section
variable {w u u' : World} {len B : Nat} {bk : Nat → Nat}
theorem Rows0.below (h : Rows0 u u' len bk) (hb : Below B w u) (hk : ∀ i, i < len → B ≤ bk i) : Below B w u' :=
  hb.trans ⟨h.os, h.tape, h.output, by rw [h.size]; exact Nat.le_refl _, fun q hq => h.block q (fun i hi => by have := hk i hi; omega)⟩
theorem Rows0.atp {c : Nat} {x y : Int} (h : Rows0 u u' len bk) (hp : AtP u c x y) (hk : ∀ i, i < len → c ≠ bk i) : AtP u' c x y :=
  have e := h.block c hk
  ⟨by rw [h.size]; exact hp.lt, (World.cell?_of_block (a := ⟨c, 0, none⟩) e).trans hp.c0, (World.cell?_of_block (a := ⟨c, 1, none⟩) e).trans hp.c1⟩
end
end Go.Proofs.YtkogoflcacameaaDoor.Pnt
