/- The document's FreeCells. -/
import Derived.Test.YtkogoflcacameaaDoorFr11
import Derived.Test.YtkogoflcacameaaDoorZc11b
import Derived.Test.YtkogoflcacameaaDoorZb10f
import Derived.Test.YtkogoflcacameaaDoorGq11
import Derived.Test.YtkogoflcacameaaDoorSc10
import Derived.Deep.AppendLies
import Derived.Maps.AppendAt
import Derived.OwnWalk
namespace Go.Proofs.YtkogoflcacameaaDoor
set_option maxRecDepth 100000
open Go.RowKit
attribute [local go_sem ↓] Go.wp_at_zero Go.wp_at_succ
theorem ints_two11 (w : World) (p q : Int) (t : TypeId) : IntsAt (w.alloc (.cells #[.int .i64 p, .int .i64 q] t)) (some ⟨w.heap.size, 0, none⟩) 2 [p, q] :=
  ⟨rfl, .inr ⟨w.heap.size, 0, rfl, by simp, fun i hi => by
    have h2 : i = 0 ∨ i = 1 := by simp at hi; omega
    rcases h2 with rfl | rfl <;> simp⟩⟩
theorem rowAway {u u' : World} {B sz n : Nat} {e : TypeId} {v : Value} {xs : List Value} {ob : Option Nat} (h : u.ownsRow B e sz v n xs) (hg : u.grownBy u' ob) (hb : ∀ k, ob = some k → v.ownBlock ≠ some k) : u'.ownsRow B e sz v n xs :=
  World.ownsRow.kept h hg (by
    cases hv : v.ownBlock with
    | none => exact .inl rfl
    | some g => exact .inr fun e2 => hb g e2.symm hv)
theorem Below.grownN {u u' : World} (hb : Below u.heap.size u u') : u.grownBy u' none := ⟨hb.os, hb.tape, hb.output, hb.size, fun k hk _ => hb.block k hk⟩
theorem vals_snoc11 {L : List Bool} {j : Nat} (h : j < L.length) : Bol.vals (L.take (j + 1)) = Bol.vals (L.take j) ++ [.bool (L.getD j false)] := by
  rw [List.take_succ_eq_append_getElem h, List.getD_eq_getElem?_getD, List.getElem?_eq_getElem h]
  unfold Bol.vals
  rw [List.map_append]; rfl
/-- What the document's loops hold: the rows so far, and the row under way. -/
structure FSt (B : Nat) (T : List (List Bool)) (k j : Nat) (fv rv : Value) (u : World) : Prop where
  ex : ∃ vs : List Value, u.ownsRow B 34 1 fv k vs ∧ ∀ i, i < k → ∃ s : Sl, vs[i]? = some (.slice s.a s.len s.cap) ∧ Bol.OwnB u B (.slice s.a s.len s.cap) (T.getD i []) ∧ ∀ q, (Value.slice s.a s.len s.cap).ownBlock = some q → fv.ownBlock ≠ some q ∧ rv.ownBlock ≠ some q
  row : Bol.OwnB u B rv ((T.getD k []).take j)
  ne : ∀ q, rv.ownBlock = some q → fv.ownBlock ≠ some q
theorem FSt.next {B k j : Nat} {T : List (List Bool)} {fv rv : Value} {u u' : World} (h : FSt B T k j fv rv u) (hb : Below u.heap.size u u') : FSt B T k j fv rv u' := by
  obtain ⟨vs, h1, h2⟩ := h.ex
  exact ⟨⟨vs, rowAway h1 (Below.grownN hb) (fun k e => by cases e), fun i hi => by
    obtain ⟨s, e1, e2, e3⟩ := h2 i hi
    exact ⟨s, e1, e2.next hb, e3⟩⟩, h.row.next hb, h.ne⟩
theorem FSt.rowN {B k j Y : Nat} {T : List (List Bool)} {fv rv : Value} {u : World} (h : FSt B T k j fv rv u) (hl : (T.getD k []).length = Y) (hj : j ≤ Y) : u.ownsRow B 4 1 rv j (Bol.vals ((T.getD k []).take j)) := by
  have o := h.row
  unfold Bol.OwnB at o
  rw [List.length_take, hl, Nat.min_eq_left hj] at o
  exact o
theorem FSt.app {B k j Y g7 cap7 : Nat} {T : List (List Bool)} {fv rv : Value} {u u' : World} (h : FSt B T k j fv rv u) (hl : (T.getD k []).length = Y) (hj : j < Y)
    (own : u'.ownsRow B 4 1 (.slice (some ⟨g7, 0, none⟩) (j + 1) cap7) (j + 1) (Bol.vals ((T.getD k []).take j) ++ [.bool ((T.getD k []).getD j false)])) (grow : u.grownBy u' rv.ownBlock) (at7 : rv.ownBlock = some g7 ∨ g7 = u.heap.size) :
    FSt B T k (j + 1) fv (.slice (some ⟨g7, 0, none⟩) (j + 1) cap7) u' := by
  obtain ⟨vs, h1, h2⟩ := h.ex
  have hjl : j < (T.getD k []).length := by omega
  refine ⟨⟨vs, rowAway h1 grow h.ne, fun i hi => ?_⟩, ?_, fun q hq => ?_⟩
  · obtain ⟨s, e1, e2, e3⟩ := h2 i hi
    refine ⟨s, e1, e2.away grow (fun q hq e => (e3 q e).2 hq), fun q hq => ⟨(e3 q hq).1, fun e => ?_⟩⟩
    have e4 : g7 = q := Option.some.inj e
    subst e4
    rcases at7 with c | c
    · exact (e3 g7 hq).2 c
    · have := (World.ownsRow.lt e2 g7 hq).2; omega
  · unfold Bol.OwnB
    rw [List.length_take, hl, Nat.min_eq_left (by omega : j + 1 ≤ Y)]
    rw [vals_snoc11 hjl]
    exact own
  · have e4 : g7 = q := Option.some.inj hq
    subst e4
    rcases at7 with c | c
    · exact h.ne g7 c
    · intro e
      have := (World.ownsRow.lt h1 g7 e).2; omega
theorem FSt.push {B k Y g7 cap7 : Nat} {T : List (List Bool)} {fv rv : Value} {vs : List Value} {u u' : World} (h : FSt B T k Y fv rv u) (hl : (T.getD k []).length = Y)
    (h2 : ∀ i, i < k → ∃ s : Sl, vs[i]? = some (.slice s.a s.len s.cap) ∧ Bol.OwnB u B (.slice s.a s.len s.cap) (T.getD i []) ∧ ∀ q, (Value.slice s.a s.len s.cap).ownBlock = some q → fv.ownBlock ≠ some q ∧ rv.ownBlock ≠ some q) (hvl : vs.length = k)
    (own : u'.ownsRow B 34 1 (.slice (some ⟨g7, 0, none⟩) (k + 1) cap7) (k + 1) (vs ++ [rv])) (grow : u.grownBy u' fv.ownBlock) (at7 : fv.ownBlock = some g7 ∨ g7 = u.heap.size) :
    FSt B T (k + 1) 0 (.slice (some ⟨g7, 0, none⟩) (k + 1) cap7) (.slice none 0 0) u' := by
  refine ⟨⟨vs ++ [rv], own, fun i hi => ?_⟩, World.ownsRow_nil _ _ _ _, fun q hq => by cases hq⟩
  by_cases e : i < k
  · obtain ⟨s, e1, e2, e3⟩ := h2 i e
    refine ⟨s, by rw [List.getElem?_append_left (by omega)]; exact e1, e2.away grow (fun q hq e => (e3 q e).1 hq), fun q hq => ⟨fun e => ?_, fun e => by cases e⟩⟩
    have e4 : g7 = q := Option.some.inj e
    subst e4
    rcases at7 with c | c
    · exact (e3 g7 hq).1 c
    · have := (World.ownsRow.lt e2 g7 hq).2; omega
  · obtain rfl : i = k := by omega
    have o := h.row
    rw [List.take_of_length_le (by omega)] at o
    obtain ⟨s, rfl, hs⟩ := o.sl10
    refine ⟨s, by rw [List.getElem?_append_right (by omega), hvl, Nat.sub_self]; rfl, o.away grow (fun q hq e => h.ne q e hq), fun q hq => ⟨fun e => ?_, fun e => by cases e⟩⟩
    have e4 : g7 = q := Option.some.inj e
    subst e4
    rcases at7 with c | c
    · exact h.ne g7 hq c
    · have := (World.ownsRow.lt o g7 hq).2; omega
theorem FSt.fresh {B k : Nat} {T : List (List Bool)} {fv : Value} {u : World} (h : FSt B T k 0 fv (.slice none 0 0) u) (hB : B ≤ u.heap.size) (t1 : TypeId) (ht : t1 = 4) : FSt B T k 0 fv (.slice (some ⟨u.heap.size, 0, none⟩) 0 0) (u.alloc (.cells #[] t1)) := by
  subst ht
  have h' := h.next (below_box u (.cells #[] 4))
  obtain ⟨vs, h1, h2⟩ := h.ex
  obtain ⟨vs', h1', h2'⟩ := h'.ex
  refine ⟨⟨vs, rowAway h1 (Below.grownN (below_box u _)) (fun k e => by cases e), fun i hi => ?_⟩, World.ownsRow_lit (base := B) (e := 4) (size := 1) u #[] 0 hB (Nat.zero_le _) rfl, fun q hq e => ?_⟩
  · obtain ⟨s, e1, e2, e3⟩ := h2 i hi
    refine ⟨s, e1, e2.next (below_box u _), fun q hq => ⟨(e3 q hq).1, fun e => ?_⟩⟩
    have e4 : u.heap.size = q := Option.some.inj e
    have := (World.ownsRow.lt e2 q hq).2; omega
  · have e4 : u.heap.size = q := Option.some.inj hq
    have := (World.ownsRow.lt h1 q e).2; omega
theorem FSt.start (u : World) (B : Nat) (T : List (List Bool)) (hB : B ≤ u.heap.size) (t1 : TypeId) (ht : t1 = 34) : FSt B T 0 0 (.slice (some ⟨u.heap.size, 0, none⟩) 0 0) (.slice none 0 0) (u.alloc (.cells #[] t1)) := by
  subst ht
  exact ⟨⟨[], World.ownsRow_lit (base := B) (e := 34) (size := 1) u #[] 0 hB (Nat.zero_le _) rfl, fun i hi => by omega⟩, World.ownsRow_nil _ _ _ _, fun q hq => by cases hq⟩
/-- What the document's FreeCells says. -/
def SaidF (T : List (List Bool)) (w : World) (e : Ending) (w' : World) : Prop :=
  ∃ s : Sl, e = .returned (.slice s.a s.len s.cap) ∧ Bol.RSA w' s.a s.len T ∧ Below w.heap.size w w'
theorem FSt.said {B k : Nat} {T : List (List Bool)} {fv rv : Value} {w u : World} (h : FSt B T k 0 fv rv u) (hk : T.length = k) (hr : ∀ i, i < k → (T.getD i []).length ≤ 20) (hb : Below w.heap.size w u) : SaidF T w (.returned fv) u := by
  obtain ⟨vs, h1, h2⟩ := h.ex
  rcases h1.2 with ⟨rfl, e0⟩ | ⟨g, c, cur, rfl, hB, hg, _⟩
  · exact ⟨⟨none, 0, 0⟩, rfl, ⟨by simp only; omega, .inl (List.eq_nil_of_length_eq_zero (by omega))⟩, hb⟩
  · refine ⟨⟨some ⟨g, 0, none⟩, k, c⟩, rfl, ⟨hk.symm, .inr ⟨g, rfl, (Array.getElem?_eq_some_iff.1 hg).1, fun i hi => ?_⟩⟩, hb⟩
    obtain ⟨s, e1, e2, e3⟩ := h2 i (by omega)
    refine ⟨s, (World.ownsRow.cellAt h1 i (by omega)).trans e1, Bol.OwnB.ints e2, ?_⟩
    have := (Bol.OwnB.ints e2).1
    have := hr i (by omega)
    omega
theorem keepA11 {B : Nat} {w u : World} {b c o : Nat} {x y z v0 v1 : Value} (h : Below B w u) (hb : b < B) (hc : c < B) (h0 : w.cell? ⟨b, 0, none⟩ = some x) (h1 : w.cell? ⟨b, 1, none⟩ = some y) (h2 : w.cell? ⟨b, 2, none⟩ = some z) (h3 : w.cell? ⟨c, o, none⟩ = some v0) (h4 : w.cell? ⟨c, o + 1, none⟩ = some v1) :
    u.cell? ⟨b, 0, none⟩ = some x ∧ u.cell? ⟨b, 1, none⟩ = some y ∧ u.cell? ⟨b, 2, none⟩ = some z ∧ u.cell? ⟨c, o, none⟩ = some v0 ∧ u.cell? ⟨c, o + 1, none⟩ = some v1 :=
  ⟨(h.cell (p := ⟨b, 0, none⟩) hb).trans h0, (h.cell (p := ⟨b, 1, none⟩) hb).trans h1, (h.cell (p := ⟨b, 2, none⟩) hb).trans h2, (h.cell (p := ⟨c, o, none⟩) hc).trans h3, (h.cell (p := ⟨c, o + 1, none⟩) hc).trans h4⟩
set_option maxHeartbeats 8000000 in
theorem specFreeCells (x y z s : Sl) (ls lo hi : List Int) (step : Int) (pss : List (List P2)) (w : World) (hx : IntsAt w x.a x.len ls) (hy : IntsAt w y.a y.len lo) (hz : IntsAt w z.a z.len hi) (hp : PSS w s.a s.len pss) (bx : x.len ≤ 9223372036854775807) (b_y : y.len ≤ 9223372036854775807) (bz : z.len ≤ 9223372036854775807) (bs : s.len ≤ 9223372036854775807) :
    Calls Tryd.prog 7 #[av x y z, .int .i64 step, .slice s.a s.len s.cap] w (SaidF (freeT ls lo hi step pss) w) := by
  obtain ⟨xa, xl, xc⟩ := x
  obtain ⟨ya, yl, yc⟩ := y
  obtain ⟨za, zl, zc⟩ := z
  obtain ⟨sa, sl, sc⟩ := s
  simp only at hx hy hz hp bx b_y bz bs
  obtain ⟨i0, hi0, hz0, hz1, hz2⟩ := info_parts Bol.infoBool
  obtain ⟨j0, hj0, hy0, hy1, hy2⟩ := info_parts Bol.infoSlB
  have HB := Lib.hid (below_box w (.cells #[.slice xa xl xc, .slice ya yl yc, .slice za zl zc] 25))
  have HX := Lib.hid (AtA.box w (.slice xa xl xc) (.slice ya yl yc) (.slice za zl zc) 25)
  have hsz : (w.alloc (.cells #[.slice xa xl xc, .slice ya yl yc, .slice za zl zc] 25)).heap.size = w.heap.size + 1 := by simp
  have HA := Lib.hid (And.intro (hx.next HB.out) (And.intro (hy.next HB.out) (And.intro (hz.next HB.out) (hp.next HB.out))))
  clear hx hy hz hp
  generalize hu0 : w.alloc (.cells #[.slice xa xl xc, .slice ya yl yc, .slice za zl zc] 25) = u0 at *
  have HC := Lib.hid (fun (u : World) (hu : Below u0.heap.size u0 u) => l11SizeC ⟨xa, xl, xc⟩ ⟨ya, yl, yc⟩ ⟨za, zl, zc⟩ ls lo hi step u (HA.out.1.next hu) (HA.out.2.1.next hu) (HA.out.2.2.1.next hu) bx b_y bz)
  have HSV := Lib.hid (fun (u : World) (hu : Below u0.heap.size u0 u) => specSceneValid sa sl sc pss u (HA.out.2.2.2.next hu) bs)
  have HF0 : Hid (∀ T, FSt u0.heap.size T 0 0 (.slice (some ⟨w.heap.size + 1, 0, none⟩) 0 0) (.slice none 0 0) (u0.alloc (.cells #[] 34))) := Lib.hid fun T => (congrArg (fun q => FSt u0.heap.size T 0 0 (.slice (some ⟨q, 0, none⟩) 0 0) (.slice none 0 0) (u0.alloc (.cells #[] 34))) hsz).mp (FSt.start u0 _ T (Nat.le_refl _) _ rfl)
  have HB1 := Lib.hid (below_box u0 (.cells #[] 34))
  by_cases hs : scnV pss
  rotate_left
  · have HT : Hid (freeT ls lo hi step pss = []) := Lib.hid (freeT_out fun h => hs h.2)
    rw [decide_eq_false hs] at HSV
    clear hs
    go_enter Tryd.func7, Tryd.ntmps7
    go_upto_region 1 with fail
    go_upto_region 2 with fail
    have HX1 := Lib.hid (HX.out.next HB1.out)
    generalize u0.alloc (.cells #[] 34) = u1 at *
    obtain ⟨_, c0, c1, c2, _, _, _⟩ := id HX1.out
    go_wp2_with fail
    refine (HC.out u1 HB1.out).mono ?_
    rintro e w2 ⟨rfl, B2⟩
    have HB2 := Lib.hid (below_call HB1.out B2)
    have HF2 := Lib.hid ((HF0.out []).next B2)
    clear B2 c0 c1 c2 HF0
    go_wp2_with fail
    refine (HSV.out w2 HB2.out).mono ?_
    rintro e w3 ⟨rfl, B3⟩
    have HB3 := Lib.hid (below_call HB.out (below_call HB2.out B3))
    have HF3 := Lib.hid (HF2.out.next B3)
    clear B3 HF2
    go_wp2
    go_ret
    rw [HT.out]
    exact HF3.out.said rfl (fun i hi => by omega) HB3.out
  rw [decide_eq_true hs] at HSV
  have hxy : ∃ X Y : Nat, gridX ls lo hi step = (X : Int) ∧ gridY ls lo hi step = (Y : Int) ∧ (freeT ls lo hi step pss).length = X ∧ (∀ i, i < X → ((freeT ls lo hi step pss).getD i []).length = Y) ∧ X ≤ 20 ∧ Y ≤ 20 ∧ ∀ i j : Nat, i < X → j < Y → yl = 2 ∧ okJoints ls lo hi (angL lo step ((i : Int), (j : Int))) ∧ ((freeT ls lo hi step pss).getD i []).getD j false = decide (clrV pss (ptsL ls (angL lo step ((i : Int), (j : Int))))) ∧ (0 ≤ (i : Int) * step ∧ (i : Int) * step ≤ 360 ∧ 0 ≤ (j : Int) * step ∧ (j : Int) * step ≤ 360 ∧ -180 ≤ lo.getD 0 0 ∧ lo.getD 0 0 ≤ 180 ∧ -180 ≤ lo.getD 1 0 ∧ lo.getD 1 0 ≤ 180) := by
    by_cases k : okGrid ls lo hi step
    · have hpos := grid_pos k
      rw [gridX_in k, gridY_in k] at hpos ⊢
      refine ⟨(cellsN lo hi step 0).toNat, (cellsN lo hi step 1).toNat, by omega, by omega, freeT_len ⟨k, hs⟩, fun i hi2 => ?_, by omega, by omega, fun i j hi2 hj2 => ?_⟩
      · have e := freeT_row ⟨k, hs⟩ hi2
        unfold rowB at e
        rw [e, List.length_map, List.length_range]
      · have hc : okCell ls lo hi step ((i : Int), (j : Int)) := ⟨k, by simp only; omega, by simp only; omega, by simp only; omega, by simp only; omega⟩
        have e := freeT_at ⟨k, hs⟩ hi2 hj2
        unfold rowB at e
        have a0 := arm_span k.1 (k := 0) (by have := k.2.1; omega)
        have a1 := arm_span k.1 (k := 1) (by have := k.2.1; omega)
        obtain ⟨_, c1, c2, c3, c4⟩ := id hc
        unfold cellsN at c2 c4
        have s0 := cell_span c1 c2 k.2.2.1
        have s1 := cell_span c3 c4 k.2.2.1
        simp only at s0 s1
        refine ⟨by rw [HA.out.2.1.1, k.1.2.2.1, k.2.1], cell_okJoints hc, e, by omega⟩
    · rw [gridX_out k, gridY_out k, freeT_out (fun h => k h.1)]
      exact ⟨0, 0, rfl, rfl, rfl, fun i hi => by omega, by omega, by omega, fun i j hi => by omega⟩
  obtain ⟨X, Y, hX, hY, hTL, hRL, hX20, hY20, hDEC⟩ := hxy
  rw [hX, hY] at HC
  generalize freeT ls lo hi step pss = T at *
  have HTL := Lib.hid hTL
  have HRL := Lib.hid hRL
  have HDEC := Lib.hid hDEC
  have HSC := Lib.hid hs
  clear hTL hRL hDEC hX hY hs
  have HF1 := Lib.hid (HF0.out T)
  have HX1 := Lib.hid (HX.out.next HB1.out)
  clear HF0
  go_enter Tryd.func7, Tryd.ntmps7
  go_upto_region 1 with fail
  go_upto_region 2 with fail
  clear hu0
  generalize u0.alloc (.cells #[] 34) = u1 at *
  obtain ⟨_, c0, c1, c2, _, _, _⟩ := id HX1.out
  go_wp2_with fail
  refine (HC.out u1 HB1.out).mono ?_
  rintro e w2 ⟨rfl, B2⟩
  have HB2 := Lib.hid (below_call HB1.out B2)
  have HF2 := Lib.hid (HF1.out.next B2)
  clear B2 c0 c1 c2 HX1 HF1 HC
  go_wp2_with fail
  refine (HSV.out w2 HB2.out).mono ?_
  rintro e w3 ⟨rfl, B3⟩
  have HB3 := Lib.hid (below_call HB2.out B3)
  have HF3 := Lib.hid (HF2.out.next B3)
  clear B3 HF2 HSV
  go_wp2
  go_loopw [7, 10] (fun fv iv wr => ∃ k : Nat, k ≤ X ∧ iv = .int .i64 (k : Int) ∧ Hid (FSt u0.heap.size T k 0 fv (.slice none 0 0) wr) ∧ Hid (Below u0.heap.size u0 wr)) (fun _ iv _ => X - (intOf iv).toNat)
  case atStart => exact ⟨0, Nat.zero_le _, rfl, HF3, HB3⟩
  case round =>
    obtain ⟨k, hk, rfl, HF, HW⟩ := hrel
    clear HF3 HB3 HB2
    by_cases hlt : k < X
    rotate_left
    · obtain rfl : k = X := by omega
      go_wp2
      go_ret
      exact HF.out.said HTL.out (fun i hi => by rw [HRL.out i hi]; exact hY20) (below_call HB.out HW.out)
    have hk1 : (k : Int) < (X : Int) := by omega
    have HRK := Lib.hid (HRL.out k hlt)
    have HF4 := Lib.hid (HF.out.fresh HW.out.size _ rfl)
    have HW4 := Lib.hid (below_call HW.out (below_box wr (.cells #[] 4)))
    go_upto_region 9 with fail
    clear HF HW
    generalize hR : Value.slice (some ⟨wr.heap.size, 0, none⟩) 0 0 = R at *
    generalize wr.alloc (.cells #[] 4) = w4 at *
    clear hR
    go_wp2
    go_loopw [11, 12] (fun rv iv wq => ∃ j : Nat, j ≤ Y ∧ iv = .int .i64 (j : Int) ∧ Hid (FSt u0.heap.size T k j u7 rv wq) ∧ Hid (Below u0.heap.size u0 wq)) (fun _ iv _ => Y - (intOf iv).toNat)
    case atStart => exact ⟨0, Nat.zero_le _, rfl, HF4, HW4⟩
    case round =>
      obtain ⟨j, hj, rfl, HG, HV⟩ := hrel
      clear HF4 HW4
      by_cases hjt : j < Y
      · have hj1 : (j : Int) < (Y : Int) := by omega
        obtain ⟨hyl, hok, hdec, n1, n2, n3, n4, n5, n6, n7, n8⟩ := HDEC.out k j hlt hjt
        obtain ⟨m0, hm0⟩ : ∃ m, (k : Int) * step = m := ⟨_, rfl⟩
        obtain ⟨m1, hm1⟩ : ∃ m, (j : Int) * step = m := ⟨_, rfl⟩
        have hang : angL lo step ((k : Int), (j : Int)) = [lo.getD 0 0 + m0, lo.getD 1 0 + m1] := by unfold angL; simp only; rw [hm0, hm1]
        rw [hang] at hok hdec
        rw [hm0] at n1 n2
        rw [hm1] at n3 n4
        have o1 : IntKind.i64.wrap ((k : Int) * step) = m0 := by rw [hm0]; exact wrap_in (by omega) (by omega)
        have o2 : IntKind.i64.wrap ((j : Int) * step) = m1 := by rw [hm1]; exact wrap_in (by omega) (by omega)
        have o3 : IntKind.i64.wrap (lo.getD 0 0 + m0) = lo.getD 0 0 + m0 := wrap_in (by omega) (by omega)
        have o4 : IntKind.i64.wrap (lo.getD 1 0 + m1) = lo.getD 1 0 + m1 := wrap_in (by omega) (by omega)
        obtain ⟨bq, oy, rfl, lty, ccy⟩ := HA.out.2.1.some (by omega)
        subst hyl
        have HOK := Lib.hid hok
        have HDC := Lib.hid hdec
        obtain ⟨_, x0, x1, x2, _, _, _⟩ := id HX.out
        have HK0 := Lib.hid (fun (u : World) (hu : Below u0.heap.size u0 u) => keepA11 hu (by omega) lty x0 x1 x2 (ccy 0 (by omega)) (ccy 1 (by omega)))
        clear hok hdec hang hm0 hm1 n1 n2 n3 n4 n5 n6 n7 n8 x0 x1 x2 lty ccy
        generalize lo.getD 0 0 = l0 at *
        generalize lo.getD 1 0 = l1 at *
        have HBa := Lib.hid ((HV.out.alloc HV.out.size (.cells #[.int .i64 (l0 + m0), .int .i64 (l1 + m1)] 3)).drew)
        have HFa := Lib.hid ((HG.out.next (below_box wr (.cells #[.int .i64 (l0 + m0), .int .i64 (l1 + m1)] 3))).next (Below.refl _ _).drew)
        have HIa := Lib.hid ((ints_two11 wr (l0 + m0) (l1 + m1) 3).next (Below.refl _ _).drew)
        have HCL := Lib.hid (fun (_ : Unit) => l10ClearC ⟨xa, xl, xc⟩ ⟨some ⟨bq, oy, none⟩, 2, yc⟩ ⟨za, zl, zc⟩ ⟨some ⟨wr.heap.size, 0, none⟩, 2, 2⟩ ⟨sa, sl, sc⟩ ls lo hi [l0 + m0, l1 + m1] pss _ (HA.out.1.next HBa.out) HIa.out HOK.out (HA.out.2.2.2.next HBa.out) HSC.out)
        have HBw := Lib.hid HV.out.drew
        rw [← HDC.out] at HCL
        obtain ⟨F, hFe⟩ : ∃ F, (T.getD k []).getD j false = F := ⟨_, rfl⟩
        rw [hFe] at HCL
        have HFE := Lib.hid hFe
        clear hFe HDC HOK
        go_upto_region 12 with fail
        go_region_held3 (fun u => u.cell? ⟨w.heap.size, 0, none⟩ = some (.slice xa xl xc) ∧ u.cell? ⟨w.heap.size, 1, none⟩ = some (.slice (some ⟨bq, oy, none⟩) 2 yc) ∧ u.cell? ⟨w.heap.size, 2, none⟩ = some (.slice za zl zc) ∧ u.cell? ⟨bq, oy, none⟩ = some (.int .i64 l0) ∧ u.cell? ⟨bq, oy + 1, none⟩ = some (.int .i64 l1)) (first | exact HK0.out _ HBw.out | exact HK0.out _ HBa.out | exact HK0.out _ HB9.out | exact HK0.out _ HB10.out | exact HK0.out _ HB11.out) (first
          | (go_at_call 33
             refine (HCL.out ()).mono ?_
             rintro e w9 ⟨rfl, K9⟩
             have HB9 := Lib.hid (below_call HBa.out K9)
             have HF9 := Lib.hid (HFa.out.next K9)
             have HB10 := Lib.hid (HB9.out.alloc HB9.out.size (.cells #[.bool F] 4))
             have HF10 := Lib.hid (HF9.out.next (below_box w9 (.cells #[.bool F] 4)))
             have HN10 := Lib.hid (cell_one_new w9 (.bool F) 4))
          | (refine step_append_lies _ rfl (.tmp 35) (.tmp 56) 34 rfl u0.heap.size 4 i0 (.bool false) 1 1 Tryd.underlying34 hi0 hz0 hz1 hz2 rfl (by decide) u11 j (Bol.vals ((T.getD k []).take j)) rfl (HF10.out.rowN HRK.out hj) ⟨w9.heap.size, 0, none⟩ 1 1 [.bool F] rfl rfl HN10.out (by intro u hu; simp at hu; subst hu; rfl) (by omega) (by unfold maxLen; omega) (by omega) HB10.out.size _ rfl ?_
             intro g7 cap7 w7 own7 grow7 at7 ltg7
             have HB11 := Lib.hid (HB10.out.grown grow7 HB10.out.size (fun q hq => (World.ownsRow.lt HF10.out.row q hq).1))
             have HF11 := Lib.hid (HF10.out.app HRK.out hjt (by rw [HFE.out]; exact own7) grow7 at7)
             clear own7 grow7 at7 ltg7))
        have HNX := Lib.hid (And.intro HF11.out HB11.out)
        clear HF11 HB11 HB10 HF10 HN10 HF9 HB9 K9 HCL HIa HFa HBa HBw HK0 HFE o1 o2 o3 o4
        go_wp2
        go_roundw
        case rel => exact ⟨j + 1, by omega, by congr 1, Lib.hid HNX.out.1, Lib.hid HNX.out.2⟩
        case measure => simp [intOf]; omega
      · obtain rfl : j = Y := by omega
        obtain ⟨⟨ra, rl, rc⟩, rfl, _⟩ := Bol.OwnB.sl10 HG.out.row
        obtain ⟨vs, h1, h2⟩ := HG.out.ex
        have hvl : vs.length = k := by have := h1.1; simpa using this
        have HVL := Lib.hid hvl
        have Bl := below_box wr (.cells #[(.slice ra rl rc)] 34)
        have HFb := Lib.hid (HG.out.next Bl)
        have HBb := Lib.hid (HV.out.alloc HV.out.size (.cells #[(.slice ra rl rc)] 34))
        have HVS := Lib.hid (rowAway h1 (Below.grownN Bl) (fun k e => by cases e))
        have HVI := Lib.hid (fun i (hi : i < k) => show ∃ s : Sl, vs[i]? = some (.slice s.a s.len s.cap) ∧ Bol.OwnB (wr.alloc (.cells #[(.slice ra rl rc)] 34)) u0.heap.size (.slice s.a s.len s.cap) (T.getD i []) ∧ ∀ q, (Value.slice s.a s.len s.cap).ownBlock = some q → u7.ownBlock ≠ some q ∧ (Value.slice ra rl rc).ownBlock ≠ some q from by
          obtain ⟨s, e1, e2, e3⟩ := h2 i hi
          exact ⟨s, e1, e2.next Bl, e3⟩)
        have HNb := Lib.hid (cell_one_new wr (.slice ra rl rc) 34)
        have HO1 : Hid ((Value.slice ra rl rc).oneCell' = true) := Lib.hid rfl
        clear h1 h2 Bl HG HV hvl
        go_wp2_with (at_builtin; refine wpList_append_lies _ rfl (.tmp 58) (.tmp 60) 29 rfl u0.heap.size 34 j0 (.slice none 0 0) 1 24 Tryd.underlying29 hj0 hy0 hy1 hy2 rfl (by decide) u7 k vs rfl HVS.out ⟨wr.heap.size, 0, none⟩ 1 1 [(.slice ra rl rc)] rfl rfl HNb.out (by intro u hu; simp at hu; subst hu; exact HO1.out) (by omega) (by unfold maxLen; omega) (by omega) HBb.out.size _ rfl ?_; intro g7 cap7 w7 own7 grow7 at7 ltg7; have HNX := Lib.hid (And.intro (HFb.out.push HRK.out HVI.out HVL.out own7 grow7 at7) (HBb.out.grown grow7 HBb.out.size (fun q hq => (World.ownsRow.lt HVS.out q hq).1))); clear own7 grow7 at7 ltg7)
        clear HFb HBb HVS HVI HNb HO1 HVL
        go_wp2
        go_roundw
        case rel =>
          first
            | exact ⟨k + 1, by omega, by congr 1, Lib.hid HNX.out.1, Lib.hid HNX.out.2⟩
            | ((repeat apply Exists.intro)
               refine ⟨?_, rfl⟩
               exact ⟨k + 1, by omega, by congr 1, Lib.hid HNX.out.1, Lib.hid HNX.out.2⟩)
        case measure => simp [intOf]; omega
end Go.Proofs.YtkogoflcacameaaDoor
