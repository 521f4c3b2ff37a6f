/- The program's FreeCells. -/
import Derived.Test.YtkogoflcacameaaDoorFr11
import Derived.Test.YtkogoflcacameaaDoorZc11b
import Derived.Test.YtkogoflcacameaaDoorZb10c
import Derived.Test.YtkogoflcacameaaDoorZc11g
import Derived.Test.YtkogoflcacameaaDoorSc10
namespace Go.Proofs.YtkogoflcacameaaDoor
set_option maxRecDepth 100000
open Go.RowKit
attribute [local go_sem ↓] Go.wp_at_zero Go.wp_at_succ
theorem freeT_dec {ls lo hi : List Int} {step : Int} {pss : List (List P2)} (h : okGrid ls lo hi step ∧ scnV pss) {i j : Nat} (hi2 : i < (cellsN lo hi step 0).toNat) (hj : j < (cellsN lo hi step 1).toNat) :
    okCell ls lo hi step ((i : Int), (j : Int)) ∧ decide (okRow ls lo hi pss (angL lo step ((i : Int), (j : Int)))) = ((freeT ls lo hi step pss).getD i []).getD j false := by
  have hc : okCell ls lo hi step ((i : Int), (j : Int)) := ⟨h.1, by simp only; omega, by simp only; omega, by simp only; omega, by simp only; omega⟩
  refine ⟨hc, ?_⟩
  have e := freeT_at h hi2 hj
  unfold rowB at e
  rw [e, Bool.eq_iff_iff, decide_eq_true_iff, @decide_eq_true_iff _ (Classical.propDecidable _)]
  exact ⟨fun k => k.2, fun k => ⟨cell_okJoints hc, k⟩⟩
theorem freeT_rl {ls lo hi : List Int} {step : Int} {pss : List (List P2)} (h : okGrid ls lo hi step ∧ scnV pss) {i : Nat} (hi2 : i < (cellsN lo hi step 0).toNat) : ((freeT ls lo hi step pss).getD i []).length = (cellsN lo hi step 1).toNat := by
  have e := freeT_row h hi2
  unfold rowB at e
  rw [e, List.length_map, List.length_range]
/-- Whatever is written into another block leaves the rows. -/
theorem Bol.RowsM.away {u u' : World} {g len k c : Nat} {T : List (List Bool)} {vs : List Value} {bk : Nat → Nat} (h : Bol.RowsM u g len k T vs bk) (hg : u.grownBy u' (some c)) (hc : c ≠ g) (hb : ∀ i, i < k → bk i ≠ c) : Bol.RowsM u' g len k T vs bk :=
  ⟨World.ownsRow.kept h.own hg (.inr (by simp [Value.ownBlock]; omega)), h.val, fun i hi => Bol.OwnB.away (h.row i hi) hg (fun q e q2 => by injection e with e; subst e; exact hb i hi (Option.some.inj q2)), h.gt, fun i hi => Nat.lt_of_lt_of_le (h.lt i hi) hg.size, h.inc⟩
/-- What the loop over the rows holds. -/
def LoopF11 (U : World) (X k : Nat) (T : List (List Bool)) (wr : World) : Prop := ∃ vs bk, Bol.RowsM wr U.heap.size X k T vs bk ∧ Below U.heap.size U wr
/-- What the loop over a row's cells holds. -/
structure LoopG11 (U : World) (X Y k j c : Nat) (T : List (List Bool)) (wr : World) : Prop where
  ex : ∃ vs bk, Bol.RowsM wr U.heap.size X k T vs bk ∧ vs[k]? = some (.slice (some ⟨c, 0, none⟩) Y Y) ∧ ∀ i, i < k → bk i < c
  row : wr.ownsRow (U.heap.size + 1) 4 1 (.slice (some ⟨c, 0, none⟩) Y Y) Y (Bol.part (fun i => (T.getD k []).getD i false) (List.replicate Y false) j)
  gt : U.heap.size < c
  old : Below U.heap.size U wr
theorem LoopG11.next {U u u' : World} {X Y k j c : Nat} {T : List (List Bool)} (h : LoopG11 U X Y k j c T u) (hb : Below u.heap.size u u') : LoopG11 U X Y k j c T u' := by
  obtain ⟨vs, bk, h1, h2, h3⟩ := h.ex
  exact ⟨⟨vs, bk, h1.next hb, h2, h3⟩, World.ownsRow.kept (row := none) h.row ⟨hb.os, hb.tape, hb.output, hb.size, fun k hk _ => hb.block k hk⟩ (.inr (by simp [Value.ownBlock])), h.gt, below_call h.old hb⟩
theorem LoopG11.put {U u : World} {X Y k j c : Nat} {T : List (List Bool)} (h : LoopG11 U X Y k j c T u) (hl : (T.getD k []).length = Y) : LoopG11 U X Y k (j + 1) c T (u.setCell ⟨c, j, none⟩ (.bool ((T.getD k []).getD j false))) := by
  obtain ⟨vs, bk, h1, h2, h3⟩ := h.ex
  have st := h.row.stored j (.bool ((T.getD k []).getD j false))
  have e := Bol.part_set (fun i => (T.getD k []).getD i false) (List.replicate Y false) j
  rw [e] at st
  have hg := h.gt
  exact ⟨⟨vs, bk, h1.away st.2 (by omega) (fun i hi => by have := h3 i hi; omega), h2, h3⟩, st.1, h.gt, h.old.grown st.2 h.old.size (fun q hq => by injection hq with hq; omega)⟩
theorem LoopG11.start {U u u' : World} {X Y k c : Nat} {T : List (List Bool)} {vs : List Value} {bk : Nat → Nat} (h : Bol.RowsM u U.heap.size X k T vs bk) (hb : Below U.heap.size U u) (hk : k < X) (hg : u.grownBy u' none) (hc : c = u.heap.size) (own : u'.ownsRow (U.heap.size + 1) 4 1 (.slice (some ⟨c, 0, none⟩) Y Y) Y (madeCells (Value.bool false).cells (Y * 1)).toList) :
    LoopG11 U X Y k 0 c T (u'.setCell ⟨U.heap.size, k, none⟩ (.slice (some ⟨c, 0, none⟩) Y Y)) := by
  have hbu : Below u.heap.size u u' := (Below.refl _ _).grown hg (Nat.le_refl _) (fun k hk => by cases hk)
  have h' := h.next hbu
  have st := h'.own.stored k (.slice (some ⟨c, 0, none⟩) Y Y)
  have hlt := World.ownsRow.lt h.own U.heap.size rfl
  have hvl : vs.length = X := by have := h.own.1; simpa using this
  have hlen : c < u'.heap.size := (World.ownsRow.lt own c rfl).2
  refine ⟨⟨vs.set k (.slice (some ⟨c, 0, none⟩) Y Y), bk, ⟨st.1, fun i hi => ?_, fun i hi => Bol.OwnB.away (h'.row i hi) st.2 (fun q e q2 => ?_), h'.gt, fun i hi => Nat.lt_of_lt_of_le (h'.lt i hi) st.2.size, h'.inc⟩, ?_, fun i hi => by have := h.lt i hi; omega⟩, ?_, by omega, ?_⟩
  · rw [List.getElem?_set_ne (by omega)]; exact h'.val i hi
  · injection e with e
    have e2 : bk i = q := Option.some.inj q2
    have := h'.gt i hi
    omega
  · rw [List.getElem?_set_self (by omega)]
  · have o := World.ownsRow.kept own st.2 (.inr (by simp [Value.ownBlock]; omega))
    rw [Bol.made_zero Y (fun i => (T.getD k []).getD i false)] at o
    exact o
  · exact (below_call hb hbu).grown st.2 (below_call hb hbu).size (fun q hq => by injection hq with hq; omega)
theorem LoopG11.done {U u : World} {X Y k c : Nat} {T : List (List Bool)} (h : LoopG11 U X Y k Y c T u) (hl : (T.getD k []).length = Y) (hk : k < X) : LoopF11 U X (k + 1) T u := by
  obtain ⟨vs, bk, h1, h2, h3⟩ := h.ex
  have hc := World.ownsRow.lt h.row c rfl
  have hrow : Bol.OwnB u (U.heap.size + 1) (.slice (some ⟨c, 0, none⟩) Y Y) (T.getD k []) := by
    have e := Bol.part_all (fun i => (T.getD k []).getD i false) (List.replicate Y false) (T.getD k []) (by rw [List.length_replicate]; exact hl) (fun _ _ => rfl)
    rw [List.length_replicate] at e
    unfold Bol.OwnB
    rw [hl, ← e]
    exact h.row
  refine ⟨vs, fun i => if i = k then c else bk i, ⟨h1.own, fun i hi => ?_, fun i hi => ?_, fun i hi => ?_, fun i hi => ?_, fun i j hij hj => ?_⟩, h.old⟩
  · by_cases e : i = k
    · subst e; rw [if_pos rfl, h2]; unfold Bol.rl; rw [hl]
    · rw [if_neg e]; exact h1.val i (by omega)
  · by_cases e : i = k
    · subst e; rw [if_pos rfl]; unfold Bol.rl; rw [hl]; exact hrow
    · rw [if_neg e]; exact h1.row i (by omega)
  · by_cases e : i = k
    · subst e; rw [if_pos rfl]; exact h.gt
    · rw [if_neg e]; exact h1.gt i (by omega)
  · by_cases e : i = k
    · subst e; rw [if_pos rfl]; exact hc.2
    · rw [if_neg e]; exact h1.lt i (by omega)
  · rw [if_neg (show i ≠ k by omega)]
    by_cases e : j = k
    · subst e; rw [if_pos rfl]; exact h3 i (by omega)
    · rw [if_neg e]; exact h1.inc i j hij (by omega)
theorem keepF11 {w u : World} {g c k : Nat} {a b d e v : Value} (h : Below w.heap.size w u) (hg : g < w.heap.size) (hc : c < w.heap.size) (h0 : w.cell? ⟨g, 0, none⟩ = some a) (h1 : w.cell? ⟨g, 1, none⟩ = some b) (h2 : w.cell? ⟨g, 2, none⟩ = some d) (h3 : w.cell? ⟨g, 3, none⟩ = some e) (h4 : w.cell? ⟨c, k, none⟩ = some v) :
    u.cell? ⟨g, 0, none⟩ = some a ∧ u.cell? ⟨g, 1, none⟩ = some b ∧ u.cell? ⟨g, 2, none⟩ = some d ∧ u.cell? ⟨g, 3, none⟩ = some e ∧ u.cell? ⟨c, k, none⟩ = some v :=
  ⟨(h.cell (p := ⟨g, 0, none⟩) hg).trans h0, (h.cell (p := ⟨g, 1, none⟩) hg).trans h1, (h.cell (p := ⟨g, 2, none⟩) hg).trans h2, (h.cell (p := ⟨g, 3, none⟩) hg).trans h3, (h.cell (p := ⟨c, k, none⟩) hc).trans h4⟩
theorem keepFS11 {w u : World} {g c k C j : Nat} {a b d e v x : Value} (h : Below w.heap.size w u) (hg : g < w.heap.size) (hc : c < w.heap.size) (h0 : w.cell? ⟨g, 0, none⟩ = some a) (h1 : w.cell? ⟨g, 1, none⟩ = some b) (h2 : w.cell? ⟨g, 2, none⟩ = some d) (h3 : w.cell? ⟨g, 3, none⟩ = some e) (h4 : w.cell? ⟨c, k, none⟩ = some v) (n1 : C ≠ g) (n2 : C ≠ c) :
    (u.setCell ⟨C, j, none⟩ x).cell? ⟨g, 0, none⟩ = some a ∧ (u.setCell ⟨C, j, none⟩ x).cell? ⟨g, 1, none⟩ = some b ∧ (u.setCell ⟨C, j, none⟩ x).cell? ⟨g, 2, none⟩ = some d ∧ (u.setCell ⟨C, j, none⟩ x).cell? ⟨g, 3, none⟩ = some e ∧ (u.setCell ⟨C, j, none⟩ x).cell? ⟨c, k, none⟩ = some v := by
  obtain ⟨k0, k1, k2, k3, k4⟩ := keepF11 h hg hc h0 h1 h2 h3 h4
  exact ⟨(World.cell?_setCell_far _ _ _ _ n1).trans k0, (World.cell?_setCell_far _ _ _ _ n1).trans k1, (World.cell?_setCell_far _ _ _ _ n1).trans k2, (World.cell?_setCell_far _ _ _ _ n1).trans k3, (World.cell?_setCell_far _ _ _ _ n2).trans k4⟩
/-- What the program's FreeCells says. -/
def GotF (ls lo hi : List Int) (step : Int) (pss : List (List P2)) (w : World) (e : Ending) (w' : World) : Prop :=
  Below w.heap.size w w' ∧ ((¬ (okGrid ls lo hi step ∧ scnV pss) ∧ e = .returned (.slice none 0 0)) ∨ ((okGrid ls lo hi step ∧ scnV pss) ∧ ∃ g vs bk, e = .returned (.slice (some ⟨g, 0, none⟩) (cellsN lo hi step 0).toNat (cellsN lo hi step 0).toNat) ∧ w.heap.size ≤ g ∧ Bol.RowsM w' g (cellsN lo hi step 0).toNat (cellsN lo hi step 0).toNat (freeT ls lo hi step pss) vs bk))
set_option maxHeartbeats 8000000 in
theorem implFreeCells (x y z s : Sl) (ls lo hi : List Int) (step : Int) (pss : List (List P2)) (w : World) (ht : TabAt w) (hx : IntsAt w x.a x.len ls) (hy : IntsAt w y.a y.len lo) (hz : IntsAt w z.a z.len hi) (hp : PSS w s.a s.len pss) (bx : x.len ≤ 9223372036854775807) (b_y : y.len ≤ 9223372036854775807) (bz : z.len ≤ 9223372036854775807) (bs : s.len ≤ 9223372036854775807) :
    Calls Tryd.prog 6 #[av x y z, .int .i64 step, .slice s.a s.len s.cap] w (GotF ls lo hi step pss w) := by
  obtain ⟨i0, hi0, hz0, hz1, hz2⟩ := info_parts Bol.infoBool
  obtain ⟨j0, hj0, hy0, hy1, hy2⟩ := info_parts Bol.infoSlB
  obtain ⟨xa, xl, xc⟩ := x
  obtain ⟨ya, yl, yc⟩ := y
  obtain ⟨za, zl, zc⟩ := z
  obtain ⟨sa, sl, sc⟩ := s
  simp only at hx hy hz hp bx b_y bz bs
  have HB := Lib.hid (below_box w (.cells #[.slice xa xl xc, .slice ya yl yc, .slice za zl zc] 25))
  have HX := Lib.hid (AtA.box w (.slice xa xl xc) (.slice ya yl yc) (.slice za zl zc) 25)
  have HC := Lib.hid (gridOfC ⟨xa, xl, xc⟩ ⟨ya, yl, yc⟩ ⟨za, zl, zc⟩ ls lo hi step _ (hx.next HB.out) (hy.next HB.out) (hz.next HB.out) bx b_y bz)
  have HP := Lib.hid (hp.next HB.out)
  have HT := Lib.hid (ht.below HB.out ht.lt)
  clear hx hy hz hp ht
  go_enter Tryd.func6, Tryd.ntmps6
  go_upto_region 1 with fail
  generalize w.alloc (.cells #[.slice xa xl xc, .slice ya yl yc, .slice za zl zc] 25) = w1 at *
  obtain ⟨_, c0, c1, c2, _, _, _⟩ := id HX.out
  go_wp2_with fail
  refine HC.out.mono ?_
  clear HC c0 c1 c2 HX
  rintro e w2 ⟨B2, ⟨hok, b, rfl, hch⟩ | ⟨hok, rfl⟩⟩
  rotate_left
  · have R3 := Blk.new w2 #[.slice none 0 0, .int .i64 0, .int .i64 0, .int .i64 0] 61
    have HB3 := Lib.hid (below_call (below_call HB.out B2) (below_box w2 (.cells #[.slice none 0 0, .int .i64 0, .int .i64 0, .int .i64 0] 61)))
    go_upto_region 2 with fail
    generalize w2.alloc (.cells #[.slice none 0 0, .int .i64 0, .int .i64 0, .int .i64 0] 61) = w3 at *
    have q2 := R3.cell 2 rfl
    go_wp2_with fail
    go_ret
    exact ⟨HB3.out, .inl ⟨fun k => hok k.1, rfl⟩⟩
  have R3 := Blk.new w2 #[.slice (some ⟨b, 0, none⟩) 2 2, .int .i64 step, .int .i64 (cellsN lo hi step 0), .int .i64 (cellsN lo hi step 1)] 61
  have B3 := below_box w2 (.cells #[.slice (some ⟨b, 0, none⟩) 2 2, .int .i64 step, .int .i64 (cellsN lo hi step 0), .int .i64 (cellsN lo hi step 1)] 61)
  have HB3 := Lib.hid (below_call (below_call HB.out B2) B3)
  have HCH3 := Lib.hid (hch.next B3)
  have HP3 := Lib.hid ((HP.out.next B2).next B3)
  have HT3 := Lib.hid ((HT.out.below B2 HT.out.lt).below B3 (HT.out.below B2 HT.out.lt).lt)
  have HOK := Lib.hid hok
  have hpos := grid_pos hok
  rw [gridX_in hok, gridY_in hok] at hpos
  obtain ⟨X, hX⟩ : ∃ X : Nat, cellsN lo hi step 0 = (X : Int) := ⟨(cellsN lo hi step 0).toNat, by omega⟩
  obtain ⟨Y, hY⟩ : ∃ Y : Nat, cellsN lo hi step 1 = (Y : Int) := ⟨(cellsN lo hi step 1).toNat, by omega⟩
  rw [hX, hY] at R3 HB3 HCH3 HP3 HT3 hpos
  have HXY := Lib.hid (And.intro (show (cellsN lo hi step 0).toNat = X by omega) (show (cellsN lo hi step 1).toNat = Y by omega))
  obtain ⟨G, hG⟩ : ∃ G, w2.heap.size = G := ⟨_, rfl⟩
  rw [hG] at R3
  rw [hX, hY]
  clear hX hY hok hch B2 B3 HB HP HT
  go_upto_region 2 with fail
  clear hG
  generalize w2.alloc (.cells #[.slice (some ⟨b, 0, none⟩) 2 2, .int .i64 step, .int .i64 (X : Int), .int .i64 (Y : Int)] 61) = w3 at *
  have q2 := R3.cell 2 rfl
  have eX : ((X : Int) == 0) = false := by simp; omega
  go_wp2_with fail
  refine (implSceneValid sa sl sc pss _ HP3.out bs).mono ?_
  rintro e w4 ⟨rfl, B4⟩
  have R4 := R3.next B4
  have HB4 := Lib.hid (below_call HB3.out B4)
  have HCH4 := Lib.hid (HCH3.out.next B4)
  have HP4 := Lib.hid (HP3.out.next B4)
  have HT4 := Lib.hid (HT3.out.below B4 HT3.out.lt)
  clear R3 HB3 HCH3 HP3 HT3 B4 q2
  by_cases hv : scnV pss
  rotate_left
  · rw [decide_eq_false hv]
    have HN := Lib.hid (show ¬ (okGrid ls lo hi step ∧ scnV pss) from fun k => hv k.2)
    clear hv
    go_wp2_with fail
    go_ret
    exact ⟨HB4.out, .inl ⟨HN.out, rfl⟩⟩
  rw [decide_eq_true hv]
  have HKK := Lib.hid (show okGrid ls lo hi step ∧ scnV pss from ⟨HOK.out, hv⟩)
  have q2 := R4.cell 2 rfl
  have hX20 : X ≤ 20 := by omega
  have hY20 : Y ≤ 20 := by omega
  have hX1 : 1 ≤ X := by omega
  have HTL := Lib.hid (show (freeT ls lo hi step pss).length = X by rw [freeT_len HKK.out]; exact HXY.out.1)
  have HRL := Lib.hid (fun i (hi' : i < X) => show ((freeT ls lo hi step pss).getD i []).length = Y from (freeT_rl HKK.out (by rw [HXY.out.1]; exact hi')).trans HXY.out.2)
  have HDEC := Lib.hid (fun i j (hi' : i < X) (hj : j < Y) => freeT_dec HKK.out (i := i) (j := j) (by rw [HXY.out.1]; exact hi') (by rw [HXY.out.2]; exact hj))
  obtain ⟨T, hTT⟩ : ∃ T, freeT ls lo hi step pss = T := ⟨_, rfl⟩
  rw [hTT] at HTL HRL HDEC
  have HTT := Lib.hid hTT
  clear hv eX hTT HOK
  go_wp2_with (first
    | (at_make; refine wpList_make_full _ rfl _ _ 29 rfl w4.heap.size 34 j0 (.slice none 0 0) 1 Tryd.underlying29 hj0 hy0 hy1 .i64 .i64 _ _ X rfl rfl (by omega) (by omega) (by rw [hy2]; omega) (by unfold maxLen; omega) (Nat.le_refl _) ?_; intro w5 own5 grow5))
  have HL0 : Hid (LoopF11 w4 X 0 T w5) := Lib.hid ⟨_, fun _ => 0, ⟨own5, fun i hi => by omega, fun i hi => by omega, fun i hi => by omega, fun i hi => by omega, fun i j _ hj => by omega⟩, (Below.refl _ _).grown grow5 (Nat.le_refl _) (fun k hk => by cases hk)⟩
  clear own5 grow5 q2
  go_loopw [27] (fun i wr => ∃ k : Nat, k ≤ X ∧ i = .int .i64 (k : Int) ∧ Hid (LoopF11 w4 X k T wr)) (fun i _ => X - (intOf i).toNat)
  case atStart => exact ⟨0, Nat.zero_le _, rfl, HL0⟩
  case round =>
    obtain ⟨k, hk, rfl, HS⟩ := hrel
    clear HL0
    by_cases hlt : k < X
    · obtain ⟨vs, bk, hM, hb⟩ := HS.out
      have hk1 : (k : Int) < (X : Int) := by omega
      have hk0 : (0 : Int) ≤ (k : Int) := by omega
      have R5 := R4.next hb
      have q3 := R5.cell 3 rfl
      have hvl : vs.length = X := by have := hM.own.1; simpa using this
      have HR1 := Lib.hid (fun (w' : World) (hg : wr.grownBy w' none) => show ∃ v0, w'.cell? ⟨w4.heap.size, k, none⟩ = some v0 ∧ w'.frozen? ⟨w4.heap.size, k, none⟩ = false from by
        have h' := hM.next ((Below.refl _ _).grown hg (Nat.le_refl _) (fun k hk => by cases hk))
        have r1 := h'.own.cellAt k (by omega)
        rw [List.getElem?_eq_getElem (by omega)] at r1
        exact ⟨_, r1, h'.own.frozenAt k⟩)
      have HG0 := Lib.hid (fun (w' : World) (hg : wr.grownBy w' none) own => LoopG11.start (Y := Y) (c := wr.heap.size) hM hb hlt hg rfl own)
      have hgs : w4.heap.size + 1 ≤ wr.heap.size := (World.ownsRow.lt hM.own w4.heap.size rfl).2
      have HGS := Lib.hid hgs
      clear HS hM hb R5 hvl hgs
      go_upto_region 9 with (at_make; refine wpList_make_full _ rfl _ _ 34 rfl (w4.heap.size + 1) 4 i0 (.bool false) 1 Tryd.underlying34 hi0 hz0 hz1 .i64 .i64 _ _ Y rfl rfl (by omega) (by omega) (by rw [hz2]; omega) (by unfold maxLen; omega) HGS.out ?_; intro w6 own6 grow6; have HA6 := Lib.hid (HG0.out w6 grow6 own6); obtain ⟨v0, e0, e1⟩ := HR1.out w6 grow6; clear own6 grow6)
      obtain ⟨C, hC⟩ : ∃ C, wr.heap.size = C := ⟨_, rfl⟩
      rw [hC] at HA6 ⊢
      clear hC
      generalize w6.setCell ⟨w4.heap.size, k, none⟩ (.slice (some ⟨C, 0, none⟩) Y Y) = w8 at *
      clear e0 e1 HR1 HG0 HGS q3
      have hl2 : ls.length = 2 := HKK.out.1.2.1
      have HRLK := Lib.hid (HRL.out k hlt)
      obtain ⟨vs1, bk1, hM1, hv1, _⟩ := HA6.out.ex
      have r0 : w8.cell? ⟨w4.heap.size, k, none⟩ = some (.slice (some ⟨C, 0, none⟩) Y Y) := (hM1.own.cellAt k (by omega)).trans hv1
      clear hM1 hv1
      go_wp2
      go_loopw [41] (fun i wq => ∃ j : Nat, j ≤ Y ∧ i = .int .i64 (j : Int) ∧ Hid (LoopG11 w4 X Y k j C T wq)) (fun i _ => Y - (intOf i).toNat)
      case atStart => exact ⟨0, Nat.zero_le _, rfl, HA6⟩
      case round =>
        obtain ⟨j, hj, rfl, HQ⟩ := hrel
        clear HA6 r0
        by_cases hjt : j < Y
        · obtain ⟨vs1, bk1, hM1, hv1, _⟩ := HQ.out.ex
          have r0 : wr.cell? ⟨w4.heap.size, k, none⟩ = some (.slice (some ⟨C, 0, none⟩) Y Y) := (hM1.own.cellAt k (by omega)).trans hv1
          have hgl : w4.heap.size < wr.heap.size := (World.ownsRow.lt hM1.own w4.heap.size rfl).2
          have R5 := R4.next HQ.out.old
          have q0 := R5.cell 0 rfl
          have q1 := R5.cell 1 rfl
          have q2 := R5.cell 2 rfl
          have q3 := R5.cell 3 rfl
          have hGl : G < wr.heap.size := R5.lt
          have hjt1 : (j : Int) < (Y : Int) := by omega
          have hj0 : (0 : Int) ≤ (j : Int) := by omega
          obtain ⟨hcell, hdec⟩ := HDEC.out k j hlt hjt
          have HCHr := HCH4.out.next HQ.out.old
          have HPr := HP4.out.next HQ.out.old
          have HTr := HT4.out.below HQ.out.old HT4.out.lt
          have HJJ := Lib.hid (fun (u : World) (hu : Below wr.heap.size wr u) => show Calls Tryd.prog 30 #[gv (some ⟨b, 0, none⟩) 2 step (X : Int) (Y : Int), pt (k : Int) (j : Int)] u fun e u' => ∃ t : Sl, e = .returned (.slice t.a t.len t.cap) ∧ Hid (IntsAt u' t.a t.len (angL lo step ((k : Int), (j : Int))) ∧ t.len = 2) ∧ Below wr.heap.size wr u' from
            (gridJoints b ls lo hi step (X : Int) (Y : Int) ((k : Int), (j : Int)) u (HCHr.next hu) hcell).mono fun e u' ⟨t, he, hl, ho, hb⟩ => ⟨t, he, Lib.hid ⟨ho.ints, hl⟩, below_call hu hb⟩)
          have HCL := Lib.hid (fun (u : World) (hu : Below wr.heap.size wr u) (ta : Option Addr) (tl tc : Nat) (ht : Hid (IntsAt u ta tl (angL lo step ((k : Int), (j : Int))) ∧ tl = 2)) => show Calls Tryd.prog 29 #[.slice (some ⟨b, 0, none⟩) 2 2, .slice ta tl tc, .slice sa sl sc] u fun e u' => e = .returned (.bool ((T.getD k []).getD j false)) ∧ Below wr.heap.size wr u' from by
            have h2 := clearOf b 2 ⟨ta, tl, tc⟩ ⟨sa, sl, sc⟩ ls lo hi (angL lo step ((k : Int), (j : Int))) pss u (HTr.below hu HTr.lt) (by rw [hl2]; exact HCHr.next hu) HKK.out.1.1 ht.out.1 (by show tl ≤ _; rw [ht.out.2]; omega) (by omega) (HPr.next hu) HKK.out.2
            rw [hl2, hdec] at h2
            exact h2.mono fun e u' ⟨he, hb⟩ => ⟨he, below_call hu hb⟩)
          have hCl : C < wr.heap.size := (World.ownsRow.lt HQ.out.row C rfl).2
          have HST := Lib.hid (fun (u : World) (hu : Below wr.heap.size wr u) => show (∃ v0, u.cell? ⟨C, j, none⟩ = some v0) ∧ u.frozen? ⟨C, j, none⟩ = false ∧ LoopG11 w4 X Y k (j + 1) C T (u.setCell ⟨C, j, none⟩ (.bool ((T.getD k []).getD j false))) from by
            have h' := HQ.out.next hu
            have r1 := h'.row.cellAt j (by omega)
            rw [List.getElem?_eq_getElem (by rw [Bol.part_len, List.length_replicate]; exact hjt)] at r1
            exact ⟨⟨_, r1⟩, h'.row.frozenAt j, h'.put HRLK.out⟩)
          obtain ⟨F, hF⟩ : ∃ F, (T.getD k []).getD j false = F := ⟨_, rfl⟩
          rw [hF] at HCL HST
          have g0 : Below wr.heap.size wr wr := Below.refl _ _
          have nCg : C ≠ w4.heap.size := by have := HQ.out.gt; omega
          have nCG : C ≠ G := by have := HQ.out.gt; have := R4.lt; omega
          clear hM1 hv1 R5 hcell hdec HCHr HPr HTr HQ hF
          go_wp2
          go_region_held3 (fun u => u.cell? ⟨G, 0, none⟩ = some (.slice (some ⟨b, 0, none⟩) 2 2) ∧ u.cell? ⟨G, 1, none⟩ = some (.int .i64 step) ∧ u.cell? ⟨G, 2, none⟩ = some (.int .i64 (X : Int)) ∧ u.cell? ⟨G, 3, none⟩ = some (.int .i64 (Y : Int)) ∧ u.cell? ⟨w4.heap.size, k, none⟩ = some (.slice (some ⟨C, 0, none⟩) Y Y)) (first | exact keepFS11 K10 hGl hgl q0 q1 q2 q3 r0 nCG nCg | exact keepF11 (by repeat (first | (with_reducible assumption) | (with_reducible apply Below.drew))) hGl hgl q0 q1 q2 q3 r0) (first
            | (go_at_call 30
               (with_reducible refine (HJJ.out _ (by repeat (first | (with_reducible assumption) | (with_reducible apply Below.drew)))).mono ?_)
               rintro e w9 ⟨⟨ta, tl, tc⟩, rfl, HT9, K9⟩)
            | (go_at_call 29
               (with_reducible refine (HCL.out _ (by repeat (first | (with_reducible assumption) | (with_reducible apply Below.drew))) _ _ _ HT9).mono ?_)
               rintro e w10 ⟨rfl, K10⟩
               obtain ⟨⟨v0, x0⟩, x1, x2⟩ := HST.out w10 K10))
          have HNX := Lib.hid x2
          clear x2 x1 x0 K10 K9 HT9
          go_wp2
          go_roundw
          case rel => exact ⟨j + 1, by omega, by congr 1, HNX⟩
          case measure => simp [intOf]; omega
        · obtain rfl : j = Y := by omega
          have HLD := Lib.hid (HQ.out.done HRLK.out hlt)
          clear HQ
          go_wp2
          go_roundw
          case rel =>
            first
              | exact ⟨k + 1, by omega, by congr 1, HLD⟩
              | ((repeat apply Exists.intro)
                 refine ⟨?_, rfl⟩
                 exact ⟨k + 1, by omega, by congr 1, HLD⟩)
          case measure => simp [intOf]; omega
    · obtain rfl : k = X := by omega
      obtain ⟨vs, bk, hM, hb⟩ := HS.out
      have HF := Lib.hid (And.intro hM (below_call HB4.out hb))
      clear HS hM hb
      go_wp2
      go_ret
      refine ⟨HF.out.2, .inr ⟨HKK.out, w4.heap.size, vs, bk, by rw [HXY.out.1]; rfl, ?_, by rw [HXY.out.1, HTT.out]; exact HF.out.1⟩⟩
      exact HB4.out.size
end Go.Proofs.YtkogoflcacameaaDoor
