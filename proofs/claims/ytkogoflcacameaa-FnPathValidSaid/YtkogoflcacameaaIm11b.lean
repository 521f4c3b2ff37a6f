/- The program's queue: take, grow, add. -/
import Derived.Test.YtkogoflcacameaaSb11
import Derived.Laws.CopyRow
import Derived.Test.YtkogoflcacameaaZbFx
namespace Go.Proofs.Ytkogoflcacameaa
set_option maxRecDepth 100000
open Go.RowKit
attribute [local go_sem ↓] Go.wp_at_zero Go.wp_at_succ
/-- Nothing but the blocks v and g has changed. -/
structure Frm (v g : Nat) (w w' : World) : Prop where
  os : w'.os = w.os
  tape : w'.tape = w.tape
  output : w'.output = w.output
  size : w.heap.size ≤ w'.heap.size
  block : ∀ k, k < w.heap.size → k ≠ v → k ≠ g → w'.heap[k]? = w.heap[k]?
section
variable {v g g' B : Nat} {w w0 w1 w2 : World}
theorem Frm.of_below (h : Below w.heap.size w w1) : Frm v g w w1 := ⟨h.os, h.tape, h.output, h.size, fun k hk _ _ => h.block k hk⟩
theorem Frm.of_v (h : w.grownBy w1 (some v)) : Frm v g w w1 := ⟨h.os, h.tape, h.output, h.size, fun k hk h1 _ => h.block k hk (by simpa using h1)⟩
theorem Frm.of_g (h : w.grownBy w1 (some g)) : Frm v g w w1 := ⟨h.os, h.tape, h.output, h.size, fun k hk _ h1 => h.block k hk (by simpa using h1)⟩
theorem Frm.trans (h1 : Frm v g w w1) (h2 : Frm v g' w1 w2) (hg : g' = g ∨ w.heap.size ≤ g') : Frm v g w w2 :=
  ⟨h2.os.trans h1.os, h2.tape.trans h1.tape, h2.output.trans h1.output, Nat.le_trans h1.size h2.size, fun k hk a b => (h2.block k (Nat.lt_of_lt_of_le hk h1.size) a (by rcases hg with q | q; rw [q]; exact b; omega)).trans (h1.block k hk a b)⟩
theorem Frm.below (h : Frm v g w1 w2) (hb : Below B w0 w1) (hB : B ≤ w1.heap.size) (hv : B ≤ v) (hg : B ≤ g) : Below B w0 w2 :=
  hb.trans ⟨h.os, h.tape, h.output, h.size, fun k hk => h.block k (by omega) (by omega) (by omega)⟩
theorem Blk.frm {b : Nat} {cs : Array Value} {t : TypeId} (h : Blk w b cs t) (hf : Frm v g w w1) (h1 : b ≠ v) (h2 : b ≠ g) : Blk w1 b cs t := (hf.block b h.lt h1 h2).trans h
theorem AtP.frm {b : Nat} {x y : Int} (h : AtP w b x y) (hf : Frm v g w w1) (h1 : b ≠ v) (h2 : b ≠ g) : AtP w1 b x y :=
  have e := hf.block b h.lt h1 h2
  ⟨Nat.lt_of_lt_of_le h.lt hf.size, (World.cell?_of_block (a := ⟨b, 0, none⟩) e).trans h.c0, (World.cell?_of_block (a := ⟨b, 1, none⟩) e).trans h.c1⟩
theorem Blk.atp {b : Nat} {x y : Int} {t : TypeId} (h : Blk w b #[.int .i64 x, .int .i64 y] t) : AtP w b x y := ⟨h.lt, h.cell 0 rfl, h.cell 1 rfl⟩
theorem grown_of_below (h : Below w.heap.size w w1) : w.grownBy w1 (some v) := ⟨h.os, h.tape, h.output, h.size, fun k hk _ => h.block k hk⟩
theorem grown_set (h : w.grownBy w1 (some v)) (o : Nat) (x : Value) : w.grownBy (w1.setCell ⟨v, o, none⟩ x) (some v) :=
  ⟨h.os, h.tape, h.output, by simpa [World.setCell] using h.size, fun k hk hne => (Below.heap_setCell _ _ _ k (by simpa using fun q => hne (by rw [q]))).trans (h.block k hk hne)⟩
theorem grown_new (h : w.grownBy w1 (some v)) {b : Nat} (hb : w.heap.size ≤ b) (o : Nat) (x : Value) : w.grownBy (w1.setCell ⟨b, o, none⟩ x) (some v) :=
  ⟨h.os, h.tape, h.output, by simpa [World.setCell] using h.size, fun k hk hne => (Below.heap_setCell _ _ _ k (by show k ≠ b; omega)).trans (h.block k hk hne)⟩
end
/-- The program's queue: the cells L wait in the ring. -/
structure RQ (u : World) (v : Nat) (cs : Array Value) (L : List C2) (g : Nat) (rs : Array Value) (m fi : Nat) : Prop where
  blk : Blk u v cs 77
  size : cs.size = 811
  glt : g < u.heap.size
  rng : cs[1]? = some (if m = 0 then .slice none 0 0 else .slice (some ⟨g, 0, none⟩) m m)
  fst : cs[2]? = some (.int .i64 (fi : Int))
  cnt : cs[3]? = some (.int .i64 (L.length : Int))
  fit : L.length ≤ m
  top : m ≤ 3000
  f0 : m = 0 → fi = 0
  f1 : m ≠ 0 → fi < m
  ring : m ≠ 0 → Blk u g rs 33 ∧ rs.size = m * 2 ∧ g ≠ v
  one : ∀ (i : Nat) x, rs[i]? = some x → x.oneCell' = true
  cont : ∀ j, j < L.length → rs[((fi + j) % m) * 2]? = some (.int .i64 (L.getD j (0, 0)).1) ∧ rs[((fi + j) % m) * 2 + 1]? = some (.int .i64 (L.getD j (0, 0)).2)
theorem RQ.frm {u u' : World} {v g m fi : Nat} {cs rs : Array Value} {L : List C2} (h : RQ u v cs L g rs m fi) (hf : Below u.heap.size u u') : RQ u' v cs L g rs m fi :=
  ⟨h.blk.next hf, h.size, Nat.lt_of_lt_of_le h.glt hf.size, h.rng, h.fst, h.cnt, h.fit, h.top, h.f0, h.f1, fun q => ⟨(h.ring q).1.next hf, (h.ring q).2⟩, h.one, h.cont⟩
set_option maxHeartbeats 4000000 in
theorem queueTake (v : Nat) (cs : Array Value) (c : C2) (L : List C2) (g : Nat) (rs : Array Value) (m fi : Nat) (w : World) (h : RQ w v cs (c :: L) g rs m fi) :
    Calls Try.prog 61 #[.pointer (some ⟨v, 1, none⟩)] w fun e w' => e = .returned (pt c.1 c.2) ∧ RQ w' v ((cs.setIfInBounds 2 (.int .i64 (((fi + 1) % m : Nat) : Int))).setIfInBounds 3 (.int .i64 (L.length : Int))) L g rs m ((fi + 1) % m) ∧ w.grownBy w' (some v) := by
  have hm0 : m ≠ 0 := by have := h.fit; simp at this; omega
  obtain ⟨r1, r2, r3⟩ := h.ring hm0
  have hfi := h.f1 hm0
  have hrng := h.rng
  rw [if_neg hm0] at hrng
  have hcnt := h.cnt
  rw [List.length_cons] at hcnt
  obtain ⟨c0, c1⟩ := h.cont 0 (by simp)
  have hz0 : (fi + 0) % m = fi := by rw [Nat.add_zero]; exact Nat.mod_eq_of_lt hfi
  rw [hz0] at c0 c1
  simp only [List.getD_cons_zero] at c0 c1
  obtain ⟨f2, hf2⟩ : ∃ f2, (fi + 1) % m = f2 := ⟨_, rfl⟩
  have hf2m : f2 < m := by rw [← hf2]; exact Nat.mod_lt _ (by omega)
  have e1 : ((fi : Int) + 1) % (m : Int) = (f2 : Int) := by rw [← hf2, Int.natCast_emod]; rfl
  have e2 : ((fi : Int) + 1).tmod (m : Int) = (f2 : Int) := by rw [Int.tmod_eq_emod_of_nonneg (by omega)]; exact e1
  have z0 : ¬ (m : Int) = 0 := by omega
  have z1 : ((m : Int) == 0) = false := by simp; omega
  have hmt := h.top
  have hlm := h.fit
  simp only [List.length_cons] at hlm
  have j0 : (0 : Int) ≤ (fi : Int) := by omega
  have j1 : (fi : Int) < (m : Int) := by omega
  rw [hf2]
  have HQ : Hid (∀ u, Blk u v ((cs.setIfInBounds 2 (.int .i64 (f2 : Int))).setIfInBounds 3 (.int .i64 (L.length : Int))) 77 → Blk u g rs 33 → RQ u v ((cs.setIfInBounds 2 (.int .i64 (f2 : Int))).setIfInBounds 3 (.int .i64 (L.length : Int))) L g rs m f2) := Lib.hid fun u hb hg =>
    ⟨hb, by simp [h.size], hg.lt, by rw [Array.getElem?_setIfInBounds_ne (by omega), Array.getElem?_setIfInBounds_ne (by omega)]; exact h.rng, by rw [Array.getElem?_setIfInBounds_ne (by omega), Array.getElem?_setIfInBounds_self_of_lt (by rw [h.size]; omega)], by rw [Array.getElem?_setIfInBounds_self_of_lt (by simp [h.size])], by omega, hmt, fun q => absurd q hm0, fun _ => hf2m, fun _ => ⟨hg, r2, r3⟩, h.one, fun j hj => by
      have k := h.cont (j + 1) (by simp; omega)
      rw [show (fi + (j + 1)) % m = (f2 + j) % m by rw [← hf2, Nat.mod_add_mod]; congr 1; omega, List.getD_cons_succ] at k
      exact k⟩
  have HR := Lib.hid (Blk.new w #[.int .i64 0, .int .i64 0] 33)
  have B0 := below_box w (.cells #[.int .i64 0, .int .i64 0] 33)
  have HB := Lib.hid (And.intro (h.blk.next B0) (r1.next B0))
  have HG := Lib.hid (grown_of_below (v := v) B0)
  have HVL := Lib.hid (show v ≠ w.heap.size ∧ g ≠ w.heap.size ∧ g ≠ v ∧ v < w.heap.size from ⟨by have := h.blk.lt; omega, by have := r1.lt; omega, r3, h.blk.lt⟩)
  have HCS := Lib.hid (And.intro hrng (And.intro h.fst (And.intro hcnt (And.intro c0 (And.intro c1 h.size)))))
  clear h r1 r2 r3 hrng hcnt c0 c1 B0 hf2
  generalize L.length = n at *
  go_enter Try.func61, Try.ntmps61
  go_upto_region 1 with fail
  generalize w.alloc (.cells #[.int .i64 0, .int .i64 0] 33) = w0 at *
  have HB0 := Lib.hid HB.out
  refine wp_region_inv (fun listed act u => ∃ (l0 l1 l2 l3 l4 l5 l6 l7 l8 l9 l10 l11 : Bool) (v3 v4 v5 v6 v7 v8 v9 v10 v11 v12 v13 : Value), listed = #[l0, l1, l2, l3, l4, l5, l6, l7, l8, l9, l10, l11] ∧ act = { tmps := #[.pointer (some ⟨v, 1, none⟩), undef, .pointer (some ⟨w.heap.size, 0, none⟩), v3, v4, v5, v6, v7, v8, v9, v10, v11, v12, v13, undef, undef, undef, undef, undef, undef, undef, undef, undef, undef, undef, undef, undef, undef, undef, undef, undef, undef, undef, undef, undef, undef], defers := [] } ∧ (l0 = true → v4 = .pointer (some ⟨v, 1, none⟩)) ∧ (l1 = true → v5 = .pointer (some ⟨v, 1, none⟩)) ∧ (l2 = true → v6 = .pointer (some ⟨v, 1, none⟩)) ∧ (l3 = true → v7 = .slice (some ⟨g, 0, none⟩) m m) ∧ (l4 = true → v8 = .pointer (some ⟨v, 1, none⟩)) ∧ (l5 = true → v9 = .pointer (some ⟨v, 1, none⟩)) ∧ (l6 = true → v10 = .pointer (some ⟨v, 2, none⟩)) ∧ (l7 = true → v11 = .int .i64 (fi : Int)) ∧ (l8 = true → v12 = .pointer (some ⟨g, fi * 2, none⟩)) ∧ (l9 = true → v13 = pt c.1 c.2) ∧ (l10 = true → NewB w0.heap.size u l11 #[.int .i64 0, .int .i64 0] #[.int .i64 c.1, .int .i64 c.2] 33 v3) ∧ (l11 = true → l10 = true) ∧ Below w0.heap.size w0 u) (by kernel_rfl) ?_ ?_ ?_ ?_ ?_
  · intro j o ho
    have hj : j < 12 := by rcases Nat.lt_or_ge j 12 with h | h; exact h; rw [Array.getElem?_eq_none (by simpa using h)] at ho; cases ho
    have hj2 : j = 0 ∨ j = 1 ∨ j = 2 ∨ j = 3 ∨ j = 4 ∨ j = 5 ∨ j = 6 ∨ j = 7 ∨ j = 8 ∨ j = 9 ∨ j = 10 ∨ j = 11 := by omega
    rcases hj2 with rfl | rfl | rfl | rfl | rfl | rfl | rfl | rfl | rfl | rfl | rfl | rfl
    all_goals
      cases ho
      decide
  · rintro listed act u ⟨l0, l1, l2, l3, l4, l5, l6, l7, l8, l9, l10, l11, v3, v4, v5, v6, v7, v8, v9, v10, v11, v12, v13, rfl, _⟩
    rfl
  · exact ⟨false, false, false, false, false, false, false, false, false, false, false, false, undef, undef, undef, undef, undef, undef, undef, undef, undef, undef, undef, rfl, rfl, (by intro h; cases h), (by intro h; cases h), (by intro h; cases h), (by intro h; cases h), (by intro h; cases h), (by intro h; cases h), (by intro h; cases h), (by intro h; cases h), (by intro h; cases h), (by intro h; cases h), (by intro h; cases h), (by intro h; cases h), (Below.refl _ _).drew⟩
  · intro listed act u i o hR ho hl hd
    obtain ⟨l0, l1, l2, l3, l4, l5, l6, l7, l8, l9, l10, l11, v3, v4, v5, v6, v7, v8, v9, v10, v11, v12, v13, rfl, rfl, c0, c1, c2, c3, c4, c5, c6, c7, c8, c9, c10, c11, HB⟩ := hR
    have hi : i < 12 := by rcases Nat.lt_or_ge i 12 with h | h; exact h; rw [Array.getElem?_eq_none (by simpa using h)] at ho; cases ho
    have hi2 : i = 0 ∨ i = 1 ∨ i = 2 ∨ i = 3 ∨ i = 4 ∨ i = 5 ∨ i = 6 ∨ i = 7 ∨ i = 8 ∨ i = 9 ∨ i = 10 ∨ i = 11 := by omega
    rcases hi2 with rfl | rfl | rfl | rfl | rfl | rfl | rfl | rfl | rfl | rfl | rfl | rfl
    all_goals (cases ho)
    · refine wpOp_step rfl (fun K hK => ?_)
      go_simp
      refine hK _ _ ?_
      exact ⟨true, l1, l2, l3, l4, l5, l6, l7, l8, l9, l10, l11, _, _, _, _, _, _, _, _, _, _, _, rfl, rfl, fun _ => rfl, c1, c2, c3, c4, c5, c6, c7, c8, c9, c10, c11, HB⟩
    · obtain rfl := c0 (hd { on := 0, ground := Ground.data } (by simp) rfl)
      refine wpOp_step rfl (fun K hK => ?_)
      go_simp
      refine hK _ _ ?_
      exact ⟨l0, true, l2, l3, l4, l5, l6, l7, l8, l9, l10, l11, _, _, _, _, _, _, _, _, _, _, _, rfl, rfl, c0, fun _ => rfl, c2, c3, c4, c5, c6, c7, c8, c9, c10, c11, HB⟩
    · obtain rfl := c1 (hd { on := 1, ground := Ground.data } (by simp) rfl)
      refine wpOp_step rfl (fun K hK => ?_)
      go_simp
      refine hK _ _ ?_
      exact ⟨l0, l1, true, l3, l4, l5, l6, l7, l8, l9, l10, l11, _, _, _, _, _, _, _, _, _, _, _, rfl, rfl, c0, c1, fun _ => rfl, c3, c4, c5, c6, c7, c8, c9, c10, c11, HB⟩
    · obtain rfl := c2 (hd { on := 2, ground := Ground.data } (by simp) rfl)
      have k0 := (HB0.out.1.next HB).cell 1 HCS.out.1
      refine wpOp_step rfl (fun K hK => ?_)
      go_simp
      refine hK _ _ ?_
      exact ⟨l0, l1, l2, true, l4, l5, l6, l7, l8, l9, l10, l11, _, _, _, _, _, _, _, _, _, _, _, rfl, rfl, c0, c1, c2, fun _ => rfl, c4, c5, c6, c7, c8, c9, c10, c11, HB⟩
    · refine wpOp_step rfl (fun K hK => ?_)
      go_simp
      refine hK _ _ ?_
      exact ⟨l0, l1, l2, l3, true, l5, l6, l7, l8, l9, l10, l11, _, _, _, _, _, _, _, _, _, _, _, rfl, rfl, c0, c1, c2, c3, fun _ => rfl, c5, c6, c7, c8, c9, c10, c11, HB⟩
    · obtain rfl := c4 (hd { on := 4, ground := Ground.data } (by simp) rfl)
      refine wpOp_step rfl (fun K hK => ?_)
      go_simp
      refine hK _ _ ?_
      exact ⟨l0, l1, l2, l3, l4, true, l6, l7, l8, l9, l10, l11, _, _, _, _, _, _, _, _, _, _, _, rfl, rfl, c0, c1, c2, c3, c4, fun _ => rfl, c6, c7, c8, c9, c10, c11, HB⟩
    · obtain rfl := c5 (hd { on := 5, ground := Ground.data } (by simp) rfl)
      refine wpOp_step rfl (fun K hK => ?_)
      go_simp
      refine hK _ _ ?_
      exact ⟨l0, l1, l2, l3, l4, l5, true, l7, l8, l9, l10, l11, _, _, _, _, _, _, _, _, _, _, _, rfl, rfl, c0, c1, c2, c3, c4, c5, fun _ => rfl, c7, c8, c9, c10, c11, HB⟩
    · obtain rfl := c6 (hd { on := 6, ground := Ground.data } (by simp) rfl)
      have k0 := (HB0.out.1.next HB).cell 2 HCS.out.2.1
      refine wpOp_step rfl (fun K hK => ?_)
      go_simp
      refine hK _ _ ?_
      exact ⟨l0, l1, l2, l3, l4, l5, l6, true, l8, l9, l10, l11, _, _, _, _, _, _, _, _, _, _, _, rfl, rfl, c0, c1, c2, c3, c4, c5, c6, fun _ => rfl, c8, c9, c10, c11, HB⟩
    · obtain rfl := c3 (hd { on := 3, ground := Ground.data } (by simp) rfl)
      obtain rfl := c7 (hd { on := 7, ground := Ground.data } (by simp) rfl)
      refine wpOp_step rfl (fun K hK => ?_)
      go_simp
      refine hK _ _ ?_
      exact ⟨l0, l1, l2, l3, l4, l5, l6, l7, true, l9, l10, l11, _, _, _, _, _, _, _, _, _, _, _, rfl, rfl, c0, c1, c2, c3, c4, c5, c6, c7, fun _ => rfl, c9, c10, c11, HB⟩
    · obtain rfl := c8 (hd { on := 8, ground := Ground.data } (by simp) rfl)
      have k0 := (HB0.out.2.next HB).cell (fi * 2) HCS.out.2.2.2.1
      have k1 := (HB0.out.2.next HB).cell (fi * 2 + 1) HCS.out.2.2.2.2.1
      refine wpOp_step rfl (fun K hK => ?_)
      go_simp
      refine hK _ _ ?_
      exact ⟨l0, l1, l2, l3, l4, l5, l6, l7, l8, true, l10, l11, _, _, _, _, _, _, _, _, _, _, _, rfl, rfl, c0, c1, c2, c3, c4, c5, c6, c7, c8, fun _ => rfl, c10, c11, HB⟩
    · have e11 : l11 = false := by cases h : l11 with | false => rfl | true => exact absurd (c11 h) (by rw [show l10 = false from hl]; exact Bool.false_ne_true)
      subst e11
      refine wpOp_step rfl (fun K hK => ?_)
      go_simp
      refine hK _ _ ?_
      exact ⟨l0, l1, l2, l3, l4, l5, l6, l7, l8, l9, true, false, _, _, _, _, _, _, _, _, _, _, _, rfl, rfl, c0, c1, c2, c3, c4, c5, c6, c7, c8, c9, fun _ => NewB.new _ HB.size, fun _ => rfl, below_call HB (below_box _ _)⟩
    · obtain rfl := c9 (hd { on := 9, ground := Ground.data } (by simp) rfl)
      have q := c10 (hd { on := 10, ground := Ground.data } (by simp) rfl)
      rw [show l11 = false from hl] at q
      obtain ⟨b, rfl, hb, HQ⟩ := q
      have q0 := HQ.cell (i := 0) rfl
      have q1 := HQ.cell (i := 1) rfl
      have f0 := HQ.frozen (i := 0)
      have f1 := HQ.frozen (i := 1)
      refine wpOp_step rfl (fun K hK => ?_)
      go_simp
      refine hK _ _ ?_
      exact ⟨l0, l1, l2, l3, l4, l5, l6, l7, l8, l9, l10, true, _, _, _, _, _, _, _, _, _, _, _, rfl, rfl, c0, c1, c2, c3, c4, c5, c6, c7, c8, c9, fun _ => NewB.put2' hb HQ _ _ rfl, fun _ => (hd { on := 10, ground := Ground.data } (by simp) rfl), ((HB.setCell (p := ⟨b, 0, none⟩) hb _).setCell (p := ⟨b, 1, none⟩) hb _)⟩
  · rintro listed act u ⟨l0, l1, l2, l3, l4, l5, l6, l7, l8, l9, l10, l11, v3, v4, v5, v6, v7, v8, v9, v10, v11, v12, v13, rfl, rfl, c0, c1, c2, c3, c4, c5, c6, c7, c8, c9, c10, c11, HB⟩ hall
    obtain rfl := c0 (hall 0 (by decide))
    obtain rfl := c1 (hall 1 (by decide))
    obtain rfl := c2 (hall 2 (by decide))
    obtain rfl := c3 (hall 3 (by decide))
    obtain rfl := c4 (hall 4 (by decide))
    obtain rfl := c5 (hall 5 (by decide))
    obtain rfl := c6 (hall 6 (by decide))
    obtain rfl := c7 (hall 7 (by decide))
    obtain rfl := c8 (hall 8 (by decide))
    obtain rfl := c9 (hall 9 (by decide))
    obtain ⟨b3, rfl, hb3, HQ3⟩ := NewB.done (show l11 = true from hall 11 (by decide)) (c10 (hall 10 (by decide)))
    have HBR := Lib.hid HB
    have HN3 := Lib.hid HQ3
    clear c0 c1 c2 c3 c4 c5 c6 c7 c8 c9 c10 c11 HB HQ3 hall
    have HR2 := Lib.hid (HR.out.next HBR.out)
    have HB2 := Lib.hid (And.intro (HB0.out.1.next HBR.out) (HB0.out.2.next HBR.out))
    have HG2 := Lib.hid (HG.out.trans (grown_of_below HBR.out))
    have HC2 : Hid (Blk u b3 #[.int .i64 c.1, .int .i64 c.2] 33) := Lib.hid HN3.out
    have HCN := Lib.hid (show b3 ≠ v ∧ b3 ≠ w.heap.size ∧ w.heap.size ≤ b3 from ⟨by have := HB0.out.1.lt; omega, by have := HR.out.lt; omega, by have := HR.out.lt; omega⟩)
    clear HBR HN3
    go_upto_region 2 with fail
    have u0 := HB2.out.1.kept 1 HCS.out.1
    have u1 := HB2.out.1.kept 2 HCS.out.2.1
    refine wp_region_ktail 12 (by kernel_rfl) (by kernel_rfl) ?_
    simp only [List.take_succ_cons, List.take_zero, List.drop_succ_cons, List.drop_zero]
    repeat (go_big_quiet_step (fail))
    refine wpQuiet_nil ?_
    rintro w3 ⟨⟨_, K3⟩, rfl⟩
    have HR3 := Lib.hid (HR2.out.next K3)
    have HC3 := Lib.hid (HC2.out.next K3)
    have HB3 := Lib.hid (And.intro (HB2.out.1.next K3) (HB2.out.2.next K3))
    have HG3 := Lib.hid (HG2.out.trans (grown_of_below K3))
    clear u0 u1 K3
    have d0 := HB3.out.1.cell 2 HCS.out.2.1
    have d1 := HB3.out.1.frozen 2
    have HB4 := Lib.hid (And.intro (HB3.out.1.set 2 (.int .i64 (f2 : Int))) (HB3.out.2.other HVL.out.2.2.1 (i := 2) (.int .i64 (f2 : Int))))
    have HR4 := Lib.hid (HR3.out.other (fun e => HVL.out.1 e.symm) (i := 2) (.int .i64 (f2 : Int)))
    have HC4 := Lib.hid (HC3.out.other HCN.out.1 (i := 2) (.int .i64 (f2 : Int)))
    have HG4 := Lib.hid (grown_set HG3.out 2 (.int .i64 (f2 : Int)))
    have HCS4 := Lib.hid (show (cs.setIfInBounds 2 (.int .i64 (f2 : Int)))[3]? = some (.int .i64 ((n + 1 : Nat) : Int)) from by rw [Array.getElem?_setIfInBounds_ne (by omega)]; exact HCS.out.2.2.1)
    go_upto_region 3 with fail
    clear d0 d1
    generalize w3.setCell ⟨v, 2, none⟩ (.int .i64 (f2 : Int)) = w4 at *
    have d0 := HB4.out.1.cell 3 HCS4.out
    have d1 := HB4.out.1.frozen 3
    have HB5 := Lib.hid (And.intro (HB4.out.1.set 3 (.int .i64 (n : Int))) (HB4.out.2.other HVL.out.2.2.1 (i := 3) (.int .i64 (n : Int))))
    have HR5 := Lib.hid (HR4.out.other (fun e => HVL.out.1 e.symm) (i := 3) (.int .i64 (n : Int)))
    have HC5 := Lib.hid (HC4.out.other HCN.out.1 (i := 3) (.int .i64 (n : Int)))
    have HG5 := Lib.hid (grown_set HG4.out 3 (.int .i64 (n : Int)))
    go_upto_region 4 with fail
    clear d0 d1
    generalize w4.setCell ⟨v, 3, none⟩ (.int .i64 (n : Int)) = w5 at *
    have d0 := HC5.out.cell 0 rfl
    have d1 := HC5.out.cell 1 rfl
    have d2 := HR5.out.cell 0 rfl
    have d3 := HR5.out.cell 1 rfl
    have d4 := HR5.out.frozen 0
    have d5 := HR5.out.frozen 1
    have HB6 := Lib.hid (And.intro ((HB5.out.1.other HVL.out.1 (i := 0) (.int .i64 c.1)).other HVL.out.1 (i := 1) (.int .i64 c.2)) ((HB5.out.2.other HVL.out.2.1 (i := 0) (.int .i64 c.1)).other HVL.out.2.1 (i := 1) (.int .i64 c.2)))
    have HR6 := Lib.hid ((HR5.out.set 0 (.int .i64 c.1)).set 1 (.int .i64 c.2))
    have HG6 := Lib.hid (grown_new (grown_new HG5.out (Nat.le_refl _) 0 (.int .i64 c.1)) (Nat.le_refl _) 1 (.int .i64 c.2))
    go_wp2
    have t0 := HR6.out.cell 0 rfl
    have t1 := HR6.out.cell 1 rfl
    exact bodyPost_ret (v := pt c.1 c.2) (by simp [results, Try.results61, go_sem, t0, t1]) rfl ⟨rfl, HQ.out _ HB6.out.1 HB6.out.2, HG6.out⟩
end Go.Proofs.Ytkogoflcacameaa
