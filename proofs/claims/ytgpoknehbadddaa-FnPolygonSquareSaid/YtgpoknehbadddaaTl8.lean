/- The list that begins with its second point. -/
import Derived.Test.YtgpoknehbadddaaPla8
import Derived.Test.YtgpoknehbadddaaZbHv
import Derived.Test.YtgpoknehbadddaaZbInv
import Derived.Test.YtgpoknehbadddaaDs8
namespace Go.Proofs.Ytgpoknehbadddaa
set_option maxRecDepth 100000
open Go.RowKit
attribute [local go_sem ↓] Go.wp_at_zero Go.wp_at_succ
theorem two_at8 {u : World} {g : Nat} {p : P2} {t : TypeId} (h : Cells8 u g (ptQ p) t) : ∀ (j : Nat) (v : Value), [Value.int .i64 p.1, .int .i64 p.2][j]? = some v → u.cell? (Addr.add ⟨g, 0, none⟩ j) = some v := by
  intro j v hv
  obtain rfl | rfl | hj : j = 0 ∨ j = 1 ∨ 2 ≤ j := by omega
  · simp at hv; subst hv; exact h.cell rfl
  · simp at hv; subst hv; exact h.cell rfl
  · rw [List.getElem?_eq_none (by simpa using hj)] at hv; cases hv
/-- A fresh list of one point. -/
def One8 (B : Nat) (u : World) (p : P2) (v : Value) : Prop := ∃ g, v = .slice (some ⟨g, 0, none⟩) 1 1 ∧ B ≤ g ∧ Cells8 u g (ptQ p) 24 ∧ True
theorem One8.any {B : Nat} {u : World} {p : P2} {v : Value} (h : One8 B u p v) : ∃ g, v = .slice (some ⟨g, 0, none⟩) 1 1 ∧ B ≤ g ∧ Cells8 u g (ptQ p) 24 ∧ True := h
theorem One8.next {B : Nat} {u u' : World} {p : P2} {v : Value} (h : One8 B u p v) (hb : Below u.heap.size u u') : One8 B u' p v := by
  obtain ⟨g, e, h1, h2, _⟩ := h
  exact ⟨g, e, h1, h2.next hb, trivial⟩
theorem One8.new (u : World) (p : P2) (T : TypeId) {B : Nat} (hB : B ≤ u.heap.size) (hT : T = 24) : One8 B (u.alloc (.cells (ptQ p) T)) p (.slice (some ⟨u.heap.size, 0, none⟩) 1 1) := by
  subst hT
  exact ⟨_, rfl, hB, Cells8.new u (ptQ p) _, trivial⟩
theorem One8.row3 {B : Nat} {u u' : World} {p : P2} {v v' : Value} (h : One8 B u p v) (hg : u.grownBy u' v'.ownBlock) (hne : v'.ownBlock ≠ v.ownBlock) : One8 B u' p v := by
  obtain ⟨g, rfl, h1, h2, _⟩ := h
  exact ⟨g, rfl, h1, (hg.block g h2.lt (fun e => hne e.symm)).trans h2, trivial⟩
theorem One8.far3 {B g n c : Nat} {u : World} {p : P2} {v v' : Value} (h : One8 B u p v) (hat : v'.ownBlock = some g ∨ g = u.heap.size) (hne : v'.ownBlock ≠ v.ownBlock) : (Value.slice (some ⟨g, 0, none⟩) n c).ownBlock ≠ v.ownBlock := by
  obtain ⟨g2, rfl, h1, h2, _⟩ := h
  intro e
  rcases hat with k | k
  · exact hne (k.trans e)
  · have := h2.lt
    simp [Value.ownBlock] at e
    omega
/-- What holds when the operations of 'listed' have come up. -/
inductive RTl8 (w0 : World) (B b o len cap : Nat) (ps : List P2) (p1 p3 p4 p5 p6 : Value) (u : World) : Array Bool → Act → Prop
  | mk (l0 l1 l2 l3 l4 l5 l6 l7 l8 l9 : Bool) (v2 v7 v8 v9 v10 v11 v12 v13 v14 v15 : Value)
    (c0 : l0 = true → l3 = false → OwnPt u B v7 []) (c1 : l1 = true → v8 = .slice (some ⟨b, o, none⟩) len cap) (c2 : l2 = true → v9 = .slice (some ⟨b, o + 2, none⟩) (len - 1) (cap - 1)) (c3 : l3 = true → l8 = false → OwnPt u B v10 ps.tail) (c4 : l4 = true → v11 = .slice (some ⟨b, o, none⟩) len cap) (c5 : l5 = true → v12 = .pointer (some ⟨b, o, none⟩)) (c6 : l6 = true → v13 = pt (cor ps 0).1 (cor ps 0).2) (c7 : l7 = true → l8 = false → One8 B u (cor ps 0) v14 ∧ (l0 = true → l3 = false → v7.ownBlock ≠ v14.ownBlock) ∧ (l3 = true → v10.ownBlock ≠ v14.ownBlock)) (c8 : l8 = true → OwnPt u B v15 (trn ps)) (c9 : l9 = true → OwnPt u B v2 (trn ps))
    (o1 : l8 = true → l3 = true) (o2 : l8 = true → l7 = true) (o3 : l9 = true → l8 = true) (HB : Below w0.heap.size w0 u) : RTl8 w0 B b o len cap ps p1 p3 p4 p5 p6 u #[l0, l1, l2, l3, l4, l5, l6, l7, l8, l9] { tmps := #[.slice (some ⟨b, o, none⟩) len cap, p1, v2, p3, p4, p5, p6, v7, v8, v9, v10, v11, v12, v13, v14, v15], defers := [] }
theorem RTl8.size {w0 : World} {B b o len cap : Nat} {ps : List P2} {p1 p3 p4 p5 p6 : Value} {u : World} {listed : Array Bool} {a : Act} (h : RTl8 w0 B b o len cap ps p1 p3 p4 p5 p6 u listed a) : listed.size = 10 := by cases h; rfl
/-- What turnList says. -/
def GotT (w : World) (ps : List P2) (e : Ending) (w' : World) : Prop := ∃ s : Sl, e = .returned (.slice s.a s.len s.cap) ∧ OwnPt w' w.heap.size (.slice s.a s.len s.cap) (trn ps) ∧ Below w.heap.size w w'
set_option maxHeartbeats 4000000 in
theorem turnListC (a : Option Addr) (len cap : Nat) (ps : List P2) (w : World) (hp : PL w a len ps) (h2 : 2 ≤ len) (h16 : len ≤ 16) (hc : len ≤ cap) :
    Calls Try.prog 19 #[.slice a len cap] w (GotT w ps) := by
  obtain ⟨i0, hi0, hz0, hz1, hz2⟩ := info_parts infoPt6
  obtain ⟨b, o, rfl, lt, hcell⟩ := hp.somes (by omega)
  have HLE := Lib.hid hp.1
  have HTL := Lib.hid (fun (u : World) (hu : Below w.heap.size w u) => show ∀ j v, (pvals ps.tail)[j]? = some v → u.cell? (Addr.add ⟨b, o + 2, none⟩ j) = some v from by
    have k := ((hp.sub (i := 1) (j := len) (by omega) (Nat.le_refl _)).next hu)
    have e : (ps.take len).drop 1 = ps.tail := by rw [hp.1, List.take_length, List.drop_one]
    rw [e] at k
    exact k.news (by omega))
  have HPL := Lib.hid (fun (u : World) (hu : Below w.heap.size w u) => show u.cell? ⟨b, o, none⟩ = some (.int .i64 (cor ps 0).1) ∧ u.cell? ⟨b, o + 1, none⟩ = some (.int .i64 (cor ps 0).2) from by
    have k := hcell 0 (by omega)
    exact ⟨(hu.cell (p := ⟨b, o, none⟩) lt).trans k.1, (hu.cell (p := ⟨b, o + 1, none⟩) lt).trans k.2⟩)
  have HTA := Lib.hid (show ps.tail ++ [((cor ps 0).1, (cor ps 0).2)] = trn ps from by
    cases ps with
    | nil => have := hp.1; simp at this; omega
    | cons p qs => simp [trn, cor])
  have g0 : ¬ ((len : Int) = 0) := by omega
  have g1 : ((len : Int) == 0) = false := by simpa using g0
  clear hp hcell
  go_enter Try.func19, Try.ntmps19
  go_upto_region 3 with fail
  obtain ⟨B, hB⟩ : ∃ B, w.heap.size = B := ⟨_, rfl⟩
  have HBB : Hid (B ≤ w.heap.size) := Lib.hid (by omega)
  have HBE := Lib.hid hB
  clear hB
  have j1 : 1 ≤ len := by omega
  have j2 : (1 : Int) ≤ (len : Int) := by omega
  have j3 : (len : Int) ≤ (cap : Int) := by omega
  have j4 : 0 < len := by omega
  have hc1 : ¬ cap = 1 := by omega
  refine wp_region_inv (fun listed act u => RTl8 w B b o len cap ps ?p1 ?p3 ?p4 ?p5 ?p6 u listed act) (by kernel_rfl) ?hlt ?hsz ?h0 ?hstep ?hdone
  case h0 =>
    exact ⟨false, false, false, false, false, false, false, false, false, false, _, _, _, _, _, _, _, _, _, _, (by intro h; cases h), (by intro h; cases h), (by intro h; cases h), (by intro h; cases h), (by intro h; cases h), (by intro h; cases h), (by intro h; cases h), (by intro h; cases h), (by intro h; cases h), (by intro h; cases h), (by intro h; cases h), (by intro h; cases h), (by intro h; cases h), (below_drew w)⟩
  case hlt => exact backB_spec (by kernel_rfl)
  case hsz => exact fun listed a u h => h.size
  case hstep =>
    intro listed act u i oo hR ho hl hd
    obtain ⟨l0, l1, l2, l3, l4, l5, l6, l7, l8, l9, v2, v7, v8, v9, v10, v11, v12, v13, v14, v15, c0, c1, c2, c3, c4, c5, c6, c7, c8, c9, o1, o2, o3, HB⟩ := hR
    have hi : i < 10 := by rcases Nat.lt_or_ge i 10 with h | h; exact h; rw [Array.getElem?_eq_none (by simpa using h)] at ho; cases ho
    have hi2 : i = 0 ∨ i = 1 ∨ i = 2 ∨ i = 3 ∨ i = 4 ∨ i = 5 ∨ i = 6 ∨ i = 7 ∨ i = 8 ∨ i = 9 := by omega
    rcases hi2 with rfl | rfl | rfl | rfl | rfl | rfl | rfl | rfl | rfl | rfl
    all_goals (cases ho)
    · have e0 : l0 = false := hl
      subst e0
      refine wpOp_step rfl (fun K hK => ?_)
      go_simp
      refine hK _ _ ?_
      exact ⟨true, l1, l2, l3, l4, l5, l6, l7, l8, l9, _, _, _, _, _, _, _, _, _, _, (fun _ _ => OwnPt.down6 (ownPt_empty u 24 rfl) (Nat.le_trans HBB.out HB.size)), c1, c2, (fun h h' => (c3 h h').next (below_box u _)), c4, c5, c6, (fun h h' => ⟨(c7 h h').1.next (below_box u _), (fun _ _ => by obtain ⟨g, e, _, hc, _⟩ := (c7 h h').1.any; rw [e]; intro q; have := hc.lt; simp [Value.ownBlock] at q; omega), (c7 h h').2.2⟩), (fun h => (c8 h).next (below_box u _)), (fun h => (c9 h).next (below_box u _)), o1, o2, o3, (below_call HB (below_box u _))⟩
    · skip
      refine wpOp_step rfl (fun K hK => ?_)
      go_simp
      refine hK _ _ ?_
      exact ⟨l0, true, l2, l3, l4, l5, l6, l7, l8, l9, _, _, _, _, _, _, _, _, _, _, c0, (fun _ => rfl), c2, c3, c4, c5, c6, c7, c8, c9, o1, o2, o3, HB⟩
    · obtain rfl := c1 (hd { on := 1, ground := Ground.data } (by simp) rfl)
      refine wpOp_step rfl (fun K hK => ?_)
      go_simp
      refine hK _ _ ?_
      exact ⟨l0, l1, true, l3, l4, l5, l6, l7, l8, l9, _, _, _, _, _, _, _, _, _, _, c0, c1, (fun _ => rfl), c3, c4, c5, c6, c7, c8, c9, o1, o2, o3, HB⟩
    · have H8 : Hid (l8 = false) := Lib.hid (by cases l8 with | false => rfl | true => exact absurd (o1 rfl) (by rw [show l3 = false from hl]; simp))
      have H9 : Hid (l9 = false) := Lib.hid (by cases l9 with | false => rfl | true => have := o3 rfl; rw [H8.out] at this; cases this)
      have d0 := hd { on := 0, ground := Ground.data } (by simp) rfl
      obtain rfl := c2 (hd { on := 2, ground := Ground.data } (by simp) rfl)
      have e3 : l3 = false := hl
      subst e3
      have O := c0 d0 rfl
      have HSRC := Lib.hid (HTL.out u HB)
      have HW := Lib.hid (Nat.le_trans HBB.out HB.size)
      refine wpOp_step rfl (fun K hK => ?_)
      refine step_append_lies _ rfl (.tmp 7) (.tmp 9) 31 rfl B 24 i0 (pt 0 0) 2 16 Try.underlying31 hi0 hz0 hz1 hz2 rfl (by decide) v7 0 [] rfl O ⟨b, o + 2, none⟩ (len - 1) (cap - 1) (pvals ps.tail) rfl (by rw [pvals_len, List.length_tail, ← HLE.out]) HSRC.out (pvals_one8 ps.tail) (by omega) (by unfold maxLen; omega) (by omega) HW.out _ rfl ?_
      intro g cap3 w3 own3 grow3 at3 ltg
      have HAO := Lib.hid (show OwnPt w3 B (.slice (some ⟨g, 0, none⟩) (0 + (len - 1)) cap3) ([] ++ ps.tail) from by unfold OwnPt; rw [List.length_append, List.length_tail, ← HLE.out]; exact own3)
      have HAG := Lib.hid grow3
      have HAT := Lib.hid at3
      have HBG := Lib.hid (HB.grown grow3 HB.size (fun k hk => by have q := (World.ownsRow.lt O k hk).1; rw [HBE.out]; exact q))
      clear own3 grow3 at3 ltg
      refine hK _ _ ?_
      exact ⟨l0, l1, l2, true, l4, l5, l6, l7, l8, l9, _, _, _, _, _, _, _, _, _, _, (fun _ h => by cases h), c1, c2, (fun _ _ => by have k := HAO.out; rw [List.nil_append] at k; exact k), c4, c5, c6, (fun h h' => ⟨(c7 h h').1.row3 HAG.out ((c7 h h').2.1 d0 rfl), (fun _ q => by cases q), fun _ => (c7 h h').1.far3 HAT.out ((c7 h h').2.1 d0 rfl)⟩), (fun h => by rw [H8.out] at h; cases h), (fun h => by rw [H9.out] at h; cases h), fun _ => rfl, o2, o3, HBG.out⟩
    · skip
      refine wpOp_step rfl (fun K hK => ?_)
      go_simp
      refine hK _ _ ?_
      exact ⟨l0, l1, l2, l3, true, l5, l6, l7, l8, l9, _, _, _, _, _, _, _, _, _, _, c0, c1, c2, c3, (fun _ => rfl), c5, c6, c7, c8, c9, o1, o2, o3, HB⟩
    · obtain rfl := c4 (hd { on := 4, ground := Ground.data } (by simp) rfl)
      refine wpOp_step rfl (fun K hK => ?_)
      go_simp
      refine hK _ _ ?_
      exact ⟨l0, l1, l2, l3, l4, true, l6, l7, l8, l9, _, _, _, _, _, _, _, _, _, _, c0, c1, c2, c3, c4, (fun _ => rfl), c6, c7, c8, c9, o1, o2, o3, HB⟩
    · obtain rfl := c5 (hd { on := 5, ground := Ground.data } (by simp) rfl)
      obtain ⟨k0, k1⟩ := HPL.out u HB
      refine wpOp_step rfl (fun K hK => ?_)
      go_simp
      refine hK _ _ ?_
      exact ⟨l0, l1, l2, l3, l4, l5, true, l7, l8, l9, _, _, _, _, _, _, _, _, _, _, c0, c1, c2, c3, c4, c5, (fun _ => rfl), c7, c8, c9, o1, o2, o3, HB⟩
    · have H8 : Hid (l8 = false) := Lib.hid (by cases l8 with | false => rfl | true => exact absurd (o2 rfl) (by rw [show l7 = false from hl]; simp))
      obtain rfl := c6 (hd { on := 6, ground := Ground.data } (by simp) rfl)
      have e7 : l7 = false := hl
      subst e7
      refine wpOp_step rfl (fun K hK => ?_)
      go_simp
      refine hK _ _ ?_
      exact ⟨l0, l1, l2, l3, l4, l5, l6, true, l8, l9, _, _, _, _, _, _, _, _, _, _, (fun h h' => (c0 h h').next (below_box u _)), c1, c2, (fun h h' => (c3 h h').next (below_box u _)), c4, c5, c6, (fun _ _ => ⟨One8.new u (cor ps 0) 24 (Nat.le_trans HBB.out HB.size) rfl, fun h h' q => absurd (World.ownsRow.lt (c0 h h') u.heap.size (q.trans rfl)).2 (Nat.lt_irrefl _), fun h q => absurd (World.ownsRow.lt (c3 h H8.out) u.heap.size (q.trans rfl)).2 (Nat.lt_irrefl _)⟩), (fun h => (c8 h).next (below_box u _)), (fun h => (c9 h).next (below_box u _)), o1, fun _ => rfl, o3, (below_call HB (below_box u _))⟩
    · have H9 : Hid (l9 = false) := Lib.hid (by cases l9 with | false => rfl | true => exact absurd (o3 rfl) (by rw [show l8 = false from hl]; simp))
      have d3 := hd { on := 3, ground := Ground.data } (by simp) rfl
      have d7 := hd { on := 7, ground := Ground.data } (by simp) rfl
      have e8 : l8 = false := hl
      subst e8
      have O := c3 d3 rfl
      obtain ⟨g2, rfl, _, hc2, _⟩ := (c7 d7 rfl).1.any
      have HNW := Lib.hid (two_at8 hc2)
      have HW := Lib.hid (Nat.le_trans HBB.out HB.size)
      have HTL2 := Lib.hid (show ps.tail.length ≤ 16 by rw [List.length_tail, ← HLE.out]; omega)
      refine wpOp_step rfl (fun K hK => ?_)
      refine step_append_lies _ rfl (.tmp 10) (.tmp 14) 31 rfl B 24 i0 (pt 0 0) 2 16 Try.underlying31 hi0 hz0 hz1 hz2 rfl (by decide) v10 ps.tail.length (pvals ps.tail) rfl O ⟨g2, 0, none⟩ 1 1 [.int .i64 (cor ps 0).1, .int .i64 (cor ps 0).2] rfl rfl HNW.out (by intro u hu; simp at hu; rcases hu with rfl | rfl <;> rfl) (by omega) (by have := HTL2.out; unfold maxLen; omega) (by have := HTL2.out; omega) HW.out _ rfl ?_
      intro g cap3 w3 own3 grow3 at3 ltg
      have HAO := Lib.hid (show OwnPt w3 B (.slice (some ⟨g, 0, none⟩) (ps.tail.length + 1) cap3) (ps.tail ++ [((cor ps 0).1, (cor ps 0).2)]) from by unfold OwnPt; rw [pvals_snoc6, List.length_append]; exact own3)
      have HBG := Lib.hid (HB.grown grow3 HB.size (fun k hk => by have q := (World.ownsRow.lt O k hk).1; rw [HBE.out]; exact q))
      clear own3 grow3 at3 ltg
      refine hK _ _ ?_
      exact ⟨l0, l1, l2, l3, l4, l5, l6, l7, true, l9, _, _, _, _, _, _, _, _, _, _, (fun h h' => by rw [show l3 = true from d3] at h'; cases h'), c1, c2, (fun _ h => by cases h), c4, c5, c6, (fun _ h => by cases h), (fun _ => by have k := HAO.out; rw [HTA.out] at k; exact k), (fun h => by rw [H9.out] at h; cases h), fun _ => d3, fun _ => d7, fun _ => rfl, HBG.out⟩
    · have d8 := hd { on := 8, ground := Ground.data } (by simp) rfl
      have O := c8 d8
      refine wpOp_step rfl (fun K hK => ?_)
      go_simp
      refine hK _ _ ?_
      exact ⟨l0, l1, l2, l3, l4, l5, l6, l7, l8, true, _, _, _, _, _, _, _, _, _, _, c0, c1, c2, c3, c4, c5, c6, c7, c8, (fun _ => O), o1, o2, fun _ => d8, HB⟩
  case hdone =>
    intro listed act u hR hall
    obtain ⟨l0, l1, l2, l3, l4, l5, l6, l7, l8, l9, v2, v7, v8, v9, v10, v11, v12, v13, v14, v15, c0, c1, c2, c3, c4, c5, c6, c7, c8, c9, o1, o2, o3, HB⟩ := hR
    have O := c9 (hall 9 (by decide))
    obtain ⟨s, rfl, _⟩ := O.sl
    have HF := Lib.hid (And.intro O HB)
    have HBE2 := HBE.out
    clear c0 c1 c2 c3 c4 c5 c6 c7 c8 c9 o1 o2 o3 HB hall O

    go_wp2
    go_ret
    exact ⟨s, rfl, by rw [HBE.out]; exact HF.out.1, HF.out.2⟩
end Go.Proofs.Ytgpoknehbadddaa
