/- What the laws on pairs draw. -/
import Derived.Test.YtppkipcgpmijpaaDi16
import Derived.Test.YtppkipcgpmijpaaCs16
namespace Go.Proofs.Ytppkipcgpmijpaa
set_option maxRecDepth 100000
open Go.RowKit
attribute [local go_sem ↓] Go.wp_at_zero Go.wp_at_succ
/-- Pairs are drawn. -/
def GotPr (w : World) (e : Ending) (w' : World) : Prop :=
  ∃ (s : Sl) (ps : List (Int × Int)), e = .returned (.slice s.a s.len s.cap) ∧ s.len = ps.length ∧ ps.length ≤ 21 ∧ Prr.SmP ps ∧ Prr.OwnPt w' w.heap.size (.slice s.a s.len s.cap) ps ∧ Below w.heap.size w w'
/-- Pairs and a number are drawn. -/
def GotPN (lo hi : Int) (w : World) (e : Ending) (w' : World) : Prop :=
  ∃ (s : Sl) (ps : List (Int × Int)) (n : Int), e = .returned (.tuple #[.slice s.a s.len s.cap, .int .i64 n]) ∧ s.len = ps.length ∧ ps.length ≤ 21 ∧ Prr.SmP ps ∧ (lo ≤ n ∧ n ≤ hi) ∧ Prr.OwnPt w' w.heap.size (.slice s.a s.len s.cap) ps ∧ Below w.heap.size w w'
theorem offV_bd (L : List (Int × Int)) : -2000 ≤ offV L ∧ offV L ≤ 2000 := by
  unfold offV
  split
  · next h => exact offN_bd h
  · omega
theorem below_grown16 {u u' : World} (h : Below u.heap.size u u') (row : Option Nat) : u.grownBy u' row := ⟨h.os, h.tape, h.output, h.size, fun k hk _ => h.block k hk⟩
theorem GSt.mono16 {w w0 u : World} {r M M' : Nat} {rs : List Nat} (h : GSt w w0 r rs M u) (hM : M ≤ M') : GSt w w0 r rs M' u := ⟨h.rd.mono hM, h.old, h.size, h.keep⟩
theorem gfit {w w0 u : World} {r M : Nat} {a : Option Addr} {len cap : Nat} {L : List (Int × Int)} (hA : Prr.PtsAt w0 a len L) (hl : len ≤ 9223372036854775807) (hne : ∀ b, a = some ⟨b, 0, none⟩ → b ≠ r) (h : GSt w w0 r [] M u) (_hM : M ≤ 900000) :
    Calls Try.prog 18 #[.slice a len cap] u fun e u' => ∃ x : Int, -2000 ≤ x ∧ x ≤ 2000 ∧ e = .returned (.int .i64 x) ∧ GSt w w0 r [] (M + 1) u' ∧ GKeeps r u u' ∧ u.grownBy u' (some r) := by
  have hA2 : Prr.PtsAt u a len L := by
    refine ⟨hA.1, hA.2.imp id fun ⟨b, h1, h2, h3⟩ => ⟨b, h1, Nat.lt_of_lt_of_le h2 h.size, fun i hi => ?_⟩⟩
    have e := h.keep b h2 (hne b h1) (by simp)
    exact ⟨(World.cell?_of_block (a := ⟨b, i * 2, none⟩) e).trans (h3 i hi).1, (World.cell?_of_block (a := ⟨b, i * 2 + 1, none⟩) e).trans (h3 i hi).2⟩
  refine (specFitOffset a len cap L u hA2 hl).mono ?_
  rintro e u' ⟨rfl, B⟩
  exact ⟨_, (offV_bd L).1, (offV_bd L).2, rfl, (h.next B).mono16 (by omega), GKeeps.grown (below_grown16 B _), below_grown16 B _⟩
/-- What holds when the operations of 'listed' have come up. -/
inductive RF16o (w w0 : World) (r  : Nat) (sa : Option Addr) (sl sc : Nat) (u : World) : Array Bool → Act → Prop
  | mk (l0 l1 l2 l3 l4 l5 l6 l7 l8 l9 l10 l11 l12 l13 l14 l15 : Bool) (v2 v3 v10 v11 v12 v13 v14 v15 v16 v17 v18 v19 v20 v21 v22 v23 p0 p1 p6 p7 p8 p9 : Value) (M : Nat)
    (c0 : l0 = true → v10 = .slice sa sl sc) (c1 : l1 = true → v11 = .slice sa sl sc) (c2 : l2 = true → CI (-2000) (2000) v12) (c3 : l3 = true → v13 = .pointer (some ⟨r, 0, none⟩)) (c4 : l4 = true → CI 0 79 v14) (c5 : l5 = true → CI (-40) (39) v15) (c6 : l6 = true → CA r u 3 (-2000) (2001) v16) (c7 : l7 = true → CA r u 5 (0) (2) v17) (c8 : l8 = true → v18 = .pointer (some ⟨r, 0, none⟩)) (c9 : l9 = true → CI 0 4 v19) (c10 : l10 = true → CP r u (0) (2) v20) (c11 : l11 = true → CI (0) (2) v21) (c12 : l12 = true → CP r u (-2000) (2001) v22) (c13 : l13 = true → CI (-2000) (2001) v23) (c14 : l14 = true → v2 = .slice sa sl sc) (c15 : l15 = true → CI (-2000) (2001) v3)
    (hM : M + ((if l2 then 0 else 1) + (if l4 then 0 else 1) + (if l9 then 0 else 1)) ≤ 900) (G : GSt w w0 r [] M u) : RF16o w w0 r   sa sl sc u #[l0, l1, l2, l3, l4, l5, l6, l7, l8, l9, l10, l11, l12, l13, l14, l15] { tmps := #[p0, p1, v2, v3, .pointer (some ⟨r, 0, none⟩), .slice sa sl sc, p6, p7, p8, p9, v10, v11, v12, v13, v14, v15, v16, v17, v18, v19, v20, v21, v22, v23], defers := [] }
theorem RF16o.size {w w0 : World} {r  : Nat} {sa : Option Addr} {sl sc : Nat} {u : World} {listed : Array Bool} {a : Act} (h : RF16o w w0 r   sa sl sc u listed a) : listed.size = 16 := by cases h; rfl
set_option maxHeartbeats 8000000 in
theorem drawPairsValid (w : World) (a : Option Addr) (len cap : Nat) (zs : List Int) (h : Bytes w a len cap zs) :
    Calls Try.prog 13 #[.slice a len cap] w (GotPr w) := by
  go_enter Try.func13, Try.ntmps13
  go_wp2_with fail
  refine (gopen w _ a len cap zs h (Below.refl _ _) w.heap.size rfl).mono ?_
  rintro e w1 ⟨rfl, hr1, hb1⟩
  have HR1 := Lib.hid hr1
  have HB1 := Lib.hid hb1
  clear hb1 h hr1
  go_wp2_with fail
  refine (Prr.l20Pairs w.heap.size 0 w.heap.size 2 w1 HR1.out (by omega) (by omega) (by omega)).mono ?_
  rintro e w2 ⟨s, ps, rfl, hsl, hn, hsm, S⟩
  have HB2 := Lib.hid (HB1.out.grown S.gr HB1.out.size (fun q hq => by injection hq with hq; omega))
  have HO2 := Lib.hid (S.row.down6 HB1.out.size)
  have HC := Lib.hid (And.intro hsl (And.intro hn hsm))
  clear S hsl hn hsm
  go_wp2
  go_ret
  exact ⟨s, ps, rfl, HC.out.1, HC.out.2.1, HC.out.2.2, HO2.out, HB2.out⟩
set_option maxHeartbeats 8000000 in
theorem drawFitOffset (w : World) (a : Option Addr) (len cap : Nat) (zs : List Int) (h : Bytes w a len cap zs) :
    Calls Try.prog 16 #[.slice a len cap] w (GotPr w) := by
  go_enter Try.func16, Try.ntmps16
  go_wp2_with fail
  refine (gopen w _ a len cap zs h (Below.refl _ _) w.heap.size rfl).mono ?_
  rintro e w1 ⟨rfl, hr1, hb1⟩
  have HR1 := Lib.hid hr1
  have HB1 := Lib.hid hb1
  clear hb1 h hr1
  go_wp2_with fail
  refine (Prr.l20Pairs w.heap.size 0 w.heap.size 9 w1 HR1.out (by omega) (by omega) (by omega)).mono ?_
  rintro e w2 ⟨s, ps, rfl, hsl, hn, hsm, S⟩
  have HB2 := Lib.hid (HB1.out.grown S.gr HB1.out.size (fun q hq => by injection hq with hq; omega))
  have HO2 := Lib.hid (S.row.down6 HB1.out.size)
  have HC := Lib.hid (And.intro hsl (And.intro hn hsm))
  clear S hsl hn hsm
  go_wp2
  go_ret
  exact ⟨s, ps, rfl, HC.out.1, HC.out.2.1, HC.out.2.2, HO2.out, HB2.out⟩
set_option maxHeartbeats 8000000 in
theorem drawOffsetError (w : World) (a : Option Addr) (len cap : Nat) (zs : List Int) (h : Bytes w a len cap zs) :
    Calls Try.prog 21 #[.slice a len cap] w (GotPN (-2000) 2001 w) := by
  go_enter Try.func21, Try.ntmps21
  go_wp2_with fail
  refine (gopen w _ a len cap zs h (Below.refl _ _) w.heap.size rfl).mono ?_
  rintro e w1 ⟨rfl, hr1, hb1⟩
  have HR1 := Lib.hid hr1
  have HB1 := Lib.hid hb1
  clear hb1 h hr1
  go_wp2_with fail
  refine (Prr.l20Pairs w.heap.size 0 w.heap.size 9 w1 HR1.out (by omega) (by omega) (by omega)).mono ?_
  rintro e w2 ⟨⟨sa, sl, sc⟩, ps, rfl, hsl, hn, hsm, S⟩
  have HB2 := Lib.hid (HB1.out.grown S.gr HB1.out.size (fun q hq => by injection hq with hq; omega))
  have HO2 := Lib.hid S.row
  have HLT := Lib.hid HR1.out.lt
  have HPA := Lib.hid (Prr.OwnPt.ints S.row)
  have HPL := Lib.hid (show sl ≤ 9223372036854775807 by simp only at hsl; omega)
  have HNE := Lib.hid (show ∀ b, sa = some ⟨b, 0, none⟩ → b ≠ w.heap.size from fun b hb => by
    subst hb
    rcases S.row.2 with ⟨hv, _⟩ | ⟨g, c, cur, hv, hg, _⟩
    · cases hv
    · simp only [Value.slice.injEq, Option.some.injEq, Addr.mk.injEq] at hv
      have := HLT.out
      omega)
  have G0 := Lib.hid (GSt.start (rs := []) S.rd HB2.out).drew
  have HM0 := Lib.hid (show 40 + ((if false then 0 else 1) + (if false then 0 else 1) + (if false then 0 else 1)) ≤ 900 by decide)
  have HC := Lib.hid (And.intro hsl (And.intro hn hsm))
  clear S hsl hn hsm HR1
  go_upto_region 3 with fail
  refine wp_region_inv (fun listed act u => RF16o w w2 w.heap.size   sa sl sc u listed act) (by kernel_rfl) ?hlt ?hsz ?h0 ?hstep ?hdone
  case h0 =>
    exact ⟨false, false, false, false, false, false, false, false, false, false, false, false, false, false, false, false, _, _, _, _, _, _, _, _, _, _, _, _, _, _, _, _, _, _, _, _, _, _, _, (by intro h; cases h), (by intro h; cases h), (by intro h; cases h), (by intro h; cases h), (by intro h; cases h), (by intro h; cases h), (by intro h; cases h), (by intro h; cases h), (by intro h; cases h), (by intro h; cases h), (by intro h; cases h), (by intro h; cases h), (by intro h; cases h), (by intro h; cases h), (by intro h; cases h), (by intro h; cases h), HM0.out, G0.out⟩
  case hstep =>
    intro listed act u i o hR ho hl hd
    obtain ⟨l0, l1, l2, l3, l4, l5, l6, l7, l8, l9, l10, l11, l12, l13, l14, l15, v2, v3, v10, v11, v12, v13, v14, v15, v16, v17, v18, v19, v20, v21, v22, v23, p0, p1, p6, p7, p8, p9, M, c0, c1, c2, c3, c4, c5, c6, c7, c8, c9, c10, c11, c12, c13, c14, c15, hM, G⟩ := hR
    have hi : i < 16 := by rcases Nat.lt_or_ge i 16 with h | h; exact h; rw [Array.getElem?_eq_none (by simpa using h)] at ho; cases ho
    have hi2 : i = 0 ∨ i = 1 ∨ i = 2 ∨ i = 3 ∨ i = 4 ∨ i = 5 ∨ i = 6 ∨ i = 7 ∨ i = 8 ∨ i = 9 ∨ i = 10 ∨ i = 11 ∨ i = 12 ∨ i = 13 ∨ i = 14 ∨ i = 15 := by omega
    rcases hi2 with rfl | rfl | rfl | rfl | rfl | rfl | rfl | rfl | rfl | rfl | rfl | rfl | rfl | rfl | rfl | rfl
    all_goals (cases ho)
    · skip
      refine wpOp_step rfl (fun K hK => ?_)
      go_simp
      refine hK _ _ ?_
      exact ⟨true, l1, l2, l3, l4, l5, l6, l7, l8, l9, l10, l11, l12, l13, l14, l15, _, _, _, _, _, _, _, _, _, _, _, _, _, _, _, _, _, _, _, _, _, _, M, fun _ => rfl, c1, c2, c3, c4, c5, c6, c7, c8, c9, c10, c11, c12, c13, c14, c15, hM, G⟩
    · skip
      refine wpOp_step rfl (fun K hK => ?_)
      go_simp
      refine hK _ _ ?_
      exact ⟨l0, true, l2, l3, l4, l5, l6, l7, l8, l9, l10, l11, l12, l13, l14, l15, _, _, _, _, _, _, _, _, _, _, _, _, _, _, _, _, _, _, _, _, _, _, M, c0, fun _ => rfl, c2, c3, c4, c5, c6, c7, c8, c9, c10, c11, c12, c13, c14, c15, hM, G⟩
    · obtain rfl := c1 (hd { on := 1, ground := Ground.data } (by simp) rfl)
      have e2 : l2 = false := hl
      subst e2
      refine wpOp_step rfl (fun K hK => ?_)
      go_simp
      refine (gfit HPA.out HPL.out HNE.out G (by omega)).mono ?_
      rintro e u' ⟨xk, h0, h1, rfl, G', KA, hg⟩
      refine hK _ _ ?_
      exact ⟨l0, l1, true, l3, l4, l5, l6, l7, l8, l9, l10, l11, l12, l13, l14, l15, _, _, _, _, _, _, _, _, _, _, _, _, _, _, _, _, _, _, _, _, _, _, (M + 1), c0, c1, fun _ => ⟨xk, rfl, h0, h1⟩, c3, c4, c5, fun h => (c6 h).keep KA, fun h => (c7 h).keep KA, c8, c9, fun h => (c10 h).keep KA, c11, fun h => (c12 h).keep KA, c13, c14, c15, by simp only [Bool.false_eq_true, if_false, if_true] at hM ⊢; omega, G'⟩
    · skip
      refine wpOp_step rfl (fun K hK => ?_)
      go_simp
      refine hK _ _ ?_
      exact ⟨l0, l1, l2, true, l4, l5, l6, l7, l8, l9, l10, l11, l12, l13, l14, l15, _, _, _, _, _, _, _, _, _, _, _, _, _, _, _, _, _, _, _, _, _, _, M, c0, c1, c2, fun _ => rfl, c4, c5, c6, c7, c8, c9, c10, c11, c12, c13, c14, c15, hM, G⟩
    · obtain rfl := c3 (hd { on := 3, ground := Ground.data } (by simp) rfl)
      have e4 : l4 = false := hl
      subst e4
      refine wpOp_step rfl (fun K hK => ?_)
      go_simp
      refine (gpick 80 (by omega) G (by omega)).mono ?_
      rintro e u' ⟨xk, h0, h1, rfl, G', KA, hg⟩
      refine hK _ _ ?_
      exact ⟨l0, l1, l2, l3, true, l5, l6, l7, l8, l9, l10, l11, l12, l13, l14, l15, _, _, _, _, _, _, _, _, _, _, _, _, _, _, _, _, _, _, _, _, _, _, (M + 1), c0, c1, c2, c3, fun _ => ⟨xk, rfl, h0, by omega⟩, c5, fun h => (c6 h).keep KA, fun h => (c7 h).keep KA, c8, c9, fun h => (c10 h).keep KA, c11, fun h => (c12 h).keep KA, c13, c14, c15, by simp only [Bool.false_eq_true, if_false, if_true] at hM ⊢; omega, G'⟩
    · obtain ⟨x, rfl, h0, h1⟩ := (c4 (hd { on := 4, ground := Ground.data } (by simp) rfl)).any
      have ow : IntKind.i64.wrap (x - 40) = x - 40 := wrap_in (by omega) (by omega)
      refine wpOp_step rfl (fun K hK => ?_)
      go_simp
      refine hK _ _ ?_
      exact ⟨l0, l1, l2, l3, l4, true, l6, l7, l8, l9, l10, l11, l12, l13, l14, l15, _, _, _, _, _, _, _, _, _, _, _, _, _, _, _, _, _, _, _, _, _, _, M, c0, c1, c2, c3, c4, fun _ => ⟨_, rfl, by omega, by omega⟩, c6, c7, c8, c9, c10, c11, c12, c13, c14, c15, hM, G⟩
    · have hlt := G.rd.lt
      obtain ⟨q0, rfl, q00, q01⟩ := (c2 (hd { on := 2, ground := Ground.data } (by simp) rfl)).any
      obtain ⟨q1, rfl, q10, q11⟩ := (c5 (hd { on := 5, ground := Ground.data } (by simp) rfl)).any
      have HA := Lib.hid (GArr.new (r := w.heap.size) u [q0, q1, 2001] [.int .i64 q0, .int .i64 q1, .int .i64 2001] rfl 3 hlt)
      refine wpOp_step rfl (fun K hK => ?_)
      go_simp
      refine hK _ _ ?_
      exact ⟨l0, l1, l2, l3, l4, l5, true, l7, l8, l9, l10, l11, l12, l13, l14, l15, _, _, _, _, _, _, _, _, _, _, _, _, _, _, _, _, _, _, _, _, _, _, M, c0, c1, c2, c3, c4, c5, fun _ => ⟨_, [q0, q1, 2001], rfl, rfl, by intro z hz; simp at hz; omega, HA.out⟩, fun h => (c7 h).keep (GKeeps.alloc w.heap.size u _), c8, c9, fun h => (c10 h).keep (GKeeps.alloc w.heap.size u _), c11, fun h => (c12 h).keep (GKeeps.alloc w.heap.size u _), c13, c14, c15, hM, G.next (below_box u _)⟩
    · have hlt := G.rd.lt
      have HA := Lib.hid (GArr.new (r := w.heap.size) u [0, 0, 1, 1, 2] [.int .i64 0, .int .i64 0, .int .i64 1, .int .i64 1, .int .i64 2] rfl 3 hlt)
      refine wpOp_step rfl (fun K hK => ?_)
      go_simp
      refine hK _ _ ?_
      exact ⟨l0, l1, l2, l3, l4, l5, l6, true, l8, l9, l10, l11, l12, l13, l14, l15, _, _, _, _, _, _, _, _, _, _, _, _, _, _, _, _, _, _, _, _, _, _, M, c0, c1, c2, c3, c4, c5, fun h => (c6 h).keep (GKeeps.alloc w.heap.size u _), fun _ => ⟨_, [0, 0, 1, 1, 2], rfl, rfl, by intro z hz; simp at hz; omega, HA.out⟩, c8, c9, fun h => (c10 h).keep (GKeeps.alloc w.heap.size u _), c11, fun h => (c12 h).keep (GKeeps.alloc w.heap.size u _), c13, c14, c15, hM, G.next (below_box u _)⟩
    · skip
      refine wpOp_step rfl (fun K hK => ?_)
      go_simp
      refine hK _ _ ?_
      exact ⟨l0, l1, l2, l3, l4, l5, l6, l7, true, l9, l10, l11, l12, l13, l14, l15, _, _, _, _, _, _, _, _, _, _, _, _, _, _, _, _, _, _, _, _, _, _, M, c0, c1, c2, c3, c4, c5, c6, c7, fun _ => rfl, c9, c10, c11, c12, c13, c14, c15, hM, G⟩
    · obtain rfl := c8 (hd { on := 8, ground := Ground.data } (by simp) rfl)
      have e9 : l9 = false := hl
      subst e9
      refine wpOp_step rfl (fun K hK => ?_)
      go_simp
      refine (gpick 5 (by omega) G (by omega)).mono ?_
      rintro e u' ⟨xk, h0, h1, rfl, G', KA, hg⟩
      refine hK _ _ ?_
      exact ⟨l0, l1, l2, l3, l4, l5, l6, l7, l8, true, l10, l11, l12, l13, l14, l15, _, _, _, _, _, _, _, _, _, _, _, _, _, _, _, _, _, _, _, _, _, _, (M + 1), c0, c1, c2, c3, c4, c5, fun h => (c6 h).keep KA, fun h => (c7 h).keep KA, c8, fun _ => ⟨xk, rfl, h0, by omega⟩, fun h => (c10 h).keep KA, c11, fun h => (c12 h).keep KA, c13, c14, c15, by simp only [Bool.false_eq_true, if_false, if_true] at hM ⊢; omega, G'⟩
    · obtain ⟨b, rfl, hx⟩ := (c7 (hd { on := 7, ground := Ground.data } (by simp) rfl)).index
      obtain ⟨xk, rfl, x0, x1⟩ := (c9 (hd { on := 9, ground := Ground.data } (by simp) rfl)).any
      have x2 : xk < 5 := by omega
      have HX := Lib.hid (hx xk x0 (by omega))
      refine wpOp_step rfl (fun K hK => ?_)
      go_simp
      refine hK _ _ ?_
      exact ⟨l0, l1, l2, l3, l4, l5, l6, l7, l8, l9, true, l11, l12, l13, l14, l15, _, _, _, _, _, _, _, _, _, _, _, _, _, _, _, _, _, _, _, _, _, _, M, c0, c1, c2, c3, c4, c5, c6, c7, c8, c9, fun _ => HX.out, c11, c12, c13, c14, c15, hM, G⟩
    · obtain ⟨b, k, z, rfl, ck, k0, k1⟩ := (c10 (hd { on := 10, ground := Ground.data } (by simp) rfl)).load
      refine wpOp_step rfl (fun K hK => ?_)
      go_simp
      refine hK _ _ ?_
      exact ⟨l0, l1, l2, l3, l4, l5, l6, l7, l8, l9, l10, true, l12, l13, l14, l15, _, _, _, _, _, _, _, _, _, _, _, _, _, _, _, _, _, _, _, _, _, _, M, c0, c1, c2, c3, c4, c5, c6, c7, c8, c9, c10, fun _ => ⟨z, rfl, k0, k1⟩, c12, c13, c14, c15, hM, G⟩
    · obtain ⟨b, rfl, hx⟩ := (c6 (hd { on := 6, ground := Ground.data } (by simp) rfl)).index
      obtain ⟨xk, rfl, x0, x1⟩ := (c11 (hd { on := 11, ground := Ground.data } (by simp) rfl)).any
      have x2 : xk < 3 := by omega
      have HX := Lib.hid (hx xk x0 (by omega))
      refine wpOp_step rfl (fun K hK => ?_)
      go_simp
      refine hK _ _ ?_
      exact ⟨l0, l1, l2, l3, l4, l5, l6, l7, l8, l9, l10, l11, true, l13, l14, l15, _, _, _, _, _, _, _, _, _, _, _, _, _, _, _, _, _, _, _, _, _, _, M, c0, c1, c2, c3, c4, c5, c6, c7, c8, c9, c10, c11, fun _ => HX.out, c13, c14, c15, hM, G⟩
    · obtain ⟨b, k, z, rfl, ck, k0, k1⟩ := (c12 (hd { on := 12, ground := Ground.data } (by simp) rfl)).load
      refine wpOp_step rfl (fun K hK => ?_)
      go_simp
      refine hK _ _ ?_
      exact ⟨l0, l1, l2, l3, l4, l5, l6, l7, l8, l9, l10, l11, l12, true, l14, l15, _, _, _, _, _, _, _, _, _, _, _, _, _, _, _, _, _, _, _, _, _, _, M, c0, c1, c2, c3, c4, c5, c6, c7, c8, c9, c10, c11, c12, fun _ => ⟨z, rfl, k0, k1⟩, c14, c15, hM, G⟩
    · obtain rfl := c0 (hd { on := 0, ground := Ground.data } (by simp) rfl)
      refine wpOp_step rfl (fun K hK => ?_)
      go_simp
      refine hK _ _ ?_
      exact ⟨l0, l1, l2, l3, l4, l5, l6, l7, l8, l9, l10, l11, l12, l13, true, l15, _, _, _, _, _, _, _, _, _, _, _, _, _, _, _, _, _, _, _, _, _, _, M, c0, c1, c2, c3, c4, c5, c6, c7, c8, c9, c10, c11, c12, c13, fun _ => rfl, c15, hM, G⟩
    · obtain ⟨x, rfl, h0, h1⟩ := (c13 (hd { on := 13, ground := Ground.data } (by simp) rfl)).any
      refine wpOp_step rfl (fun K hK => ?_)
      go_simp
      refine hK _ _ ?_
      exact ⟨l0, l1, l2, l3, l4, l5, l6, l7, l8, l9, l10, l11, l12, l13, l14, true, _, _, _, _, _, _, _, _, _, _, _, _, _, _, _, _, _, _, _, _, _, _, M, c0, c1, c2, c3, c4, c5, c6, c7, c8, c9, c10, c11, c12, c13, c14, fun _ => ⟨x, rfl, h0, h1⟩, hM, G⟩
  case hlt => exact backB_spec (by kernel_rfl)
  case hsz => exact fun listed a u h => h.size
  case hdone =>
    intro listed act u hR hall
    obtain ⟨l0, l1, l2, l3, l4, l5, l6, l7, l8, l9, l10, l11, l12, l13, l14, l15, v2, v3, v10, v11, v12, v13, v14, v15, v16, v17, v18, v19, v20, v21, v22, v23, p0, p1, p6, p7, p8, p9, M1, c0, c1, c2, c3, c4, c5, c6, c7, c8, c9, c10, c11, c12, c13, c14, c15, hM, G⟩ := hR
    obtain rfl := c14 (hall 14 (by decide))
    obtain ⟨n9, rfl, n90, n91⟩ := (c15 (hall 15 (by decide))).any
    have HO3 := Lib.hid (Prr.OwnPt.down6 (HO2.out.same fun g hg => G.keep g (World.ownsRow.lt HO2.out g hg).2 (by have := (World.ownsRow.lt HO2.out g hg).1; have := HLT.out; omega) (by simp)) HB1.out.size)
    have HB3 := Lib.hid G.old
    clear c0 c1 c2 c3 c4 c5 c6 c7 c8 c9 c10 c11 c12 c13 c14 c15 hall G
    go_wp2
    exact bodyPost_ret (v := .tuple #[.slice sa sl sc, .int .i64 n9]) (by simp [results, Try.results21, go_sem]) rfl ⟨⟨sa, sl, sc⟩, ps, n9, rfl, HC.out.1, HC.out.2.1, HC.out.2.2, ⟨n90, n91⟩, HO3.out, HB3.out⟩
set_option maxHeartbeats 8000000 in
theorem drawFitSlope (w : World) (a : Option Addr) (len cap : Nat) (zs : List Int) (h : Bytes w a len cap zs) :
    Calls Try.prog 23 #[.slice a len cap] w (GotPr w) := by
  go_enter Try.func23, Try.ntmps23
  go_wp2_with fail
  refine (gopen w _ a len cap zs h (Below.refl _ _) w.heap.size rfl).mono ?_
  rintro e w1 ⟨rfl, hr1, hb1⟩
  have HR1 := Lib.hid hr1
  have HB1 := Lib.hid hb1
  clear hb1 h hr1
  go_wp2_with fail
  refine (Prr.l20Pairs w.heap.size 0 w.heap.size 9 w1 HR1.out (by omega) (by omega) (by omega)).mono ?_
  rintro e w2 ⟨⟨sa, sl, sc⟩, ps, rfl, hsl, hn, hsm, S⟩
  have HB1z := Lib.hid HB1.out.size
  have HLT := Lib.hid HR1.out.lt
  have S1 := Lib.hid S
  obtain rfl : sl = ps.length := hsl
  have HN := Lib.hid hn
  have HSM := Lib.hid hsm
  clear S hn hsm HR1
  go_wp2_with fail
  refine (oddA w.heap.size _ w.heap.size 6 _ S1.out.rd (by omega) (by omega) (by omega)).mono ?_
  rintro e w3 ⟨b, rfl, hr3, hg3, hs3⟩
  have S2 := Lib.hid (S1.out.pick hr3 hg3 HLT.out)
  clear hr3 hg3 hs3 S1
  cases b
  · have HB2 := Lib.hid (HB1.out.grown S2.out.gr HB1.out.size (fun q hq => by injection hq with hq; omega))
    have HO2 := Lib.hid (S2.out.row.down6 HB1.out.size)
    clear S2
    go_wp2
    go_ret
    exact ⟨⟨sa, _, sc⟩, ps, rfl, rfl, HN.out, HSM.out, HO2.out, HB2.out⟩
  obtain ⟨n, hnl⟩ : ∃ n, ps.length = n := ⟨_, rfl⟩
  rw [hnl] at S2
  have HNL : Hid (n ≤ 21) := Lib.hid (by have := HN.out; omega)
  have HR0 : Hid (∃ qs : List (Int × Int), qs.length = n ∧ Prr.SmP qs ∧ Prr.LSt w1 w.heap.size 41 w.heap.size w3 (.slice sa n sc) qs) := Lib.hid ⟨ps, hnl, HSM.out, S2.out⟩
  rw [hnl]
  clear S2 HSM HN hnl
  go_wp2
  go_loopw [5] (fun iv wr => ∃ k : Nat, k ≤ n ∧ iv = .int .i64 (k : Int) ∧ Hid (∃ qs : List (Int × Int), qs.length = n ∧ Prr.SmP qs ∧ Prr.LSt w1 w.heap.size 41 w.heap.size wr (.slice sa n sc) qs)) (fun iv _ => n - (intOf iv).toNat)
  case atStart => exact ⟨0, Nat.zero_le _, rfl, HR0⟩
  case round =>
    obtain ⟨k, hk, rfl, HS⟩ := hrel
    clear HR0
    obtain ⟨qs, hq, hsm, S⟩ := HS.out
    have hn21 : n ≤ 21 := HNL.out
    by_cases hlt : k < n
    · obtain ⟨g, cap, he, hg1, hg2⟩ := S.row.at7 (by omega)
      simp only [Value.slice.injEq] at he
      obtain ⟨rfl, hne, rfl⟩ := he
      clear hne
      have j1 : (0 : Int) ≤ (k : Int) := by omega
      have j2 : (k : Int) < (n : Int) := by omega
      have SR : wr.ownsRow w1.heap.size 27 2 (.slice (some ⟨g, 0, none⟩) n sc) n (Prr.pvals qs) := by have := S.row; unfold Prr.OwnPt at this; rwa [hq] at this
      have d2 := World.ownsRow.cellAt SR (k * 2) (by omega)
      have d3 := World.ownsRow.frozenAt SR (k * 2)
      rw [Prr.pvals_at qs _ (by omega)] at d2
      clear SR
      have HS2 := Lib.hid (show ∃ zs : List (Int × Int), zs.length = n ∧ Prr.SmP zs ∧ Prr.LSt w1 w.heap.size 41 w.heap.size (wr.setCell ⟨g, k * 2, none⟩ (.int .i64 5)) (.slice (some ⟨g, 0, none⟩) n sc) zs from ⟨_, by rw [List.length_set]; exact hq, hsm.fst k (by omega) (by omega), S.put0 HLT.out (by have := HB1z.out; omega) (by omega) 5⟩)
      clear S hsm HS hg1 hg2
      go_wp2
      go_roundw
      case rel => exact ⟨k + 1, by omega, by congr 1, HS2⟩
      case measure => simp [intOf]; omega
    · obtain rfl : k = n := by omega
      have HB2 := Lib.hid (HB1.out.grown S.gr HB1.out.size (fun q hq => by injection hq with hq; omega))
      have HO2 := Lib.hid (S.row.down6 HB1.out.size)
      have HC := Lib.hid (And.intro hq hsm)
      clear S hsm hq HS
      go_wp2
      go_ret
      exact ⟨⟨sa, _, sc⟩, qs, rfl, HC.out.1.symm, by rw [HC.out.1]; exact HNL.out, HC.out.2, HO2.out, HB2.out⟩
set_option maxHeartbeats 8000000 in
theorem drawWithoutOutliers (w : World) (a : Option Addr) (len cap : Nat) (zs : List Int) (h : Bytes w a len cap zs) :
    Calls Try.prog 26 #[.slice a len cap] w (GotPN (-1) 198 w) := by
  go_enter Try.func26, Try.ntmps26
  go_wp2_with fail
  refine (gopen w _ a len cap zs h (Below.refl _ _) w.heap.size rfl).mono ?_
  rintro e w1 ⟨rfl, hr1, hb1⟩
  have HR1 := Lib.hid hr1
  have HB1 := Lib.hid hb1
  clear hb1 h hr1
  go_wp2_with fail
  refine (Prr.l20Pairs w.heap.size 0 w.heap.size 9 w1 HR1.out (by omega) (by omega) (by omega)).mono ?_
  rintro e w2 ⟨⟨sa, sl, sc⟩, ps, rfl, hsl, hn, hsm, S⟩
  have HB1z := Lib.hid HB1.out.size
  have HLT := Lib.hid HR1.out.lt
  have S1 := Lib.hid S
  obtain rfl : sl = ps.length := hsl
  have HN := Lib.hid hn
  have HSM := Lib.hid hsm
  have hn21 := hn
  clear S hn hsm HR1
  by_cases hz : ps.length = 0
  · have q0 : ¬ ((0 : Int) < (ps.length : Int)) := by omega
    have q1 : decide ((0 : Int) < (ps.length : Int)) = false := decide_eq_false q0
    clear hz
    go_wp2_with fail
    refine (pick w.heap.size _ w.heap.size 200 _ S1.out.rd (by omega)).mono ?_
    rintro e w9 ⟨x9, a9, b9, rfl, hr9, hg9, hs9⟩
    have c9 := b9 (by omega)
    have o9 : IntKind.i64.wrap (x9 - 1) = x9 - 1 := wrap_in (by omega) (by omega)
    have S9 := Lib.hid (S1.out.pick hr9 hg9 HLT.out)
    have HB9 := Lib.hid (HB1.out.grown S9.out.gr HB1.out.size (fun q hq => by injection hq with hq; omega))
    have HO9 := Lib.hid (S9.out.row.down6 HB1.out.size)
    have HX9 := Lib.hid (show -1 ≤ x9 - 1 ∧ x9 - 1 ≤ 198 by omega)
    clear b9 hr9 hg9 hs9 S9 S1 a9 c9
    go_wp2
    exact bodyPost_ret (v := .tuple #[.slice sa ps.length sc, .int .i64 (x9 - 1)]) (by simp [results, Try.results26, go_sem]) rfl ⟨⟨sa, ps.length, sc⟩, ps, x9 - 1, rfl, rfl, HN.out, HSM.out, HX9.out, HO9.out, HB9.out⟩
  have q0 : (0 : Int) < (ps.length : Int) := by omega
  go_wp2_with fail
  refine (pick w.heap.size _ w.heap.size 2 _ S1.out.rd (by omega)).mono ?_
  rintro e w3 ⟨x3, a3, b3, rfl, hr3, hg3, hs3⟩
  have c3 := b3 (by omega)
  have S2 := Lib.hid (S1.out.pick hr3 hg3 HLT.out)
  clear b3 hr3 hg3 hs3 S1
  have hx : x3 = 0 ∨ x3 = 1 := by omega
  clear a3 c3
  rcases hx with rfl | rfl
  rotate_left
  · go_wp2_with fail
    refine (pick w.heap.size _ w.heap.size 200 _ S2.out.rd (by omega)).mono ?_
    rintro e w9 ⟨x9, a9, b9, rfl, hr9, hg9, hs9⟩
    have c9 := b9 (by omega)
    have o9 : IntKind.i64.wrap (x9 - 1) = x9 - 1 := wrap_in (by omega) (by omega)
    have S9 := Lib.hid (S2.out.pick hr9 hg9 HLT.out)
    have HB9 := Lib.hid (HB1.out.grown S9.out.gr HB1.out.size (fun q hq => by injection hq with hq; omega))
    have HO9 := Lib.hid (S9.out.row.down6 HB1.out.size)
    have HX9 := Lib.hid (show -1 ≤ x9 - 1 ∧ x9 - 1 ≤ 198 by omega)
    clear b9 hr9 hg9 hs9 S9 S2 a9 c9
    go_wp2
    exact bodyPost_ret (v := .tuple #[.slice sa ps.length sc, .int .i64 (x9 - 1)]) (by simp [results, Try.results26, go_sem]) rfl ⟨⟨sa, ps.length, sc⟩, ps, x9 - 1, rfl, rfl, HN.out, HSM.out, HX9.out, HO9.out, HB9.out⟩
  go_wp2_with fail
  refine (pick w.heap.size _ w.heap.size (ps.length : Int) _ S2.out.rd (by omega)).mono ?_
  rintro e w4 ⟨x4, a4, b4, rfl, hr4, hg4, hs4⟩
  have c4 := b4 (by omega)
  have S3 := Lib.hid (S2.out.pick hr4 hg4 HLT.out)
  clear b4 hr4 hg4 hs4 S2
  obtain ⟨i, rfl⟩ : ∃ i : Nat, x4 = (i : Int) := ⟨x4.toNat, by omega⟩
  have hi : i < ps.length := by omega
  obtain ⟨g, cap, he, hg1, hg2⟩ := S3.out.row.at7 (by omega)
  simp only [Value.slice.injEq] at he
  obtain ⟨rfl, hne, rfl⟩ := he
  clear hne
  have d2 := World.ownsRow.cellAt S3.out.row (i * 2 + 1) (by omega)
  have d3 := World.ownsRow.frozenAt S3.out.row (i * 2 + 1)
  rw [Prr.pvals_at ps _ (by omega)] at d2
  have S4 := Lib.hid (S3.out.put1 HLT.out (by have := HB1z.out; omega) hi 900)
  have HSM4 := Lib.hid (HSM.out.snd i (y := 900) (by omega) (by omega))
  clear S3 HSM hg1 hg2 hz
  go_upto_region 5 with fail
  generalize w4.setCell ⟨g, i * 2 + 1, none⟩ (.int .i64 900) = w5 at *
  clear d2 d3
  go_wp2_with fail
  refine (pick w.heap.size _ w.heap.size 200 _ S4.out.rd (by omega)).mono ?_
  rintro e w9 ⟨x9, a9, b9, rfl, hr9, hg9, hs9⟩
  have c9 := b9 (by omega)
  have o9 : IntKind.i64.wrap (x9 - 1) = x9 - 1 := wrap_in (by omega) (by omega)
  have S9 := Lib.hid (S4.out.pick hr9 hg9 HLT.out)
  have HB9 := Lib.hid (HB1.out.grown S9.out.gr HB1.out.size (fun q hq => by injection hq with hq; omega))
  have HO9 := Lib.hid (S9.out.row.down6 HB1.out.size)
  have HX9 := Lib.hid (show -1 ≤ x9 - 1 ∧ x9 - 1 ≤ 198 by omega)
  clear b9 hr9 hg9 hs9 S9 S4 a9 c9
  go_wp2
  exact bodyPost_ret (v := .tuple #[.slice (some ⟨g, 0, none⟩) ps.length sc, .int .i64 (x9 - 1)]) (by simp [results, Try.results26, go_sem]) rfl ⟨⟨some ⟨g, 0, none⟩, ps.length, sc⟩, ps.set i ((ps.getD i (0, 0)).1, 900), x9 - 1, rfl, by rw [List.length_set], by rw [List.length_set]; exact HN.out, HSM4.out, HX9.out, HO9.out, HB9.out⟩
end Go.Proofs.Ytppkipcgpmijpaa
