/- What the laws on curves draw from a code, lists and numbers. -/
import Derived.Test.YtlbheofomjakmaaDc7
namespace Go.Proofs.Ytlbheofomjakmaa
set_option maxRecDepth 100000
open Go.RowKit
attribute [local go_sem ↓] Go.wp_at_zero Go.wp_at_succ
/-- What holds when the operations of 'listed' have come up. -/
inductive RFCvs (w w0 : World) (r  : Nat) (s : Sl) (u : World) : Array Bool → Act → Prop
  | mk (l0 l1 l2 l3 l4 l5 l6 l7 : Bool) (v2 v3 v10 v11 v12 v13 v14 v15 p0 p1 p6 p7 p8 p9 : Value) (M : Nat)
    (c0 : l0 = true → v10 = .slice s.a s.len s.cap) (c1 : l1 = true → CA r u 10 (0) (65) v11) (c2 : l2 = true → v12 = .pointer (some ⟨r, 0, none⟩)) (c3 : l3 = true → CI 0 9 v13) (c4 : l4 = true → CP r u (0) (65) v14) (c5 : l5 = true → CI (0) (65) v15) (c6 : l6 = true → v2 = .slice s.a s.len s.cap) (c7 : l7 = true → CI (0) (65) v3)
    (hM : M + ((if l3 then 0 else 1)) ≤ 60) (G : GSt w w0 r [] M u) : RFCvs w w0 r   s u #[l0, l1, l2, l3, l4, l5, l6, l7] { tmps := #[p0, p1, v2, v3, .pointer (some ⟨r, 0, none⟩), .slice s.a s.len s.cap, p6, p7, p8, p9, v10, v11, v12, v13, v14, v15], defers := [] }
theorem RFCvs.size {w w0 : World} {r  : Nat} {s : Sl} {u : World} {listed : Array Bool} {a : Act} (h : RFCvs w w0 r   s u listed a) : listed.size = 8 := by cases h; rfl
/-- What a draw of a list of points says. -/
def GotL (N : Nat) (w : World) (e : Ending) (w' : World) : Prop :=
  ∃ (s : Sl) (ps : List (Int × Int)), e = .returned (.slice s.a s.len s.cap) ∧ s.len = ps.length ∧ ps.length ≤ N ∧ SmP ps ∧ OwnPt w' w.heap.size (.slice s.a s.len s.cap) ps ∧ Below w.heap.size w w'
def GotLn (N : Nat) (lo hi : Int) (w : World) (e : Ending) (w' : World) : Prop :=
  ∃ (s : Sl) (ps : List (Int × Int)) (t : Int), e = .returned (.tuple #[.slice s.a s.len s.cap, .int .i64 t]) ∧ s.len = ps.length ∧ ps.length ≤ N ∧ SmP ps ∧ OwnPt w' w.heap.size (.slice s.a s.len s.cap) ps ∧ lo ≤ t ∧ t ≤ hi ∧ Below w.heap.size w w'
theorem LSt.got {w w1 u : World} {M r : Nat} {v : Value} {ps : List (Int × Int)} (h : LSt w1 w.heap.size M r u v ps) (hb : Below w.heap.size w w1) (hr : w.heap.size ≤ r) : OwnPt u w.heap.size v ps ∧ Below w.heap.size w u :=
  ⟨h.row.down6 hb.size, hb.grown h.gr hb.size (fun q hq => by injection hq with hq; omega)⟩
theorem drawCurveValid (w : World) (a : Option Addr) (len cap : Nat) (zs : List Int) (h : Bytes w a len cap zs) :
    Calls Try.prog 12 #[.slice a len cap] w (GotL 5 w) := by
  go_enter Try.func12, Try.ntmps12
  go_wp2_with fail
  refine (gopen w _ a len cap zs h (Below.refl _ _) w.heap.size rfl).mono ?_
  rintro e w1 ⟨rfl, hr1, hb1⟩
  go_wp2_with fail
  refine (l20Curve _ _ _ 2 _ hr1 (by omega) (by omega) (by omega)).mono ?_
  rintro e w2 ⟨s, ps, rfl, hl, hn, hs, S⟩
  have HG := Lib.hid (S.got hb1 (Nat.le_refl _))
  have HL := Lib.hid hl
  have HS := Lib.hid hs
  clear S hr1 hb1 h hl hs
  go_wp2
  go_ret
  exact ⟨s, ps, rfl, HL.out, hn, HS.out, HG.out⟩
theorem drawCurvePoint (w : World) (a : Option Addr) (len cap : Nat) (zs : List Int) (h : Bytes w a len cap zs) :
    Calls Try.prog 16 #[.slice a len cap] w (GotLn 5 (-1) 65 w) := by
  go_enter Try.func16, Try.ntmps16
  go_wp2_with fail
  refine (gopen w _ a len cap zs h (Below.refl _ _) w.heap.size rfl).mono ?_
  rintro e w1 ⟨rfl, hr1, hb1⟩
  have hlt1 := hr1.lt
  go_wp2_with fail
  refine (l20Curve _ _ _ 12 _ hr1 (by omega) (by omega) (by omega)).mono ?_
  rintro e w2 ⟨s, ps, rfl, hl, hn, hs, S⟩
  have HL := Lib.hid hl
  have HS := Lib.hid hs
  clear hl hs hr1 h
  go_wp2_with fail
  refine (pick _ _ _ 67 _ S.rd (by omega)).mono ?_
  rintro e w3 ⟨x, x0, x1, rfl, hr3, hg3, hs3⟩
  have x2 := x1 (by omega)
  have HG := Lib.hid ((S.pick hr3 hg3 hlt1).got hb1 (Nat.le_refl _))
  clear S hb1 x1 hr3 hg3 hs3
  go_wp2
  go_ret2
  exact ⟨s, ps, x - 1, rfl, HL.out, hn, HS.out, HG.out.1, by omega, by omega, HG.out.2⟩
set_option maxHeartbeats 16000000 in
theorem drawCurvePoints (w : World) (a : Option Addr) (len cap : Nat) (zs : List Int) (h : Bytes w a len cap zs) :
    Calls Try.prog 21 #[.slice a len cap] w (GotLn 5 0 65 w) := by
  go_enter Try.func21, Try.ntmps21
  go_wp2_with fail
  refine (gopen w _ a len cap zs h (Below.refl _ _) w.heap.size rfl).mono ?_
  rintro e w1 ⟨rfl, hr1, hb1⟩
  have hlt1 := hr1.lt
  go_wp2_with fail
  refine (l20Curve _ _ _ 12 _ hr1 (by omega) (by omega) (by omega)).mono ?_
  rintro e w0 ⟨s, ps, rfl, hl, hn, hs, S⟩
  have HL := Lib.hid hl
  have HS := Lib.hid hs
  have HROW := Lib.hid (And.intro (S.got hb1 (Nat.le_refl _)).1 (fun k (hk : (Value.slice s.a s.len s.cap).ownBlock = some k) => (show k ≠ w.heap.size ∧ k ∉ ([] : List Nat) from ⟨by have := S.old k hk; omega, by simp⟩)))
  have G0 := Lib.hid ((GSt.start (w := w) (rs := []) S.rd (S.got hb1 (Nat.le_refl _)).2).drew)
  have HM0 := Lib.hid (show 0 + 40 + (if false then 0 else 1) ≤ 60 by decide)
  have HWP : Hid (∀ (u : World) (M : Nat), GSt w w0 w.heap.size [] M u → OwnPt u w.heap.size (.slice s.a s.len s.cap) ps) := Lib.hid (fun u M G => G.ownPt HROW.out.1 HROW.out.2)
  clear S hl hs hr1 hb1 h HROW
  go_upto_region 3 with fail
  refine wp_region_inv (fun listed act u => RFCvs w w0 w.heap.size   s u listed act) (by kernel_rfl) ?hlt ?hsz ?h0 ?hstep ?hdone
  case h0 =>
    exact ⟨false, false, false, false, false, false, false, false, _, _, _, _, _, _, _, _, _, _, _, _, _, _, _, (by intro h; cases h), (by intro h; cases h), (by intro h; cases h), (by intro h; cases h), (by intro h; cases h), (by intro h; cases h), (by intro h; cases h), (by intro h; cases h), HM0.out, G0.out⟩
  case hstep =>
    intro listed act u i o hR ho hl hd
    obtain ⟨l0, l1, l2, l3, l4, l5, l6, l7, v2, v3, v10, v11, v12, v13, v14, v15, p0, p1, p6, p7, p8, p9, M, c0, c1, c2, c3, c4, c5, c6, c7, hM, G⟩ := hR
    have hi : i < 8 := by rcases Nat.lt_or_ge i 8 with h | h; exact h; rw [Array.getElem?_eq_none (by simpa using h)] at ho; cases ho
    have hi2 : i = 0 ∨ i = 1 ∨ i = 2 ∨ i = 3 ∨ i = 4 ∨ i = 5 ∨ i = 6 ∨ i = 7 := by omega
    rcases hi2 with rfl | rfl | rfl | rfl | rfl | rfl | rfl | rfl
    all_goals (cases ho)
    · skip
      refine wpOp_step rfl (fun K hK => ?_)
      go_simp
      refine hK _ _ ?_
      exact ⟨true, l1, l2, l3, l4, l5, l6, l7, _, _, _, _, _, _, _, _, _, _, _, _, _, _, M, fun _ => rfl, c1, c2, c3, c4, c5, c6, c7, hM, G⟩
    · have hlt := G.rd.lt
      have HA := Lib.hid (GArr.new (r := w.heap.size) u [1, 2, 4, 8, 16, 32, 64, 0, 3, 65] [.int .i64 1, .int .i64 2, .int .i64 4, .int .i64 8, .int .i64 16, .int .i64 32, .int .i64 64, .int .i64 0, .int .i64 3, .int .i64 65] rfl 3 hlt)
      refine wpOp_step rfl (fun K hK => ?_)
      go_simp
      refine hK _ _ ?_
      exact ⟨l0, true, l2, l3, l4, l5, l6, l7, _, _, _, _, _, _, _, _, _, _, _, _, _, _, M, c0, fun _ => ⟨_, [1, 2, 4, 8, 16, 32, 64, 0, 3, 65], rfl, rfl, by intro z hz; simp at hz; omega, HA.out⟩, c2, c3, fun h => (c4 h).keep (GKeeps.alloc w.heap.size u _), c5, c6, c7, hM, G.next (below_box u _)⟩
    · skip
      refine wpOp_step rfl (fun K hK => ?_)
      go_simp
      refine hK _ _ ?_
      exact ⟨l0, l1, true, l3, l4, l5, l6, l7, _, _, _, _, _, _, _, _, _, _, _, _, _, _, M, c0, c1, fun _ => rfl, c3, c4, c5, c6, c7, hM, G⟩
    · obtain rfl := c2 (hd { on := 2, ground := Ground.data } (by simp) rfl)
      have e3 : l3 = false := hl
      subst e3
      refine wpOp_step rfl (fun K hK => ?_)
      go_simp
      refine (gpick 10 (by omega) G (by omega)).mono ?_
      rintro e u' ⟨xk, h0, h1, rfl, G', KA, hg⟩
      refine hK _ _ ?_
      exact ⟨l0, l1, l2, true, l4, l5, l6, l7, _, _, _, _, _, _, _, _, _, _, _, _, _, _, (M + 1), c0, fun h => (c1 h).keep KA, c2, fun _ => ⟨xk, rfl, h0, by omega⟩, fun h => (c4 h).keep KA, c5, c6, c7, by simp only [Bool.false_eq_true, if_false, if_true] at hM ⊢; omega, G'⟩
    · obtain ⟨b, rfl, hx⟩ := (c1 (hd { on := 1, ground := Ground.data } (by simp) rfl)).index
      obtain ⟨xk, rfl, x0, x1⟩ := (c3 (hd { on := 3, ground := Ground.data } (by simp) rfl)).any
      have x2 : xk < 10 := by omega
      have HX := Lib.hid (hx xk x0 (by omega))
      refine wpOp_step rfl (fun K hK => ?_)
      go_simp
      refine hK _ _ ?_
      exact ⟨l0, l1, l2, l3, true, l5, l6, l7, _, _, _, _, _, _, _, _, _, _, _, _, _, _, M, c0, c1, c2, c3, fun _ => HX.out, c5, c6, c7, hM, G⟩
    · obtain ⟨b, k, z, rfl, ck, k0, k1⟩ := (c4 (hd { on := 4, ground := Ground.data } (by simp) rfl)).load
      refine wpOp_step rfl (fun K hK => ?_)
      go_simp
      refine hK _ _ ?_
      exact ⟨l0, l1, l2, l3, l4, true, l6, l7, _, _, _, _, _, _, _, _, _, _, _, _, _, _, M, c0, c1, c2, c3, c4, fun _ => ⟨z, rfl, k0, k1⟩, c6, c7, hM, G⟩
    · obtain rfl := c0 (hd { on := 0, ground := Ground.data } (by simp) rfl)
      refine wpOp_step rfl (fun K hK => ?_)
      go_simp
      refine hK _ _ ?_
      exact ⟨l0, l1, l2, l3, l4, l5, true, l7, _, _, _, _, _, _, _, _, _, _, _, _, _, _, M, c0, c1, c2, c3, c4, c5, fun _ => rfl, c7, hM, G⟩
    · obtain ⟨x, rfl, h0, h1⟩ := (c5 (hd { on := 5, ground := Ground.data } (by simp) rfl)).any
      refine wpOp_step rfl (fun K hK => ?_)
      go_simp
      refine hK _ _ ?_
      exact ⟨l0, l1, l2, l3, l4, l5, l6, true, _, _, _, _, _, _, _, _, _, _, _, _, _, _, M, c0, c1, c2, c3, c4, c5, c6, fun _ => ⟨x, rfl, h0, h1⟩, hM, G⟩
  case hlt => exact backB_spec (by kernel_rfl)
  case hsz => exact fun listed a u h => h.size
  case hdone =>
    intro listed act u hR hall
    obtain ⟨l0, l1, l2, l3, l4, l5, l6, l7, v2, v3, v10, v11, v12, v13, v14, v15, p0, p1, p6, p7, p8, p9, M, c0, c1, c2, c3, c4, c5, c6, c7, hM, G⟩ := hR
    obtain rfl := c6 (hall 6 (by decide))
    obtain ⟨n, rfl, k0, k1⟩ := (c7 (hall 7 (by decide))).any
    have HG := Lib.hid (And.intro (HWP.out _ _ G) G.old)
    clear c0 c1 c2 c3 c4 c5 c6 c7 hall G hM HWP
    go_wp2
    go_ret2
    exact ⟨s, ps, n, rfl, HL.out, hn, HS.out, HG.out.1, k0, k1, HG.out.2⟩
set_option maxHeartbeats 1000000 in
theorem drawBoxOf (w : World) (a : Option Addr) (len cap : Nat) (zs : List Int) (h : Bytes w a len cap zs) :
    Calls Try.prog 25 #[.slice a len cap] w (GotL 8 w) := by
  obtain ⟨i0, hi0, hz0, hz1, hz2⟩ := info_parts infoPt6
  go_enter Try.func25, Try.ntmps25
  go_wp2_with fail
  refine (gopen w _ a len cap zs h (Below.refl _ _) w.heap.size rfl).mono ?_
  rintro e w0 ⟨rfl, hr1, hb1⟩
  have hrlt := hr1.lt
  have hB : w.heap.size ≤ w0.heap.size := hb1.size
  have HB1 := Lib.hid hb1
  have S0 := LSt.new hr1 (World.grownBy.refl w0 (some w.heap.size)) (Nat.le_refl _) 31 rfl
  clear hr1 hb1 h
  go_wp2_with fail
  refine (pick _ _ _ 9 _ S0.rd (by omega)).mono ?_
  rintro e w1 ⟨x1, a1, b1, rfl, hr1, hg1, hs1⟩
  have c1 := b1 (by omega)
  have S1 := Lib.hid (S0.pick hr1 hg1 hrlt)
  clear b1 hr1 hg1 hs1 S0
  obtain ⟨q, rfl⟩ : ∃ q : Nat, x1 = (q : Int) := ⟨x1.toNat, by omega⟩
  have HL : Hid (LoopL w0 w.heap.size 1 w.heap.size q q (.slice (some ⟨w0.heap.size, 0, none⟩) 0 0) w1) := Lib.hid ⟨[], by simp, SmP.nil, S1.out⟩
  clear S1
  go_wp2
  go_loopw [4, 5] (fun v i wr => ∃ k : Nat, k ≤ q ∧ i = .int .i64 (k : Int) ∧ Hid (LoopL w0 w.heap.size 1 w.heap.size q k v wr)) (fun _ i _ => (intOf i).toNat)
  case atStart => exact ⟨q, Nat.le_refl _, rfl, HL⟩
  case round =>
    obtain ⟨k, hk, rfl, HS⟩ := hrel
    clear HL
    obtain ⟨ps, hps, hsm, S⟩ := HS.out
    have hlen : ps.length ≤ 8 := by omega
    by_cases hlt : 0 < k
    · have j1 : (0 : Int) < (k : Int) := by omega
      go_wp2_with fail
      refine (l20Point w.heap.size _ _ 40 _ S.rd (by omega) (by omega) (by omega)).mono ?_
      rintro e w2 ⟨x, y, p1, p2, p3, p4, rfl, hr2, hg2⟩
      have S2 := Lib.hid ((S.pick hr2 hg2 hrlt).alloc (.cells #[.int .i64 x, .int .i64 y] 31))
      have HSM := Lib.hid (hsm.snoc p1 p2 p3 p4)
      have HN := Lib.hid (two_new6 w2 (.int .i64 x) (.int .i64 y) 31)
      have HP := Lib.hid (pvals_snoc6 ps (x, y))
      have HW := Lib.hid S2.out.gr.size
      clear hr2 hg2 S hsm HS p1 p2 p3 p4
      go_wp2_with (at_builtin; refine wpList_append_lies _ rfl (.tmp 15) (.tmp 18) 23 rfl w0.heap.size 31 i0 (pt 0 0) 2 16 Try.underlying23 hi0 hz0 hz1 hz2 rfl (by decide) _ ps.length (pvals ps) rfl S2.out.row ⟨w2.heap.size, 0, none⟩ 1 1 [.int .i64 x, .int .i64 y] rfl rfl HN.out (by intro u hu; simp at hu; rcases hu with rfl | rfl <;> rfl) (by omega) (by unfold maxLen; omega) (by omega) HW.out _ rfl ?_; intro g cap6 w7 own7 grow7 at7 ltg7; have HA7 := Lib.hid (And.intro own7 grow7); clear own7 grow7 at7 ltg7)
      have HR := Lib.hid (S2.out.app (v' := .slice (some ⟨g, 0, none⟩) (ps.length + 1) cap6) (ps' := ps ++ [(x, y)]) hrlt hB (by have o := HA7.out.1; rw [← HP.out] at o; unfold OwnPt; rw [List.length_append]; exact o) HA7.out.2)
      clear HA7 S2
      go_roundw
      case rel => exact ⟨k - 1, by omega, by congr 1; omega, Lib.hid ⟨ps ++ [(x, y)], by simp; omega, HSM.out, HR.out.mono (by simp; omega)⟩⟩
      case measure => simp [intOf]; omega
    · obtain rfl : k = 0 := by omega
      obtain ⟨s, rfl, hl⟩ := S.row.sl
      have HG := Lib.hid (S.got HB1.out (Nat.le_refl _))
      have HSM := Lib.hid hsm
      have HLN := Lib.hid hl
      clear hsm HS S hl
      go_wp2
      go_ret
      exact ⟨s, ps, rfl, HLN.out, hlen, HSM.out, HG.out⟩
end Go.Proofs.Ytlbheofomjakmaa
