/- What DrawMoveJoints and DrawMoveTime draw: an arm, two rows of angles, a limit and a rise. -/
import Derived.Test.YtcoaahfnbgkofaaGst
import Derived.Test.YtcoaahfnbgkofaaDrawB
import Derived.Test.YtcoaahfnbgkofaaDrawC
import Derived.Test.YtcoaahfnbgkofaaDw5
namespace Go.Proofs.Ytcoaahfnbgkofaa
set_option maxRecDepth 100000
open Go.RowKit
attribute [local go_sem ↓] Go.wp_at_zero Go.wp_at_succ
theorem GSt.ints {w w0 u : World} {r M len : Nat} {rs : List Nat} {a : Option Addr} {zs : List Int} (h : GSt w w0 r rs M u) (hi : IntsFrom w0 (r + 1) a len zs) (hrs : ∀ k ∈ rs, k < r) : IntsFrom u (r + 1) a len zs :=
  ⟨hi.1, hi.2.imp id fun ⟨b, off, h1, h2, h3, h4⟩ => ⟨b, off, h1, h2, Nat.lt_of_lt_of_le h3 h.size, fun i hi => (World.cell?_of_block (a := ⟨b, off + i, none⟩) (h.keep b h3 (by omega) (fun hm => by have := hrs b hm; omega))).trans (h4 i hi)⟩⟩
theorem off3 {w : World} {base len c : Nat} {a : Option Addr} {zs : List Int} (h : IntsFrom w base a len zs) (hc : c < base) : ∀ x y z : Value, IntsFrom (((w.setCell ⟨c, 0, none⟩ x).setCell ⟨c, 1, none⟩ y).setCell ⟨c, 2, none⟩ z) base a len zs :=
  fun x y z => ((h.off hc x).off hc y).off hc z
theorem grise {w w0 u : World} {r M : Nat} {rs : List Nat} (h : GSt w w0 r rs M u) (hM : M ≤ 900000) :
    Calls Try.prog 43 #[.pointer (some ⟨r, 0, none⟩), .int .i64 14] u fun e u' => ∃ x : Int, 0 ≤ x ∧ x ≤ 51 ∧ e = .returned (.int .i64 x) ∧ GSt w w0 r rs (M + 3) u' ∧ GKeeps r u u' ∧ u.grownBy u' (some r) :=
  (l20Rise _ M _ 14 u h.rd hM (by omega) (by omega)).mono fun _ _ ⟨x, p0, p1, he, hr, hg⟩ => ⟨x, p0, p1, he, h.grown hr hg, GKeeps.grown hg, hg⟩
/-- What holds when the operations of 'listed' have come up. -/
inductive RFMove (w w0 : World) (r R1 V1 : Nat) (x y z : Sl) (a1 b1 : Sl) (tp : Int) (u : World) : Array Bool → Act → Prop
  | mk (l0 l1 l2 l3 l4 l5 l6 l7 l8 l9 l10 : Bool) (v3 v4 v5 v6 v27 v28 v29 v30 v31 v32 p0 p1 p12 p13 p14 p15 p16 p17 p18 p19 p20 p21 p22 p23 p24 p25 p26 : Value) (M : Nat) (rxR1 ryR1 rzR1 : Value)
    (c0 : l0 = true → v27 = av x y z) (c1 : l1 = true → v28 = .slice a1.a a1.len a1.cap) (c2 : l2 = true → v29 = .slice b1.a b1.len b1.cap) (c3 : l3 = true → v30 = .int .i64 tp) (c4 : l4 = true → v31 = .pointer (some ⟨r, 0, none⟩)) (c5 : l5 = true → CI (0) (51) v32) (c6 : l6 = true → rxR1 = .slice x.a x.len x.cap ∧ ryR1 = .slice y.a y.len y.cap ∧ rzR1 = .slice z.a z.len z.cap) (c7 : l7 = true → v3 = .slice a1.a a1.len a1.cap) (c8 : l8 = true → v4 = .slice b1.a b1.len b1.cap) (c9 : l9 = true → v5 = .int .i64 tp) (c10 : l10 = true → CI (0) (51) v6)
    (hM : M + ((if l5 then 0 else 3)) ≤ 900) (G : GSt w w0 r [R1] M u) (oR1 : AtA u R1 rxR1 ryR1 rzR1) : RFMove w w0 r R1 V1 x y z a1 b1 tp u #[l0, l1, l2, l3, l4, l5, l6, l7, l8, l9, l10] { tmps := #[p0, p1, .pointer (some ⟨R1, 0, none⟩), v3, v4, v5, v6, .pointer (some ⟨r, 0, none⟩), .pointer (some ⟨V1, 0, none⟩), .slice a1.a a1.len a1.cap, .slice b1.a b1.len b1.cap, .int .i64 tp, p12, p13, p14, p15, p16, p17, p18, p19, p20, p21, p22, p23, p24, p25, p26, v27, v28, v29, v30, v31, v32], defers := [] }
theorem RFMove.size {w w0 : World} {r R1 V1 : Nat} {x y z : Sl} {a1 b1 : Sl} {tp : Int} {u : World} {listed : Array Bool} {a : Act} (h : RFMove w w0 r R1 V1 x y z a1 b1 tp u listed a) : listed.size = 11 := by cases h; rfl
/-- What the draw says. -/
def GotMove (w : World) (e : Ending) (w' : World) : Prop :=
  ∃ (x y z a b : Sl) (ls lo hi fs ts : List Int) (t r : Int), e = .returned (.tuple #[av x y z, .slice a.a a.len a.cap, .slice b.a b.len b.cap, .int .i64 t, .int .i64 r]) ∧ IntsFrom w' w.heap.size x.a x.len ls ∧ IntsFrom w' w.heap.size y.a y.len lo ∧ IntsFrom w' w.heap.size z.a z.len hi ∧ IntsFrom w' w.heap.size a.a a.len fs ∧ IntsFrom w' w.heap.size b.a b.len ts ∧
    (x.len ≤ 5 ∧ y.len ≤ 4 ∧ z.len ≤ 4 ∧ a.len ≤ 5 ∧ b.len ≤ 5) ∧ (0 ≤ t ∧ t ≤ 201) ∧ (0 ≤ r ∧ r ≤ 51) ∧ Below w.heap.size w w'
set_option maxHeartbeats 8000000 in
theorem drawMoveJoints (w : World) (a : Option Addr) (len cap : Nat) (zs : List Int) (h : Bytes w a len cap zs) :
    Calls Try.prog 9 #[.slice a len cap] w (GotMove w) := by
  have HB := Lib.hid (below_box w (.cells #[.slice none 0 0, .slice none 0 0, .slice none 0 0] 25))
  have R0 := AtA.box w (.slice none 0 0) (.slice none 0 0) (.slice none 0 0) 25
  go_enter Try.func9, Try.ntmps9
  go_wp2_with fail
  refine (gopen w _ a len cap zs h HB.out (w.heap.size + 1) (by simp)).mono ?_
  rintro e w1 ⟨rfl, hr1, hb1⟩
  have R1' := Lib.hid (R0.next hb1)
  have H1 := Lib.hid (below_call HB.out hb1)
  clear R0 HB hb1 h
  go_wp2_with fail
  refine (pick _ _ _ 4 _ hr1 (by omega)).mono ?_
  rintro e w2 ⟨q, a1, b1, rfl, hr2, hg2, hs2⟩
  have b2 := b1 (by omega)
  obtain ⟨m, hm⟩ : ∃ m : Nat, 1 + q = (m : Int) := ⟨(1 + q).toNat, by omega⟩
  have hlt2 := hr2.lt
  clear b1 hs2 hr1
  go_wp2_with fail
  refine (l20Arm _ _ _ m 14 _ hr2 (by omega) (by omega) (by omega) (by omega) (by omega)).mono ?_
  rintro e w3 ⟨⟨xa, xl, xc⟩, ⟨ya, yl, yc⟩, ⟨za, zl, zc⟩, ls, lo, hi, rfl, i1, i2, i3, lx, ly, lz, kx, ky, kz, sx, sy, sz, hr3, hg3⟩
  simp only at i1 i2 i3 lx ly lz kx ky kz
  have hg := hg2.trans hg3
  have H3 := Lib.hid (H1.out.grown hg H1.out.size (fun k hk => by injection hk with hk; omega))
  have Bv := below_box w3 (.cells #[.slice xa xl xc, .slice ya yl yc, .slice za zl zc] 25)
  have O3 := Lib.hid ((R1'.out.kept hg (by simp)).next Bv)
  have hlt3 := hr3.lt
  have P3 := AtA.box w3 (.slice xa xl xc) (.slice ya yl yc) (.slice za zl zc) 25
  have hr4 := hr3.alloc (.cells #[.slice xa xl xc, .slice ya yl yc, .slice za zl zc] 25)
  have H4 := Lib.hid (below_call H3.out Bv)
  have I3 := Lib.hid (And.intro ((i1.down (base' := w.heap.size + 1 + 1) (by omega)).next Bv) (And.intro ((i2.down (base' := w.heap.size + 1 + 1) (by omega)).next Bv) ((i3.down (base' := w.heap.size + 1 + 1) (by omega)).next Bv)))
  obtain ⟨V1, hV1⟩ : ∃ V1, w3.heap.size = V1 := ⟨_, rfl⟩
  rw [hV1] at P3 hlt3
  clear i1 i2 i3 hr2 hg2 hg3 hr3 hg H1 H3 R1' Bv
  go_upto_region 3 with fail
  clear hV1 hm
  generalize w3.alloc (.cells #[.slice xa xl xc, .slice ya yl yc, .slice za zl zc] 25) = w4 at *
  have G4 := Lib.hid (GSt.start (rs := [w.heap.size]) hr4 H4.out)
  have hrs : ∀ k ∈ [w.heap.size], k < w.heap.size + 1 := by simp
  have nV1r : V1 ≠ w.heap.size + 1 := by omega
  have nV1s : V1 ∉ [w.heap.size] := by simp; omega
  have hs4 : w.heap.size + 1 < w4.heap.size := by have := P3.lt; omega
  have hPV4 := P3
  obtain ⟨_, k0, k1, k2, _, _, _⟩ := id P3
  go_wp2_with fail
  refine (l20Joints _ _ _ 14 ⟨xa, xl, xc⟩ ⟨ya, yl, yc⟩ ⟨za, zl, zc⟩ ls lo hi _ G4.out.rd (by omega) (by omega) (by omega) I3.out.1 I3.out.2.1 I3.out.2.2 lx ly lz sy sz).mono ?_
  rintro e w5 ⟨⟨aa, al, ac⟩, fs, rfl, ja, la, _, hr5, hg5⟩
  simp only at ja la
  have G5 := Lib.hid (G4.out.grown hr5 hg5)
  have O5 := Lib.hid (O3.out.kept hg5 (by simp))
  have J5 := Lib.hid (ja.down (base' := w.heap.size + 1 + 1) (by omega))
  have P5 := G5.out.ata P3 nV1r nV1s
  clear k0 k1 k2 ja hr5 hg5 P3 O3
  obtain ⟨_, k0, k1, k2, _, _, _⟩ := id P5
  go_wp2_with fail
  refine (l20Joints _ _ _ 14 ⟨xa, xl, xc⟩ ⟨ya, yl, yc⟩ ⟨za, zl, zc⟩ ls lo hi _ G5.out.rd (by omega) (by omega) (by omega) (G5.out.ints I3.out.1 hrs) (G5.out.ints I3.out.2.1 hrs) (G5.out.ints I3.out.2.2 hrs) lx ly lz sy sz).mono ?_
  rintro e w5b ⟨⟨ba, bl, bc⟩, ts, rfl, jb, lb, _, hr6, hg6⟩
  simp only at jb lb
  have G6 := Lib.hid (G5.out.grown hr6 hg6)
  have O6 := Lib.hid (O5.out.kept hg6 (by simp))
  have J6 := Lib.hid (And.intro (J5.out.kept hg6 (fun k hk => by injection hk with hk; omega)) (jb.down (base' := w.heap.size + 1 + 1) (by have := G5.out.size; omega)))
  clear k0 k1 k2 jb hr6 hg6 P5 O5 J5 G5
  go_wp2_with fail
  refine (l20Top _ _ _ 14 _ G6.out.rd (by omega) (by omega) (by omega)).mono ?_
  rintro e w6 ⟨tp, t0, t1, rfl, hr7, hg7⟩
  have G7 := Lib.hid (G6.out.grown hr7 hg7)
  have oR10 := Lib.hid ((O6.out.kept hg7 (by simp)).next (below_drew' _))
  have hPV1 := G7.out.ata hPV4 nV1r nV1s
  have I6 := Lib.hid (And.intro (G7.out.ints I3.out.1 hrs) (And.intro (G7.out.ints I3.out.2.1 hrs) (And.intro (G7.out.ints I3.out.2.2 hrs) (And.intro (J6.out.1.kept hg7 (fun k hk => by injection hk with hk; omega)) (J6.out.2.kept hg7 (fun k hk => by injection hk with hk; omega))))))
  have G0 := Lib.hid ((GSt.start (rs := [w.heap.size]) G7.out.rd G7.out.old).drew)
  have gR1 : w.heap.size ≤ w.heap.size := Nat.le_refl _
  have lR1 : w.heap.size < w.heap.size + 1 := by omega
  have HM0 := Lib.hid (show 0 + 1 + 16 + 16 + 16 + 3 + ((if false then 0 else 3)) ≤ 900 by decide)
  clear hr7 hg7 G6 G7 O6 J6 I3 H4 G4 hPV4 hr4
  go_upto_region 6 with fail
  refine wp_region_inv (fun listed act u => RFMove w w6 (w.heap.size + 1) w.heap.size V1 ⟨xa, xl, xc⟩ ⟨ya, yl, yc⟩ ⟨za, zl, zc⟩ ⟨aa, al, ac⟩ ⟨ba, bl, bc⟩ tp u listed act) (by kernel_rfl) ?hlt ?hsz ?h0 ?hstep ?hdone
  case h0 =>
    exact ⟨false, false, false, false, false, false, false, false, false, false, false, _, _, _, _, _, _, _, _, _, _, _, _, _, _, _, _, _, _, _, _, _, _, _, _, _, _, _, _, _, _, _, (by intro h; cases h), (by intro h; cases h), (by intro h; cases h), (by intro h; cases h), (by intro h; cases h), (by intro h; cases h), (by intro h; cases h), (by intro h; cases h), (by intro h; cases h), (by intro h; cases h), (by intro h; cases h), HM0.out, G0.out, oR10.out⟩
  case hstep =>
    intro listed act u i o hR ho hl hd
    obtain ⟨l0, l1, l2, l3, l4, l5, l6, l7, l8, l9, l10, v3, v4, v5, v6, v27, v28, v29, v30, v31, v32, p0, p1, p12, p13, p14, p15, p16, p17, p18, p19, p20, p21, p22, p23, p24, p25, p26, M, rxR1, ryR1, rzR1, c0, c1, c2, c3, c4, c5, c6, c7, c8, c9, c10, hM, G, oR1⟩ := hR
    have hi : i < 11 := by rcases Nat.lt_or_ge i 11 with h | h; exact h; rw [Array.getElem?_eq_none (by simpa using h)] at ho; cases ho
    have hi2 : i = 0 ∨ i = 1 ∨ i = 2 ∨ i = 3 ∨ i = 4 ∨ i = 5 ∨ i = 6 ∨ i = 7 ∨ i = 8 ∨ i = 9 ∨ i = 10 := by omega
    rcases hi2 with rfl | rfl | rfl | rfl | rfl | rfl | rfl | rfl | rfl | rfl | rfl
    all_goals (cases ho)
    · obtain ⟨_, k0, k1, k2, _, _, _⟩ := G.ata hPV1 nV1r nV1s
      refine wpOp_step rfl (fun K hK => ?_)
      go_simp
      refine hK _ _ ?_
      exact ⟨true, l1, l2, l3, l4, l5, l6, l7, l8, l9, l10, _, _, _, _, _, _, _, _, _, _, _, _, _, _, _, _, _, _, _, _, _, _, _, _, _, _, _, M, rxR1, ryR1, rzR1, fun _ => rfl, c1, c2, c3, c4, c5, c6, c7, c8, c9, c10, hM, G, oR1⟩
    · skip
      refine wpOp_step rfl (fun K hK => ?_)
      go_simp
      refine hK _ _ ?_
      exact ⟨l0, true, l2, l3, l4, l5, l6, l7, l8, l9, l10, _, _, _, _, _, _, _, _, _, _, _, _, _, _, _, _, _, _, _, _, _, _, _, _, _, _, _, M, rxR1, ryR1, rzR1, c0, fun _ => rfl, c2, c3, c4, c5, c6, c7, c8, c9, c10, hM, G, oR1⟩
    · skip
      refine wpOp_step rfl (fun K hK => ?_)
      go_simp
      refine hK _ _ ?_
      exact ⟨l0, l1, true, l3, l4, l5, l6, l7, l8, l9, l10, _, _, _, _, _, _, _, _, _, _, _, _, _, _, _, _, _, _, _, _, _, _, _, _, _, _, _, M, rxR1, ryR1, rzR1, c0, c1, fun _ => rfl, c3, c4, c5, c6, c7, c8, c9, c10, hM, G, oR1⟩
    · skip
      refine wpOp_step rfl (fun K hK => ?_)
      go_simp
      refine hK _ _ ?_
      exact ⟨l0, l1, l2, true, l4, l5, l6, l7, l8, l9, l10, _, _, _, _, _, _, _, _, _, _, _, _, _, _, _, _, _, _, _, _, _, _, _, _, _, _, _, M, rxR1, ryR1, rzR1, c0, c1, c2, fun _ => rfl, c4, c5, c6, c7, c8, c9, c10, hM, G, oR1⟩
    · skip
      refine wpOp_step rfl (fun K hK => ?_)
      go_simp
      refine hK _ _ ?_
      exact ⟨l0, l1, l2, l3, true, l5, l6, l7, l8, l9, l10, _, _, _, _, _, _, _, _, _, _, _, _, _, _, _, _, _, _, _, _, _, _, _, _, _, _, _, M, rxR1, ryR1, rzR1, c0, c1, c2, c3, fun _ => rfl, c5, c6, c7, c8, c9, c10, hM, G, oR1⟩
    · obtain rfl := c4 (hd { on := 4, ground := Ground.data } (by simp) rfl)
      have e5 : l5 = false := hl
      subst e5
      refine wpOp_step rfl (fun K hK => ?_)
      go_simp
      refine (grise G (by omega)).mono ?_
      rintro e u' ⟨xk, h0, h1, rfl, G', KA, hg⟩
      refine hK _ _ ?_
      exact ⟨l0, l1, l2, l3, l4, true, l6, l7, l8, l9, l10, _, _, _, _, _, _, _, _, _, _, _, _, _, _, _, _, _, _, _, _, _, _, _, _, _, _, _, (M + 3), rxR1, ryR1, rzR1, c0, c1, c2, c3, c4, fun _ => ⟨xk, rfl, h0, h1⟩, c6, c7, c8, c9, c10, by simp only [Bool.false_eq_true, if_false, if_true] at hM ⊢; omega, G', oR1.kept hg (by first | (simp; done) | (simp; omega))⟩
    · obtain rfl := c0 (hd { on := 0, ground := Ground.data } (by simp) rfl)
      obtain ⟨_, q0, q1, q2, y0, y1, y2⟩ := id oR1
      have HG := Lib.hid (G.set3 (k := w.heap.size) (by simp) gR1 (by omega) (.slice xa xl xc) (.slice ya yl yc) (.slice za zl zc))
      have HK := Lib.hid (GKeeps.set3 (r := (w.heap.size + 1)) (c := w.heap.size) u (.slice xa xl xc) (.slice ya yl yc) (.slice za zl zc) lR1)
      refine wpOp_step rfl (fun K hK => ?_)
      go_simp
      refine hK _ _ ?_
      exact ⟨l0, l1, l2, l3, l4, l5, true, l7, l8, l9, l10, _, _, _, _, _, _, _, _, _, _, _, _, _, _, _, _, _, _, _, _, _, _, _, _, _, _, _, M, (.slice xa xl xc), (.slice ya yl yc), (.slice za zl zc), c0, c1, c2, c3, c4, c5, fun _ => ⟨rfl, rfl, rfl⟩, c7, c8, c9, c10, hM, HG.out, ((oR1.put0 _).put1 _).put2 _⟩
    · obtain rfl := c1 (hd { on := 1, ground := Ground.data } (by simp) rfl)
      refine wpOp_step rfl (fun K hK => ?_)
      go_simp
      refine hK _ _ ?_
      exact ⟨l0, l1, l2, l3, l4, l5, l6, true, l8, l9, l10, _, _, _, _, _, _, _, _, _, _, _, _, _, _, _, _, _, _, _, _, _, _, _, _, _, _, _, M, rxR1, ryR1, rzR1, c0, c1, c2, c3, c4, c5, c6, fun _ => rfl, c8, c9, c10, hM, G, oR1⟩
    · obtain rfl := c2 (hd { on := 2, ground := Ground.data } (by simp) rfl)
      refine wpOp_step rfl (fun K hK => ?_)
      go_simp
      refine hK _ _ ?_
      exact ⟨l0, l1, l2, l3, l4, l5, l6, l7, true, l9, l10, _, _, _, _, _, _, _, _, _, _, _, _, _, _, _, _, _, _, _, _, _, _, _, _, _, _, _, M, rxR1, ryR1, rzR1, c0, c1, c2, c3, c4, c5, c6, c7, fun _ => rfl, c9, c10, hM, G, oR1⟩
    · obtain rfl := c3 (hd { on := 3, ground := Ground.data } (by simp) rfl)
      refine wpOp_step rfl (fun K hK => ?_)
      go_simp
      refine hK _ _ ?_
      exact ⟨l0, l1, l2, l3, l4, l5, l6, l7, l8, true, l10, _, _, _, _, _, _, _, _, _, _, _, _, _, _, _, _, _, _, _, _, _, _, _, _, _, _, _, M, rxR1, ryR1, rzR1, c0, c1, c2, c3, c4, c5, c6, c7, c8, fun _ => rfl, c10, hM, G, oR1⟩
    · obtain ⟨x, rfl, h0, h1⟩ := (c5 (hd { on := 5, ground := Ground.data } (by simp) rfl)).any
      refine wpOp_step rfl (fun K hK => ?_)
      go_simp
      refine hK _ _ ?_
      exact ⟨l0, l1, l2, l3, l4, l5, l6, l7, l8, l9, true, _, _, _, _, _, _, _, _, _, _, _, _, _, _, _, _, _, _, _, _, _, _, _, _, _, _, _, M, rxR1, ryR1, rzR1, c0, c1, c2, c3, c4, c5, c6, c7, c8, c9, fun _ => ⟨x, rfl, h0, h1⟩, hM, G, oR1⟩
  case hlt => exact backB_spec (by kernel_rfl)
  case hsz => exact fun listed a u h => h.size
  case hdone =>
    intro listed act u hR hall
    obtain ⟨l0, l1, l2, l3, l4, l5, l6, l7, l8, l9, l10, v3, v4, v5, v6, v27, v28, v29, v30, v31, v32, p0, p1, p12, p13, p14, p15, p16, p17, p18, p19, p20, p21, p22, p23, p24, p25, p26, M, rxR1, ryR1, rzR1, c0, c1, c2, c3, c4, c5, c6, c7, c8, c9, c10, hM, G, oR1⟩ := hR
    obtain ⟨rfl, rfl, rfl⟩ := c6 (hall 6 (by decide))
    obtain rfl := c7 (hall 7 (by decide))
    obtain rfl := c8 (hall 8 (by decide))
    obtain rfl := c9 (hall 9 (by decide))
    obtain ⟨rs, rfl, k2, k3⟩ := (c10 (hall 10 (by decide))).any
    obtain ⟨_, x0, x1, x2, _, _, _⟩ := id oR1
    have HG := Lib.hid G
    clear c0 c1 c2 c3 c4 c5 c6 c7 c8 c9 c10 hall G oR1
    go_wp2
    exact bodyPost_ret (v := .tuple #[av ⟨xa, xl, xc⟩ ⟨ya, yl, yc⟩ ⟨za, zl, zc⟩, .slice aa al ac, .slice ba bl bc, .int .i64 tp, .int .i64 rs]) (by simp [results, Try.results9, go_sem, x0, x1, x2]) rfl
      ⟨⟨xa, xl, xc⟩, ⟨ya, yl, yc⟩, ⟨za, zl, zc⟩, ⟨aa, al, ac⟩, ⟨ba, bl, bc⟩, ls, lo, hi, fs, ts, tp, rs, rfl, (HG.out.ints I6.out.1 hrs).down (by omega), (HG.out.ints I6.out.2.1 hrs).down (by omega), (HG.out.ints I6.out.2.2.1 hrs).down (by omega), (HG.out.ints I6.out.2.2.2.1 hrs).down (by omega), (HG.out.ints I6.out.2.2.2.2 hrs).down (by omega), ⟨lx, ly, lz, la, lb⟩, ⟨t0, t1⟩, ⟨k2, k3⟩, HG.out.old⟩
theorem drawMoveTime (w : World) (a : Option Addr) (len cap : Nat) (zs : List Int) (h : Bytes w a len cap zs) :
    Calls Try.prog 18 #[.slice a len cap] w (GotMove w) := by
  have HB := Lib.hid (below_box w (.cells #[.slice none 0 0, .slice none 0 0, .slice none 0 0] 25))
  have R0 := AtA.box w (.slice none 0 0) (.slice none 0 0) (.slice none 0 0) 25
  have h' := h.below HB.out
  go_enter Try.func18, Try.ntmps18
  go_wp2_with fail
  refine (drawMoveJoints _ a len cap zs h').mono ?_
  generalize w.alloc (.cells #[.slice none 0 0, .slice none 0 0, .slice none 0 0] 25) = w0 at *
  rintro e w1 ⟨⟨xa, xl, xc⟩, ⟨ya, yl, yc⟩, ⟨za, zl, zc⟩, ⟨aa, al, ac⟩, ⟨ba, bl, bc⟩, ls, lo, hi, fs, ts, t, r, rfl, i1, i2, i3, i4, i5, hl, ht, hr, B1⟩
  have R1 := R0.next B1
  have H1 := Lib.hid (below_call HB.out B1)
  have hR : w.heap.size < w0.heap.size := R0.lt
  have HI := Lib.hid (And.intro (off3 i1 hR) (And.intro (off3 i2 hR) (And.intro (off3 i3 hR) (And.intro (off3 i4 hR) (off3 i5 hR)))))
  have H2 := Lib.hid (((H1.out.setCell (p := ⟨w.heap.size, 0, none⟩) (Nat.le_refl _) (.slice xa xl xc)).setCell (p := ⟨w.heap.size, 1, none⟩) (Nat.le_refl _) (.slice ya yl yc)).setCell (p := ⟨w.heap.size, 2, none⟩) (Nat.le_refl _) (.slice za zl zc))
  obtain ⟨_, c0, c1, c2, z0, z1, z2⟩ := id R1
  have HL := Lib.hid (And.intro hl (And.intro ht hr))
  clear i1 i2 i3 i4 i5 B1 R0 R1 h h' HB H1 hl ht hr
  go_wp2
  exact bodyPost_ret (v := .tuple #[av ⟨xa, xl, xc⟩ ⟨ya, yl, yc⟩ ⟨za, zl, zc⟩, .slice aa al ac, .slice ba bl bc, .int .i64 t, .int .i64 r]) (by simp [results, Try.results18, go_sem, c0, c1, c2]) rfl
    ⟨⟨xa, xl, xc⟩, ⟨ya, yl, yc⟩, ⟨za, zl, zc⟩, ⟨aa, al, ac⟩, ⟨ba, bl, bc⟩, ls, lo, hi, fs, ts, t, r, rfl, (HI.out.1 _ _ _).down (by omega), (HI.out.2.1 _ _ _).down (by omega), (HI.out.2.2.1 _ _ _).down (by omega), (HI.out.2.2.2.1 _ _ _).down (by omega), (HI.out.2.2.2.2 _ _ _).down (by omega), HL.out.1, HL.out.2.1, HL.out.2.2, H2.out⟩
end Go.Proofs.Ytcoaahfnbgkofaa
