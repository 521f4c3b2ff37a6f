/- What the laws on motors draw: a motor. -/
import Derived.Test.YtgnchgmbflkakaaZbInv
import Derived.Test.YtgnchgmbflkakaaZbDr
import Derived.Test.YtgnchgmbflkakaaNum14
namespace Go.Proofs.Ytgnchgmbflkakaa
set_option maxRecDepth 100000
open Go.RowKit
attribute [local go_sem ↓] Go.wp_at_zero Go.wp_at_succ
/-- A motor's value, within bounds. -/
def CMo (a b c d : Int) (v : Value) : Prop := ∃ x y : Int, v = pt x y ∧ a ≤ x ∧ x ≤ b ∧ c ≤ y ∧ y ≤ d
theorem CMo.any {a b c d : Int} {v : Value} (h : CMo a b c d v) : ∃ x y : Int, v = pt x y ∧ a ≤ x ∧ x ≤ b ∧ c ≤ y ∧ y ≤ d := h
theorem GKeeps.up {r q : Nat} {u u' : World} (hq : r ≤ q) (h : u.grownBy u' (some r)) : GKeeps q u u' := fun b _ k =>
  ⟨Nat.lt_of_lt_of_le k.1 h.size, k.2.1, fun i v hv => (h.cell_far ⟨b, i, none⟩ k.1 (by simp; have := k.2.1; omega)).trans (k.2.2 i v hv)⟩
theorem GKeeps.set2q {q c : Nat} (u : World) (a b : Value) (hc : c ≤ q) : GKeeps q u ((u.setCell ⟨c, 0, none⟩ a).setCell ⟨c, 1, none⟩ b) := fun g _ k =>
  ⟨by simpa [World.setCell] using k.1, k.2.1, fun i v hv => (World.cell?_setCell_far _ _ _ _ (by show c ≠ g; have := k.2.1; omega)).trans ((World.cell?_setCell_far _ _ _ _ (by show c ≠ g; have := k.2.1; omega)).trans (k.2.2 i v hv))⟩
section
variable {w w0 u v : World} {r M M' : Nat} {rs : List Nat}
/-- A block that was not there is written. -/
theorem GSt.put (h : GSt w w0 r rs M u) {k o : Nat} (hk : w0.heap.size ≤ k) (hw : w.heap.size ≤ k) (hr : k ≠ r) (a : Value) : GSt w w0 r rs M (u.setCell ⟨k, o, none⟩ a) :=
  ⟨h.rd.set hr hw _, h.old.setCell (p := ⟨k, o, none⟩) hw _, by simpa [World.setCell] using h.size, fun q h1 h2 h3 => (Below.heap_setCell u _ _ q (by show q ≠ k; omega)).trans (h.keep q h1 h2 h3)⟩
theorem GSt.mono (h : GSt w w0 r rs M u) (hM : M ≤ M') : GSt w w0 r rs M' u := ⟨h.rd.mono hM, h.old, h.size, h.keep⟩
theorem GSt.back {V : Nat} (h : GSt w w0 r [] M u) (k : GSt w u r [V] M' v) (hV : w0.heap.size ≤ V) : GSt w w0 r [] M' v :=
  ⟨k.rd, k.old, Nat.le_trans h.size k.size, fun q h1 h2 h3 => (k.keep q (Nat.lt_of_lt_of_le h1 h.size) h2 (by simp; omega)).trans (h.keep q h1 h2 h3)⟩
theorem GSt.ownp (h : GSt w w0 r rs M u) {V : Nat} {x y : Int} (hp : OwnP w0 V x y) (h1 : V ≠ r) (h2 : V ∉ rs) : OwnP u V x y :=
  have e := h.keep V hp.lt h1 h2
  ⟨h.atp hp.toAtP h1 h2, (World.frozen?_of_block (a := ⟨V, 0, none⟩) e).trans hp.z0, (World.frozen?_of_block (a := ⟨V, 1, none⟩) e).trans hp.z1⟩
/-- What the draw of a motor holds between its picks: the result's box R, the variable's box V. -/
structure MoSt (w w0 : World) (M r R V : Nat) (x y : Int) (u : World) : Prop where
  g : GSt w w0 r [] M u
  rR : OwnP u R 0 0
  rV : OwnP u V x y
variable {u' : World} {R V : Nat} {x y : Int}
theorem MoSt.pick (h : MoSt w w0 M r R V x y u) (hg : GSt w w0 r [] M' u') (hb : u.grownBy u' (some r)) (h1 : R ≠ r) (h2 : V ≠ r) : MoSt w w0 M' r R V x y u' :=
  ⟨hg, h.rR.grown hb h1, h.rV.grown hb h2⟩
theorem MoSt.alloc (h : MoSt w w0 M r R V x y u) (o : Obj) : MoSt w w0 M r R V x y (u.alloc o) := ⟨h.g.next (below_box u o), h.rR.alloc o, h.rV.alloc o⟩
theorem MoSt.put0 (h : MoSt w w0 M r R V x y u) (hV : w0.heap.size ≤ V) (hw : w.heap.size ≤ V) (h2 : V ≠ r) (h3 : V ≠ R) (z : Int) : MoSt w w0 M r R V z y (u.setCell ⟨V, 0, none⟩ (.int .i64 z)) :=
  ⟨h.g.put hV hw h2 _, h.rR.far h3 _, h.rV.put0 z⟩
theorem MoSt.put1 (h : MoSt w w0 M r R V x y u) (hV : w0.heap.size ≤ V) (hw : w.heap.size ≤ V) (h2 : V ≠ r) (h3 : V ≠ R) (z : Int) : MoSt w w0 M r R V x z (u.setCell ⟨V, 1, none⟩ (.int .i64 z)) :=
  ⟨h.g.put hV hw h2 _, h.rR.far h3 _, h.rV.put1 z⟩
theorem MoSt.done (h : MoSt w w0 M r R V x y u) (hR : w0.heap.size ≤ R) (hw : w.heap.size ≤ R) (h2 : R ≠ r) (a b : Value) : GSt w w0 r [] M ((u.setCell ⟨R, 0, none⟩ a).setCell ⟨R, 1, none⟩ b) :=
  (h.g.put hR hw h2 a).put hR hw h2 b
end
/-- A motor is drawn: of what lay in u the reader alone has changed. -/
def GotMo (w u : World) (r N : Nat) (e : Ending) (u' : World) : Prop :=
  ∃ x y : Int, (-10001 ≤ x ∧ x ≤ 10001) ∧ (-201 ≤ y ∧ y ≤ 201) ∧ e = .returned (pt x y) ∧ GSt w u r [] N u'
/-- What holds when the operations of 'listed' have come up. -/
inductive RFMo (w w0 : World) (r V : Nat) (q R : Nat) (n : Int) (u : World) : Array Bool → Act → Prop
  | mk (l0 l1 l2 l3 l4 l5 l6 l7 l8 l9 l10 l11 : Bool) (v15 v16 v17 v18 v19 v20 v21 v22 v23 v24 v25 p2 p3 p6 p7 p8 p9 p10 p11 p12 p13 p14 p26 p27 p28 p29 p30 p31 p32 p33 p34 p35 p36 p37 p38 p39 p40 p41 p42 p43 p44 p45 : Value) (M : Nat) (xV yV : Int)
    (c0 : l0 = true → CA q u 2 (-10000) (10000) v15) (c1 : l1 = true → v16 = .pointer (some ⟨r, 0, none⟩)) (c2 : l2 = true → CI 0 1 v17) (c3 : l3 = true → CP q u (-10000) (10000) v18) (c4 : l4 = true → CI (-10000) (10000) v19) (c5 : l5 = true → CA q u 2 (-200) (200) v20) (c6 : l6 = true → v21 = .pointer (some ⟨r, 0, none⟩)) (c7 : l7 = true → CI 0 1 v22) (c8 : l8 = true → CP q u (-200) (200) v23) (c9 : l9 = true → CI (-200) (200) v24) (c10 : l10 = true → CMo (-10000) 10000 (-200) 200 v25) (c11 : l11 = true → (-10000 ≤ xV ∧ xV ≤ 10000) ∧ -200 ≤ yV ∧ yV ≤ 200)
    (hM : M + ((if l2 then 0 else 1) + (if l7 then 0 else 1)) ≤ 900) (G : GSt w w0 r [V] M u) (oV : OwnP u V xV yV) : RFMo w w0 r V  q R n u #[l0, l1, l2, l3, l4, l5, l6, l7, l8, l9, l10, l11] { tmps := #[.pointer (some ⟨r, 0, none⟩), .int .i64 n, p2, p3, .pointer (some ⟨R, 0, none⟩), .pointer (some ⟨V, 0, none⟩), p6, p7, p8, p9, p10, p11, p12, p13, p14, v15, v16, v17, v18, v19, v20, v21, v22, v23, v24, v25, p26, p27, p28, p29, p30, p31, p32, p33, p34, p35, p36, p37, p38, p39, p40, p41, p42, p43, p44, p45], defers := [] }
theorem RFMo.size {w w0 : World} {r V : Nat} {q R : Nat} {n : Int} {u : World} {listed : Array Bool} {a : Act} (h : RFMo w w0 r V  q R n u listed a) : listed.size = 12 := by cases h; rfl
theorem godd {w w0 u : World} {r M : Nat} {rs : List Nat} (n : Int) (h0 : 0 < n) (h1 : n ≤ 1000000) (h : GSt w w0 r rs M u) (hM : M ≤ 1000000) :
    Calls Try.prog 54 #[.pointer (some ⟨r, 0, none⟩), .int .i64 n] u fun e u' => ∃ b : Bool, e = .returned (.bool b) ∧ GSt w w0 r rs (M + 1) u' ∧ u.grownBy u' (some r) :=
  (oddA _ M r n u h.rd hM h0 h1).mono fun _ _ ⟨b, he, hr, hg, _⟩ => ⟨b, he, h.grown hr hg, hg⟩
set_option maxHeartbeats 8000000 in
theorem l20Motor (w u : World) (M r : Nat) (n : Int) (hr : Rd w.heap.size M u r) (hb : Below w.heap.size w u) (hM : M ≤ 800) (hn0 : 0 < n) (hn1 : n ≤ 1000000) :
    Calls Try.prog 37 #[.pointer (some ⟨r, 0, none⟩), .int .i64 n] u (GotMo w u r 910) := by
  have G0 := (GSt.start (rs := []) hr hb).next (below_box u (.cells #[.int .i64 0, .int .i64 0] 24))
  have P0 := OwnP.box u 0 0 24
  have hrlt := hr.lt
  have hRr : u.heap.size ≠ r := by omega
  have hR0 : u.heap.size ≤ u.heap.size := Nat.le_refl _
  have hRw : w.heap.size ≤ u.heap.size := hb.size
  clear hr hb
  go_enter Try.func37, Try.ntmps37
  go_wp2_with fail
  refine (gpick 400 (by omega) G0 (by omega)).mono ?_
  rintro e w1 ⟨x1, a1, b1, rfl, G1, _, hg1⟩
  have P1 := P0.grown hg1 hRr
  obtain ⟨x, hx⟩ : ∃ x, x1 - 200 = x := ⟨_, rfl⟩
  have o1 : IntKind.i64.wrap (x1 - 200) = x := by rw [hx]; exact wrap_in (by omega) (by omega)
  have x0 : -200 ≤ x ∧ x ≤ 199 := by omega
  clear hg1 G0 P0 hx a1 b1
  go_wp2_with fail
  refine (gpick 81 (by omega) G1 (by omega)).mono ?_
  rintro e w2 ⟨x2, a2, b2, rfl, G2, _, hg2⟩
  have P2 := P1.grown hg2 hRr
  clear hg2 G1 P1
  obtain ⟨y, hy⟩ : ∃ y, x2 - 40 = y := ⟨_, rfl⟩
  have o2 : IntKind.i64.wrap (x2 - 40) = y := by rw [hy]; exact wrap_in (by omega) (by omega)
  have y0 : -40 ≤ y ∧ y ≤ 40 := by omega
  have hVr : w2.heap.size ≠ r := by have := G2.rd.lt; omega
  have hVR : w2.heap.size ≠ u.heap.size := by have := P2.lt; omega
  have hV0 : u.heap.size ≤ w2.heap.size := by have := P2.lt; omega
  have hVw : w.heap.size ≤ w2.heap.size := Nat.le_trans hRw hV0
  have S3 : MoSt w u (M + 1 + 1) r u.heap.size w2.heap.size x y (w2.alloc (.cells #[.int .i64 x, .int .i64 y] 24)) := ⟨G2.next (below_box w2 _), P2.alloc _, OwnP.box w2 x y _⟩
  clear G2 P2 hy a2 b2
  go_upto_region 2 with fail
  generalize w2.alloc (.cells #[.int .i64 x, .int .i64 y] 24) = w3 at *
  generalize w2.heap.size = V at *
  obtain ⟨⟨p1, p2, p3⟩, p4, p5⟩ := id S3.rV
  go_wp2_with fail
  refine (godd 6 (by omega) (by omega) S3.g (by omega)).mono ?_
  rintro e w4 ⟨b4, rfl, G4, hg4⟩
  have S4 := S3.pick G4 hg4 hRr hVr
  clear G4 hg4 p1 p2 p3 p4 p5 S3
  cases b4
  · obtain ⟨⟨p1, p2, p3⟩, p4, p5⟩ := id S4.rV
    go_wp2_with fail
    refine (godd n hn0 hn1 S4.g (by omega)).mono ?_
    rintro e w20 ⟨b20, rfl, G20, hg20⟩
    have S20 := S4.pick G20 hg20 hRr hVr
    clear G20 hg20 p1 p2 p3 p4 p5 S4
    cases b20
    · obtain ⟨⟨_, p2, p3⟩, p4, p5⟩ := id S20.rV
      obtain ⟨⟨_, q2, q3⟩, q4, q5⟩ := id S20.rR
      have HD := Lib.hid (fun a b => (S20.done hR0 hRw hRr a b))
      go_wp2
      exact bodyPost_ret (v := pt x y) (by simp [results, Try.results37, go_sem, q2, q3]) rfl ⟨_, _, by omega, by omega, rfl, (HD.out _ _).mono (by omega)⟩
    · obtain ⟨⟨p1, p2, p3⟩, p4, p5⟩ := id S20.rV
      go_wp2_with fail
      refine (gpick 2 (by omega) S20.g (by omega)).mono ?_
      rintro e w21 ⟨x21, a21, b21, rfl, G21, _, hg21⟩
      have S21 := S20.pick G21 hg21 hRr hVr
      clear G21 hg21 p1 p2 p3 p4 p5 S20
      have hx21 : x21 = 0 ∨ x21 = 1 := by omega
      clear a21 b21
      rcases hx21 with rfl | rfl
      · have S22 := S21.alloc (.cells #[.int .i64 10001, .int .i64 (-10001)] 3)
        have lt22 := S21.g.rd.lt
        go_wp2_with fail
        refine (gpick 2 (by omega) S22.g (by omega)).mono ?_
        rintro e w23 ⟨x23, a23, b23, rfl, G23, _, hg23⟩
        have f0 := hg23.cell_far ⟨w21.heap.size, 0, none⟩ (by simp) (by simp; omega)
        have f1 := hg23.cell_far ⟨w21.heap.size, 1, none⟩ (by simp) (by simp; omega)
        have S23 := S22.pick G23 hg23 hRr hVr
        obtain ⟨⟨_, i2, i3⟩, i4, i5⟩ := id S23.rV
        clear G23 hg23 S22 S21
        have hx23 : x23 = 0 ∨ x23 = 1 := by omega
        clear a23 b23
        rcases hx23 with rfl | rfl
        · have S24 := S23.put0 hV0 hVw hVr hVR 10001
          obtain ⟨⟨_, p2, p3⟩, p4, p5⟩ := id S24.rV
          obtain ⟨⟨_, q2, q3⟩, q4, q5⟩ := id S24.rR
          have HD := Lib.hid (fun a b => (S24.done hR0 hRw hRr a b))
          go_wp2
          exact bodyPost_ret (v := pt 10001 y) (by simp [results, Try.results37, go_sem, q2, q3]) rfl ⟨_, _, by omega, by omega, rfl, (HD.out _ _).mono (by omega)⟩
        · have S24 := S23.put0 hV0 hVw hVr hVR (-10001)
          obtain ⟨⟨_, p2, p3⟩, p4, p5⟩ := id S24.rV
          obtain ⟨⟨_, q2, q3⟩, q4, q5⟩ := id S24.rR
          have HD := Lib.hid (fun a b => (S24.done hR0 hRw hRr a b))
          go_wp2
          exact bodyPost_ret (v := pt (-10001) y) (by simp [results, Try.results37, go_sem, q2, q3]) rfl ⟨_, _, by omega, by omega, rfl, (HD.out _ _).mono (by omega)⟩
      · have S22 := S21.alloc (.cells #[.int .i64 201, .int .i64 (-201)] 3)
        have lt22 := S21.g.rd.lt
        go_wp2_with fail
        refine (gpick 2 (by omega) S22.g (by omega)).mono ?_
        rintro e w23 ⟨x23, a23, b23, rfl, G23, _, hg23⟩
        have f0 := hg23.cell_far ⟨w21.heap.size, 0, none⟩ (by simp) (by simp; omega)
        have f1 := hg23.cell_far ⟨w21.heap.size, 1, none⟩ (by simp) (by simp; omega)
        have S23 := S22.pick G23 hg23 hRr hVr
        obtain ⟨⟨_, i2, i3⟩, i4, i5⟩ := id S23.rV
        clear G23 hg23 S22 S21
        have hx23 : x23 = 0 ∨ x23 = 1 := by omega
        clear a23 b23
        rcases hx23 with rfl | rfl
        · have S24 := S23.put1 hV0 hVw hVr hVR 201
          obtain ⟨⟨_, p2, p3⟩, p4, p5⟩ := id S24.rV
          obtain ⟨⟨_, q2, q3⟩, q4, q5⟩ := id S24.rR
          have HD := Lib.hid (fun a b => (S24.done hR0 hRw hRr a b))
          go_wp2
          exact bodyPost_ret (v := pt x 201) (by simp [results, Try.results37, go_sem, q2, q3]) rfl ⟨_, _, by omega, by omega, rfl, (HD.out _ _).mono (by omega)⟩
        · have S24 := S23.put1 hV0 hVw hVr hVR (-201)
          obtain ⟨⟨_, p2, p3⟩, p4, p5⟩ := id S24.rV
          obtain ⟨⟨_, q2, q3⟩, q4, q5⟩ := id S24.rR
          have HD := Lib.hid (fun a b => (S24.done hR0 hRw hRr a b))
          go_wp2
          exact bodyPost_ret (v := pt x (-201)) (by simp [results, Try.results37, go_sem, q2, q3]) rfl ⟨_, _, by omega, by omega, rfl, (HD.out _ _).mono (by omega)⟩
  · obtain ⟨q, hq⟩ : ∃ q, max r V = q := ⟨_, rfl⟩
    have hqV : V ≤ q := by omega
    have HQ := Lib.hid (show r ≤ q by omega)
    have HQ0 := Lib.hid (show q < w4.heap.size by have := S4.g.rd.lt; have := S4.rV.lt; omega)
    have gV := hVw
    have G0 := Lib.hid ((GSt.start (rs := [V]) S4.g.rd S4.g.old).drew)
    have oV0 := Lib.hid (S4.rV.next (below_drew' w4))
    have HM0 := Lib.hid (show M + 1 + 1 + 1 + ((if false then 0 else 1) + (if false then 0 else 1)) ≤ 900 by simp; omega)
    have HS4 := Lib.hid S4
    clear hq S4
    go_upto_region 3 with fail
    refine wp_region_inv (fun listed act uu => RFMo w w4 r V  q u.heap.size n uu listed act) (by kernel_rfl) ?hlt ?hsz ?h0 ?hstep ?hdone
    case h0 =>
      exact ⟨false, false, false, false, false, false, false, false, false, false, false, false, _, _, _, _, _, _, _, _, _, _, _, _, _, _, _, _, _, _, _, _, _, _, _, _, _, _, _, _, _, _, _, _, _, _, _, _, _, _, _, _, _, _, _, _, _, (by intro h; cases h), (by intro h; cases h), (by intro h; cases h), (by intro h; cases h), (by intro h; cases h), (by intro h; cases h), (by intro h; cases h), (by intro h; cases h), (by intro h; cases h), (by intro h; cases h), (by intro h; cases h), (by intro h; cases h), HM0.out, G0.out, oV0.out⟩
    case hstep =>
      intro listed act u i o hR ho hl hd
      obtain ⟨l0, l1, l2, l3, l4, l5, l6, l7, l8, l9, l10, l11, v15, v16, v17, v18, v19, v20, v21, v22, v23, v24, v25, p2, p3, p6, p7, p8, p9, p10, p11, p12, p13, p14, p26, p27, p28, p29, p30, p31, p32, p33, p34, p35, p36, p37, p38, p39, p40, p41, p42, p43, p44, p45, M, xV, yV, c0, c1, c2, c3, c4, c5, c6, c7, c8, c9, c10, c11, hM, G, oV⟩ := hR
      have hi : i < 12 := by rcases Nat.lt_or_ge i 12 with h | h; exact h; rw [Array.getElem?_eq_none (by simpa using h)] at ho; cases ho
      have hi2 : i = 0 ∨ i = 1 ∨ i = 2 ∨ i = 3 ∨ i = 4 ∨ i = 5 ∨ i = 6 ∨ i = 7 ∨ i = 8 ∨ i = 9 ∨ i = 10 ∨ i = 11 := by omega
      rcases hi2 with rfl | rfl | rfl | rfl | rfl | rfl | rfl | rfl | rfl | rfl | rfl | rfl
      all_goals (cases ho)
      · have hlt := Nat.lt_of_lt_of_le HQ0.out G.size
        have HA := Lib.hid (GArr.new (r := q) u [10000, (-10000)] [.int .i64 10000, .int .i64 (-10000)] rfl 3 hlt)
        refine wpOp_step rfl (fun K hK => ?_)
        go_simp
        refine hK _ _ ?_
        exact ⟨true, l1, l2, l3, l4, l5, l6, l7, l8, l9, l10, l11, _, _, _, _, _, _, _, _, _, _, _, _, _, _, _, _, _, _, _, _, _, _, _, _, _, _, _, _, _, _, _, _, _, _, _, _, _, _, _, _, _, _, M, xV, yV, fun _ => ⟨_, [10000, (-10000)], rfl, rfl, by intro z hz; simp at hz; omega, HA.out⟩, c1, c2, fun h => (c3 h).keep (GKeeps.alloc q u _), c4, fun h => (c5 h).keep (GKeeps.alloc q u _), c6, c7, fun h => (c8 h).keep (GKeeps.alloc q u _), c9, c10, c11, hM, G.next (below_box u _), oV.alloc _⟩
      · skip
        refine wpOp_step rfl (fun K hK => ?_)
        go_simp
        refine hK _ _ ?_
        exact ⟨l0, true, l2, l3, l4, l5, l6, l7, l8, l9, l10, l11, _, _, _, _, _, _, _, _, _, _, _, _, _, _, _, _, _, _, _, _, _, _, _, _, _, _, _, _, _, _, _, _, _, _, _, _, _, _, _, _, _, _, M, xV, yV, c0, fun _ => rfl, c2, c3, c4, c5, c6, c7, c8, c9, c10, c11, hM, G, oV⟩
      · obtain rfl := c1 (hd { on := 1, ground := Ground.data } (by simp) rfl)
        have e2 : l2 = false := hl
        subst e2
        refine wpOp_step rfl (fun K hK => ?_)
        go_simp
        refine (gpick 2 (by omega) G (by omega)).mono ?_
        rintro e u' ⟨xk, h0, h1, rfl, G', _, hg⟩
        have KA := GKeeps.up HQ.out hg
        refine hK _ _ ?_
        exact ⟨l0, l1, true, l3, l4, l5, l6, l7, l8, l9, l10, l11, _, _, _, _, _, _, _, _, _, _, _, _, _, _, _, _, _, _, _, _, _, _, _, _, _, _, _, _, _, _, _, _, _, _, _, _, _, _, _, _, _, _, (M + 1), xV, yV, fun h => (c0 h).keep KA, c1, fun _ => ⟨xk, rfl, h0, by omega⟩, fun h => (c3 h).keep KA, c4, fun h => (c5 h).keep KA, c6, c7, fun h => (c8 h).keep KA, c9, c10, c11, by simp only [Bool.false_eq_true, if_false, if_true] at hM ⊢; omega, G', oV.grown hg (by omega)⟩
      · obtain ⟨b, rfl, hx⟩ := (c0 (hd { on := 0, ground := Ground.data } (by simp) rfl)).index
        obtain ⟨xk, rfl, x0, x1⟩ := (c2 (hd { on := 2, ground := Ground.data } (by simp) rfl)).any
        have x2 : xk < 2 := by omega
        have HX := Lib.hid (hx xk x0 (by omega))
        refine wpOp_step rfl (fun K hK => ?_)
        go_simp
        refine hK _ _ ?_
        exact ⟨l0, l1, l2, true, l4, l5, l6, l7, l8, l9, l10, l11, _, _, _, _, _, _, _, _, _, _, _, _, _, _, _, _, _, _, _, _, _, _, _, _, _, _, _, _, _, _, _, _, _, _, _, _, _, _, _, _, _, _, M, xV, yV, c0, c1, c2, fun _ => HX.out, c4, c5, c6, c7, c8, c9, c10, c11, hM, G, oV⟩
      · obtain ⟨b, k, z, rfl, ck, k0, k1⟩ := (c3 (hd { on := 3, ground := Ground.data } (by simp) rfl)).load
        refine wpOp_step rfl (fun K hK => ?_)
        go_simp
        refine hK _ _ ?_
        exact ⟨l0, l1, l2, l3, true, l5, l6, l7, l8, l9, l10, l11, _, _, _, _, _, _, _, _, _, _, _, _, _, _, _, _, _, _, _, _, _, _, _, _, _, _, _, _, _, _, _, _, _, _, _, _, _, _, _, _, _, _, M, xV, yV, c0, c1, c2, c3, fun _ => ⟨z, rfl, k0, k1⟩, c5, c6, c7, c8, c9, c10, c11, hM, G, oV⟩
      · have hlt := Nat.lt_of_lt_of_le HQ0.out G.size
        have HA := Lib.hid (GArr.new (r := q) u [200, (-200)] [.int .i64 200, .int .i64 (-200)] rfl 3 hlt)
        refine wpOp_step rfl (fun K hK => ?_)
        go_simp
        refine hK _ _ ?_
        exact ⟨l0, l1, l2, l3, l4, true, l6, l7, l8, l9, l10, l11, _, _, _, _, _, _, _, _, _, _, _, _, _, _, _, _, _, _, _, _, _, _, _, _, _, _, _, _, _, _, _, _, _, _, _, _, _, _, _, _, _, _, M, xV, yV, fun h => (c0 h).keep (GKeeps.alloc q u _), c1, c2, fun h => (c3 h).keep (GKeeps.alloc q u _), c4, fun _ => ⟨_, [200, (-200)], rfl, rfl, by intro z hz; simp at hz; omega, HA.out⟩, c6, c7, fun h => (c8 h).keep (GKeeps.alloc q u _), c9, c10, c11, hM, G.next (below_box u _), oV.alloc _⟩
      · skip
        refine wpOp_step rfl (fun K hK => ?_)
        go_simp
        refine hK _ _ ?_
        exact ⟨l0, l1, l2, l3, l4, l5, true, l7, l8, l9, l10, l11, _, _, _, _, _, _, _, _, _, _, _, _, _, _, _, _, _, _, _, _, _, _, _, _, _, _, _, _, _, _, _, _, _, _, _, _, _, _, _, _, _, _, M, xV, yV, c0, c1, c2, c3, c4, c5, fun _ => rfl, c7, c8, c9, c10, c11, hM, G, oV⟩
      · obtain rfl := c6 (hd { on := 6, ground := Ground.data } (by simp) rfl)
        have e7 : l7 = false := hl
        subst e7
        refine wpOp_step rfl (fun K hK => ?_)
        go_simp
        refine (gpick 2 (by omega) G (by omega)).mono ?_
        rintro e u' ⟨xk, h0, h1, rfl, G', _, hg⟩
        have KA := GKeeps.up HQ.out hg
        refine hK _ _ ?_
        exact ⟨l0, l1, l2, l3, l4, l5, l6, true, l8, l9, l10, l11, _, _, _, _, _, _, _, _, _, _, _, _, _, _, _, _, _, _, _, _, _, _, _, _, _, _, _, _, _, _, _, _, _, _, _, _, _, _, _, _, _, _, (M + 1), xV, yV, fun h => (c0 h).keep KA, c1, c2, fun h => (c3 h).keep KA, c4, fun h => (c5 h).keep KA, c6, fun _ => ⟨xk, rfl, h0, by omega⟩, fun h => (c8 h).keep KA, c9, c10, c11, by simp only [Bool.false_eq_true, if_false, if_true] at hM ⊢; omega, G', oV.grown hg (by omega)⟩
      · obtain ⟨b, rfl, hx⟩ := (c5 (hd { on := 5, ground := Ground.data } (by simp) rfl)).index
        obtain ⟨xk, rfl, x0, x1⟩ := (c7 (hd { on := 7, ground := Ground.data } (by simp) rfl)).any
        have x2 : xk < 2 := by omega
        have HX := Lib.hid (hx xk x0 (by omega))
        refine wpOp_step rfl (fun K hK => ?_)
        go_simp
        refine hK _ _ ?_
        exact ⟨l0, l1, l2, l3, l4, l5, l6, l7, true, l9, l10, l11, _, _, _, _, _, _, _, _, _, _, _, _, _, _, _, _, _, _, _, _, _, _, _, _, _, _, _, _, _, _, _, _, _, _, _, _, _, _, _, _, _, _, M, xV, yV, c0, c1, c2, c3, c4, c5, c6, c7, fun _ => HX.out, c9, c10, c11, hM, G, oV⟩
      · obtain ⟨b, k, z, rfl, ck, k0, k1⟩ := (c8 (hd { on := 8, ground := Ground.data } (by simp) rfl)).load
        refine wpOp_step rfl (fun K hK => ?_)
        go_simp
        refine hK _ _ ?_
        exact ⟨l0, l1, l2, l3, l4, l5, l6, l7, l8, true, l10, l11, _, _, _, _, _, _, _, _, _, _, _, _, _, _, _, _, _, _, _, _, _, _, _, _, _, _, _, _, _, _, _, _, _, _, _, _, _, _, _, _, _, _, M, xV, yV, c0, c1, c2, c3, c4, c5, c6, c7, c8, fun _ => ⟨z, rfl, k0, k1⟩, c10, c11, hM, G, oV⟩
      · obtain ⟨x, rfl, h0, h1⟩ := (c4 (hd { on := 4, ground := Ground.data } (by simp) rfl)).any
        obtain ⟨y, rfl, g0, g1⟩ := (c9 (hd { on := 9, ground := Ground.data } (by simp) rfl)).any
        all_goals
          refine wpOp_step rfl (fun K hK => ?_)
          go_simp
          refine hK _ _ ?_
          exact ⟨l0, l1, l2, l3, l4, l5, l6, l7, l8, l9, true, l11, _, _, _, _, _, _, _, _, _, _, _, _, _, _, _, _, _, _, _, _, _, _, _, _, _, _, _, _, _, _, _, _, _, _, _, _, _, _, _, _, _, _, M, xV, yV, c0, c1, c2, c3, c4, c5, c6, c7, c8, c9, fun _ => ⟨x, y, rfl, by omega, by omega, by omega, by omega⟩, c11, hM, G, oV⟩
      · obtain ⟨qx, qy, rfl, k0, k1, k2, k3⟩ := (c10 (hd { on := 10, ground := Ground.data } (by simp) rfl)).any
        obtain ⟨⟨_, q0, q1⟩, y0, y1⟩ := id oV
        have HG := Lib.hid (G.set2 (k := V) (by simp) gV (by omega) (.int .i64 qx) (.int .i64 qy))
        have HK := Lib.hid (GKeeps.set2q u (.int .i64 qx) (.int .i64 qy) hqV)
        refine wpOp_step rfl (fun K hK => ?_)
        go_simp
        refine hK _ _ ?_
        exact ⟨l0, l1, l2, l3, l4, l5, l6, l7, l8, l9, l10, true, _, _, _, _, _, _, _, _, _, _, _, _, _, _, _, _, _, _, _, _, _, _, _, _, _, _, _, _, _, _, _, _, _, _, _, _, _, _, _, _, _, _, M, qx, qy, fun h => (c0 h).keep HK.out, c1, c2, fun h => (c3 h).keep HK.out, c4, fun h => (c5 h).keep HK.out, c6, c7, fun h => (c8 h).keep HK.out, c9, c10, fun _ => ⟨⟨k0, k1⟩, k2, k3⟩, hM, HG.out, (oV.put0 qx).put1 qy⟩
    case hlt => exact backB_spec (by kernel_rfl)
    case hsz => exact fun listed a u h => h.size
    case hdone =>
      intro listed act u9 hR hall
      obtain ⟨l0, l1, l2, l3, l4, l5, l6, l7, l8, l9, l10, l11, v15, v16, v17, v18, v19, v20, v21, v22, v23, v24, v25, p2, p3, p6, p7, p8, p9, p10, p11, p12, p13, p14, p26, p27, p28, p29, p30, p31, p32, p33, p34, p35, p36, p37, p38, p39, p40, p41, p42, p43, p44, p45, M1, xV, yV, c0, c1, c2, c3, c4, c5, c6, c7, c8, c9, c10, c11, hM, G, oV⟩ := hR
      obtain ⟨⟨bx0, bx1⟩, bz0, bz1⟩ := c11 (hall 11 (by decide))
      have S7 : MoSt w u M1 r u.heap.size V xV yV u9 := ⟨HS4.out.g.back G hV0, G.ownp HS4.out.rR hRr (by simp; omega), oV⟩
      have hM9 : M1 ≤ 900 := by omega
      clear c0 c1 c2 c3 c4 c5 c6 c7 c8 c9 c10 c11 hall G oV HS4 hM gV hqV HQ HQ0 G0 oV0 HM0
      obtain ⟨⟨p1, p2, p3⟩, p4, p5⟩ := id S7.rV
      go_wp2_with fail
      refine (godd n hn0 hn1 S7.g (by omega)).mono ?_
      rintro e w20 ⟨b20, rfl, G20, hg20⟩
      have S20 := S7.pick G20 hg20 hRr hVr
      clear G20 hg20 p1 p2 p3 p4 p5 S7
      cases b20
      · obtain ⟨⟨_, p2, p3⟩, p4, p5⟩ := id S20.rV
        obtain ⟨⟨_, q2, q3⟩, q4, q5⟩ := id S20.rR
        have HD := Lib.hid (fun a b => (S20.done hR0 hRw hRr a b))
        go_wp2
        exact bodyPost_ret (v := pt xV yV) (by simp [results, Try.results37, go_sem, q2, q3]) rfl ⟨_, _, by omega, by omega, rfl, (HD.out _ _).mono (by omega)⟩
      · obtain ⟨⟨p1, p2, p3⟩, p4, p5⟩ := id S20.rV
        go_wp2_with fail
        refine (gpick 2 (by omega) S20.g (by omega)).mono ?_
        rintro e w21 ⟨x21, a21, b21, rfl, G21, _, hg21⟩
        have S21 := S20.pick G21 hg21 hRr hVr
        clear G21 hg21 p1 p2 p3 p4 p5 S20
        have hx21 : x21 = 0 ∨ x21 = 1 := by omega
        clear a21 b21
        rcases hx21 with rfl | rfl
        · have S22 := S21.alloc (.cells #[.int .i64 10001, .int .i64 (-10001)] 3)
          have lt22 := S21.g.rd.lt
          go_wp2_with fail
          refine (gpick 2 (by omega) S22.g (by omega)).mono ?_
          rintro e w23 ⟨x23, a23, b23, rfl, G23, _, hg23⟩
          have f0 := hg23.cell_far ⟨w21.heap.size, 0, none⟩ (by simp) (by simp; omega)
          have f1 := hg23.cell_far ⟨w21.heap.size, 1, none⟩ (by simp) (by simp; omega)
          have S23 := S22.pick G23 hg23 hRr hVr
          obtain ⟨⟨_, i2, i3⟩, i4, i5⟩ := id S23.rV
          clear G23 hg23 S22 S21
          have hx23 : x23 = 0 ∨ x23 = 1 := by omega
          clear a23 b23
          rcases hx23 with rfl | rfl
          · have S24 := S23.put0 hV0 hVw hVr hVR 10001
            obtain ⟨⟨_, p2, p3⟩, p4, p5⟩ := id S24.rV
            obtain ⟨⟨_, q2, q3⟩, q4, q5⟩ := id S24.rR
            have HD := Lib.hid (fun a b => (S24.done hR0 hRw hRr a b))
            go_wp2
            exact bodyPost_ret (v := pt 10001 yV) (by simp [results, Try.results37, go_sem, q2, q3]) rfl ⟨_, _, by omega, by omega, rfl, (HD.out _ _).mono (by omega)⟩
          · have S24 := S23.put0 hV0 hVw hVr hVR (-10001)
            obtain ⟨⟨_, p2, p3⟩, p4, p5⟩ := id S24.rV
            obtain ⟨⟨_, q2, q3⟩, q4, q5⟩ := id S24.rR
            have HD := Lib.hid (fun a b => (S24.done hR0 hRw hRr a b))
            go_wp2
            exact bodyPost_ret (v := pt (-10001) yV) (by simp [results, Try.results37, go_sem, q2, q3]) rfl ⟨_, _, by omega, by omega, rfl, (HD.out _ _).mono (by omega)⟩
        · have S22 := S21.alloc (.cells #[.int .i64 201, .int .i64 (-201)] 3)
          have lt22 := S21.g.rd.lt
          go_wp2_with fail
          refine (gpick 2 (by omega) S22.g (by omega)).mono ?_
          rintro e w23 ⟨x23, a23, b23, rfl, G23, _, hg23⟩
          have f0 := hg23.cell_far ⟨w21.heap.size, 0, none⟩ (by simp) (by simp; omega)
          have f1 := hg23.cell_far ⟨w21.heap.size, 1, none⟩ (by simp) (by simp; omega)
          have S23 := S22.pick G23 hg23 hRr hVr
          obtain ⟨⟨_, i2, i3⟩, i4, i5⟩ := id S23.rV
          clear G23 hg23 S22 S21
          have hx23 : x23 = 0 ∨ x23 = 1 := by omega
          clear a23 b23
          rcases hx23 with rfl | rfl
          · have S24 := S23.put1 hV0 hVw hVr hVR 201
            obtain ⟨⟨_, p2, p3⟩, p4, p5⟩ := id S24.rV
            obtain ⟨⟨_, q2, q3⟩, q4, q5⟩ := id S24.rR
            have HD := Lib.hid (fun a b => (S24.done hR0 hRw hRr a b))
            go_wp2
            exact bodyPost_ret (v := pt xV 201) (by simp [results, Try.results37, go_sem, q2, q3]) rfl ⟨_, _, by omega, by omega, rfl, (HD.out _ _).mono (by omega)⟩
          · have S24 := S23.put1 hV0 hVw hVr hVR (-201)
            obtain ⟨⟨_, p2, p3⟩, p4, p5⟩ := id S24.rV
            obtain ⟨⟨_, q2, q3⟩, q4, q5⟩ := id S24.rR
            have HD := Lib.hid (fun a b => (S24.done hR0 hRw hRr a b))
            go_wp2
            exact bodyPost_ret (v := pt xV (-201)) (by simp [results, Try.results37, go_sem, q2, q3]) rfl ⟨_, _, by omega, by omega, rfl, (HD.out _ _).mono (by omega)⟩
end Go.Proofs.Ytgnchgmbflkakaa
