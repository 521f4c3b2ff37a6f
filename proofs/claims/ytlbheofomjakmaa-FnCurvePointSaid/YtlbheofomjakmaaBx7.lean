/- BoxOf, of the program. -/
import Derived.Test.YtlbheofomjakmaaCp7
import Derived.Test.YtlbheofomjakmaaGst
import Derived.Deep.RegionHeld3
namespace Go.Proofs.Ytlbheofomjakmaa
set_option maxRecDepth 100000
open Go.RowKit
attribute [local go_sem ↓] Go.wp_at_zero Go.wp_at_succ
theorem below_set7 {w w' : World} (h : Below w.heap.size w w') {b : Nat} (hb : w.heap.size ≤ b) (u v : Value) : Below w.heap.size w ((w'.setCell ⟨b, 0, none⟩ u).setCell ⟨b, 1, none⟩ v) := below_set h hb u v
theorem OwnP.far7 {w : World} {b c : Nat} {x y : Int} (h : OwnP w b x y) (hc : c ≠ b) (u v : Value) : OwnP ((w.setCell ⟨c, 0, none⟩ u).setCell ⟨c, 1, none⟩ v) b x y :=
  ⟨h.toAtP.far6 hc u v, ((World.frozen?_setCell _ _ _ _).trans (World.frozen?_setCell _ _ _ _)).trans h.z0, ((World.frozen?_setCell _ _ _ _).trans (World.frozen?_setCell _ _ _ _)).trans h.z1⟩
/-- What BoxOf holds: its two variables, and all that lay before them. -/
structure BoxSt (w w0 : World) (V U : Nat) (lx ly hx hy : Int) (u : World) : Prop where
  low : OwnP u V lx ly
  top : OwnP u U hx hy
  bel : Below w0.heap.size w0 u
theorem BoxSt.next {w w0 u u' : World} {V U : Nat} {lx ly hx hy : Int} (h : BoxSt w w0 V U lx ly hx hy u) (hb : Below u.heap.size u u') : BoxSt w w0 V U lx ly hx hy u' := ⟨h.low.next hb, h.top.next hb, below_call h.bel hb⟩
theorem BoxSt.setV {w w0 u : World} {V U : Nat} {lx ly hx hy : Int} (h : BoxSt w w0 V U lx ly hx hy u) (hne : V ≠ U) (hV : w0.heap.size ≤ V) (x y : Int) :
    BoxSt w w0 V U x y hx hy ((u.setCell ⟨V, 0, none⟩ (.int .i64 x)).setCell ⟨V, 1, none⟩ (.int .i64 y)) := ⟨h.low.puts6 x y, h.top.far7 hne _ _, below_set7 h.bel hV _ _⟩
theorem BoxSt.setU {w w0 u : World} {V U : Nat} {lx ly hx hy : Int} (h : BoxSt w w0 V U lx ly hx hy u) (hne : V ≠ U) (hU : w0.heap.size ≤ U) (x y : Int) :
    BoxSt w w0 V U lx ly x y ((u.setCell ⟨U, 0, none⟩ (.int .i64 x)).setCell ⟨U, 1, none⟩ (.int .i64 y)) := ⟨h.low.far7 hne.symm _ _, h.top.puts6 x y, below_set7 h.bel hU _ _⟩
/-- What BoxOf returns. -/
def boxE (ps : List (Int × Int)) : Ending := .returned (.tuple #[pt (boxV lowF pX ps) (boxV lowF pY ps), pt (boxV topF pX ps) (boxV topF pY ps)])
theorem boxE_in {ps : List (Int × Int)} (h : okBox ps) {k : Nat} (hk : ps.length = k + 1) : Ending.returned (.tuple #[pt (lowF (pX ps) k) (lowF (pY ps) k), pt (topF (pX ps) k) (topF (pY ps) k)]) = boxE ps := by
  unfold boxE; rw [boxV_in h, boxV_in h, boxV_in h, boxV_in h, hk]; rfl
theorem boxE_out {ps : List (Int × Int)} (h : ¬ okBox ps) : Ending.returned (.tuple #[pt 0 0, pt 0 0]) = boxE ps := by
  unfold boxE; rw [boxV_out h, boxV_out h, boxV_out h, boxV_out h]
theorem own2b (w : World) (T : TypeId) : let w0 := (w.alloc (.cells #[.int .i64 0, .int .i64 0] T)).alloc (.cells #[.int .i64 0, .int .i64 0] T)
    OwnP w0 w.heap.size 0 0 ∧ OwnP w0 (w.heap.size + 1) 0 0 := by
  refine ⟨(OwnP.box w 0 0 T).next (below_box _ _), ?_⟩
  have := OwnP.box (w.alloc (.cells #[.int .i64 0, .int .i64 0] T)) 0 0 T
  simpa using this
/-- What holds when the operations of 'listed' have come up. -/
inductive RFBox (w w0 : World) (b len cap : Nat) (x y : Int) (u : World) : Array Bool → Act → Prop
  | mk (l0 l1 l2 l3 l4 l5 l6 l7 l8 l9 : Bool) (v4 v5 v23 v24 v25 v26 v27 v28 p1 p6 p7 p8 p9 p10 p11 p12 p13 p14 p15 p16 p17 p18 p19 p20 p21 p22 p29 p30 p31 p32 p33 p34 p35 p36 p37 p38 p39 p40 p41 p42 p43 p44 p45 p46 p47 p48 p49 p50 p51 p52 p53 p54 p55 p56 p57 p58 p59 p60 : Value) (V U : Nat) (x4 y4 x5 y5 : Int)
    (c0 : l0 = true → v23 = .slice (some ⟨b, 0, none⟩) len cap) (c1 : l1 = true → v24 = .pointer (some ⟨b, 0, none⟩)) (c2 : l2 = true → v25 = pt x y) (c3 : l3 = true → v26 = .slice (some ⟨b, 0, none⟩) len cap) (c4 : l4 = true → v27 = .pointer (some ⟨b, 0, none⟩)) (c5 : l5 = true → v28 = pt x y) (c6 : l6 = true → v4 = .pointer (some ⟨V, 0, none⟩) ∧ w0.heap.size ≤ V ∧ OwnP u V x4 y4) (c7 : l7 = true → v5 = .pointer (some ⟨U, 0, none⟩) ∧ w0.heap.size ≤ U ∧ OwnP u U x5 y5) (c8 : l8 = true → x4 = x ∧ y4 = y) (c9 : l9 = true → x5 = x ∧ y5 = y) (d8 : l8 = true → l6 = true) (d9 : l9 = true → l7 = true) (ne : l6 = true → l7 = true → V ≠ U) (G : Below w0.heap.size w0 u) : RFBox w w0 b len cap x y u #[l0, l1, l2, l3, l4, l5, l6, l7, l8, l9] { tmps := #[.slice (some ⟨b, 0, none⟩) len cap, p1, .pointer (some ⟨w.heap.size, 0, none⟩), .pointer (some ⟨w.heap.size + 1, 0, none⟩), v4, v5, p6, p7, p8, p9, p10, p11, p12, p13, p14, p15, p16, p17, p18, p19, p20, p21, p22, v23, v24, v25, v26, v27, v28, p29, p30, p31, p32, p33, p34, p35, p36, p37, p38, p39, p40, p41, p42, p43, p44, p45, p46, p47, p48, p49, p50, p51, p52, p53, p54, p55, p56, p57, p58, p59, p60], defers := [] }
theorem RFBox.size {w w0 : World} {b len cap : Nat} {x y : Int} {u : World} {listed : Array Bool} {a : Act} (h : RFBox w w0 b len cap x y u listed a) : listed.size = 10 := by cases h; rfl
set_option maxHeartbeats 16000000 in
theorem implBoxIn (b len cap : Nat) (ps : List (Int × Int)) (w : World) (h : PtsAt w (some ⟨b, 0, none⟩) len ps) (hcap : len ≤ cap) (hok : okBox ps) :
    Calls Try.prog 19 #[.slice (some ⟨b, 0, none⟩) len cap] w fun e w' => e = boxE ps ∧ Below w.heap.size w w' := by
  have hle := h.1
  have n1 := hok.1
  have n4 := hok.2.1
  rw [← hle] at n1 n4
  have HOK := Lib.hid hok
  have HB := Lib.hid (below_box2 w (.cells #[.int .i64 0, .int .i64 0] 31) (.cells #[.int .i64 0, .int .i64 0] 31))
  have HR0 := own2b w 31
  have HPV := Lib.hid (pointsValid (some ⟨b, 0, none⟩) len cap ps _ (h.next HB.out) (by omega))
  rw [decide_eq_true hok.2.2] at HPV
  have h' := h.next HB.out
  have HLE := Lib.hid hle
  have n0 : ¬ (len : Int) < 1 := by omega
  have n6 : 0 < len := by omega
  have n5 : ¬ (400 : Int) < (len : Int) := by omega
  clear hok h hle
  go_enter Try.func19, Try.ntmps19
  go_wp2_with fail
  refine HPV.out.mono ?_
  rintro e w1 ⟨rfl, B1⟩
  have HR := Lib.hid (And.intro (HR0.1.next B1) (HR0.2.next B1))
  replace h' := h'.next B1
  replace HB := Lib.hid (below_call HB.out B1)
  clear B1 HR0 HPV
  obtain ⟨b', hb', lt, hc⟩ := h'.somes n1
  simp only [Option.some.injEq, Addr.mk.injEq, and_true] at hb'
  subst hb'
  have HC := Lib.hid hc
  have HLT := Lib.hid lt
  have HP : Hid (AtP w1 b (pX ps 0) (pY ps 0)) := Lib.hid (by have c := hc 0 (by omega); exact ⟨lt, c.1, c.2⟩)
  have HRES : Hid (∀ k, ps.length = k + 1 → Ending.returned (.tuple #[pt (lowF (pX ps) k) (lowF (pY ps) k), pt (topF (pX ps) k) (topF (pY ps) k)]) = boxE ps) := Lib.hid (fun k hk => boxE_in HOK.out hk)
  clear h' hc lt HOK
  have HG0 := Lib.hid ((Below.refl w1.heap.size w1).drew)
  have hH : w.heap.size + 1 < w1.heap.size := HR.out.2.lt
  go_upto_region 3 with fail
  generalize hw1 : w1 = w0 at *
  clear hw1
  refine wp_region_inv (fun listed act u => RFBox w w0 b len cap (pX ps 0) (pY ps 0) u listed act) (by kernel_rfl) ?hlt ?hsz ?h0 ?hstep ?hdone
  case h0 =>
    exact ⟨false, false, false, false, false, false, false, false, false, false, _, _, _, _, _, _, _, _, _, _, _, _, _, _, _, _, _, _, _, _, _, _, _, _, _, _, _, _, _, _, _, _, _, _, _, _, _, _, _, _, _, _, _, _, _, _, _, _, _, _, _, _, _, _, _, _, _, _, 0, 0, 0, 0, 0, 0, (by intro h; cases h), (by intro h; cases h), (by intro h; cases h), (by intro h; cases h), (by intro h; cases h), (by intro h; cases h), (by intro h; cases h), (by intro h; cases h), (by intro h; cases h), (by intro h; cases h), (by intro h; cases h), (by intro h; cases h), (by intro h; cases h), HG0.out⟩
  case hstep =>
    intro listed act u i o hR ho hl hd
    obtain ⟨l0, l1, l2, l3, l4, l5, l6, l7, l8, l9, v4, v5, v23, v24, v25, v26, v27, v28, p1, p6, p7, p8, p9, p10, p11, p12, p13, p14, p15, p16, p17, p18, p19, p20, p21, p22, p29, p30, p31, p32, p33, p34, p35, p36, p37, p38, p39, p40, p41, p42, p43, p44, p45, p46, p47, p48, p49, p50, p51, p52, p53, p54, p55, p56, p57, p58, p59, p60, V, U, x4, y4, x5, y5, c0, c1, c2, c3, c4, c5, c6, c7, c8, c9, d8, d9, ne, G⟩ := hR
    have hi : i < 10 := by rcases Nat.lt_or_ge i 10 with h | h; exact h; rw [Array.getElem?_eq_none (by simpa using h)] at ho; cases ho
    have hi2 : i = 0 ∨ i = 1 ∨ i = 2 ∨ i = 3 ∨ i = 4 ∨ i = 5 ∨ i = 6 ∨ i = 7 ∨ i = 8 ∨ i = 9 := by omega
    rcases hi2 with rfl | rfl | rfl | rfl | rfl | rfl | rfl | rfl | rfl | rfl
    all_goals (cases ho)
    · skip
      refine wpOp_step rfl (fun K hK => ?_)
      go_simp
      refine hK _ _ ?_
      exact ⟨true, l1, l2, l3, l4, l5, l6, l7, l8, l9, _, _, _, _, _, _, _, _, _, _, _, _, _, _, _, _, _, _, _, _, _, _, _, _, _, _, _, _, _, _, _, _, _, _, _, _, _, _, _, _, _, _, _, _, _, _, _, _, _, _, _, _, _, _, _, _, _, _, V, U, x4, y4, x5, y5, fun _ => rfl, c1, c2, c3, c4, c5, c6, c7, c8, c9, d8, d9, ne, G⟩
    · obtain rfl := c0 (hd { on := 0, ground := Ground.data } (by simp) rfl)
      refine wpOp_step rfl (fun K hK => ?_)
      go_simp
      refine hK _ _ ?_
      exact ⟨l0, true, l2, l3, l4, l5, l6, l7, l8, l9, _, _, _, _, _, _, _, _, _, _, _, _, _, _, _, _, _, _, _, _, _, _, _, _, _, _, _, _, _, _, _, _, _, _, _, _, _, _, _, _, _, _, _, _, _, _, _, _, _, _, _, _, _, _, _, _, _, _, V, U, x4, y4, x5, y5, c0, fun _ => rfl, c2, c3, c4, c5, c6, c7, c8, c9, d8, d9, ne, G⟩
    · obtain rfl := c1 (hd { on := 1, ground := Ground.data } (by simp) rfl)
      obtain ⟨_, k0, k1⟩ := HP.out.next G
      refine wpOp_step rfl (fun K hK => ?_)
      go_simp
      refine hK _ _ ?_
      exact ⟨l0, l1, true, l3, l4, l5, l6, l7, l8, l9, _, _, _, _, _, _, _, _, _, _, _, _, _, _, _, _, _, _, _, _, _, _, _, _, _, _, _, _, _, _, _, _, _, _, _, _, _, _, _, _, _, _, _, _, _, _, _, _, _, _, _, _, _, _, _, _, _, _, V, U, x4, y4, x5, y5, c0, c1, fun _ => rfl, c3, c4, c5, c6, c7, c8, c9, d8, d9, ne, G⟩
    · skip
      refine wpOp_step rfl (fun K hK => ?_)
      go_simp
      refine hK _ _ ?_
      exact ⟨l0, l1, l2, true, l4, l5, l6, l7, l8, l9, _, _, _, _, _, _, _, _, _, _, _, _, _, _, _, _, _, _, _, _, _, _, _, _, _, _, _, _, _, _, _, _, _, _, _, _, _, _, _, _, _, _, _, _, _, _, _, _, _, _, _, _, _, _, _, _, _, _, V, U, x4, y4, x5, y5, c0, c1, c2, fun _ => rfl, c4, c5, c6, c7, c8, c9, d8, d9, ne, G⟩
    · obtain rfl := c3 (hd { on := 3, ground := Ground.data } (by simp) rfl)
      refine wpOp_step rfl (fun K hK => ?_)
      go_simp
      refine hK _ _ ?_
      exact ⟨l0, l1, l2, l3, true, l5, l6, l7, l8, l9, _, _, _, _, _, _, _, _, _, _, _, _, _, _, _, _, _, _, _, _, _, _, _, _, _, _, _, _, _, _, _, _, _, _, _, _, _, _, _, _, _, _, _, _, _, _, _, _, _, _, _, _, _, _, _, _, _, _, V, U, x4, y4, x5, y5, c0, c1, c2, c3, fun _ => rfl, c5, c6, c7, c8, c9, d8, d9, ne, G⟩
    · obtain rfl := c4 (hd { on := 4, ground := Ground.data } (by simp) rfl)
      obtain ⟨_, k0, k1⟩ := HP.out.next G
      refine wpOp_step rfl (fun K hK => ?_)
      go_simp
      refine hK _ _ ?_
      exact ⟨l0, l1, l2, l3, l4, true, l6, l7, l8, l9, _, _, _, _, _, _, _, _, _, _, _, _, _, _, _, _, _, _, _, _, _, _, _, _, _, _, _, _, _, _, _, _, _, _, _, _, _, _, _, _, _, _, _, _, _, _, _, _, _, _, _, _, _, _, _, _, _, _, V, U, x4, y4, x5, y5, c0, c1, c2, c3, c4, fun _ => rfl, c6, c7, c8, c9, d8, d9, ne, G⟩
    · have e6 : l6 = false := hl
      subst e6
      have e8 : l8 = false := by cases h : l8; rfl; exact absurd (d8 h) (by decide)
      subst e8
      have HV := Lib.hid (OwnP.box u 0 0 31)
      have HG := Lib.hid G.size
      have HB := Lib.hid (below_box u (.cells #[.int .i64 0, .int .i64 0] 31))
      refine wpOp_step rfl (fun K hK => ?_)
      go_simp
      refine hK _ _ ?_
      exact ⟨l0, l1, l2, l3, l4, l5, true, l7, false, l9, _, _, _, _, _, _, _, _, _, _, _, _, _, _, _, _, _, _, _, _, _, _, _, _, _, _, _, _, _, _, _, _, _, _, _, _, _, _, _, _, _, _, _, _, _, _, _, _, _, _, _, _, _, _, _, _, _, _, u.heap.size, U, 0, 0, x5, y5, c0, c1, c2, c3, c4, c5, fun _ => ⟨rfl, HG.out, HV.out⟩, fun h => ⟨(c7 h).1, (c7 h).2.1, (c7 h).2.2.next HB.out⟩, (fun h => by cases h), c9, (fun _ => rfl), d9, fun _ h e => by have := (c7 h).2.2.lt; omega, below_call G HB.out⟩
    · have e7 : l7 = false := hl
      subst e7
      have e9 : l9 = false := by cases h : l9; rfl; exact absurd (d9 h) (by decide)
      subst e9
      have HV := Lib.hid (OwnP.box u 0 0 31)
      have HG := Lib.hid G.size
      have HB := Lib.hid (below_box u (.cells #[.int .i64 0, .int .i64 0] 31))
      refine wpOp_step rfl (fun K hK => ?_)
      go_simp
      refine hK _ _ ?_
      exact ⟨l0, l1, l2, l3, l4, l5, l6, true, l8, false, _, _, _, _, _, _, _, _, _, _, _, _, _, _, _, _, _, _, _, _, _, _, _, _, _, _, _, _, _, _, _, _, _, _, _, _, _, _, _, _, _, _, _, _, _, _, _, _, _, _, _, _, _, _, _, _, _, _, V, u.heap.size, x4, y4, 0, 0, c0, c1, c2, c3, c4, c5, fun h => ⟨(c6 h).1, (c6 h).2.1, (c6 h).2.2.next HB.out⟩, fun _ => ⟨rfl, HG.out, HV.out⟩, c8, (fun h => by cases h), d8, (fun _ => rfl), fun h _ e => by have := (c6 h).2.2.lt; omega, below_call G HB.out⟩
    · obtain rfl := c2 (hd { on := 2, ground := Ground.data } (by simp) rfl)
      have h6 : l6 = true := hd { on := 6, ground := Ground.data } (by simp) rfl
      obtain ⟨rfl, gV, oV⟩ := c6 h6
      obtain ⟨⟨_, q0, q1⟩, y0, y1⟩ := id oV
      have HV := Lib.hid (oV.puts6 (pX ps 0) (pY ps 0))
      have HG := Lib.hid (below_set7 G gV (.int .i64 (pX ps 0)) (.int .i64 (pY ps 0)))
      have HF := Lib.hid (fun h => ((c7 h).2.2.far7 (ne h6 h) (.int .i64 (pX ps 0)) (.int .i64 (pY ps 0))))
      refine wpOp_step rfl (fun K hK => ?_)
      go_simp
      refine hK _ _ ?_
      exact ⟨l0, l1, l2, l3, l4, l5, l6, l7, true, l9, _, _, _, _, _, _, _, _, _, _, _, _, _, _, _, _, _, _, _, _, _, _, _, _, _, _, _, _, _, _, _, _, _, _, _, _, _, _, _, _, _, _, _, _, _, _, _, _, _, _, _, _, _, _, _, _, _, _, V, U, pX ps 0, pY ps 0, x5, y5, c0, c1, c2, c3, c4, c5, fun _ => ⟨rfl, gV, HV.out⟩, fun h => ⟨(c7 h).1, (c7 h).2.1, HF.out h⟩, fun _ => ⟨rfl, rfl⟩, c9, (fun _ => h6), d9, ne, HG.out⟩
    · obtain rfl := c5 (hd { on := 5, ground := Ground.data } (by simp) rfl)
      have h7 : l7 = true := hd { on := 7, ground := Ground.data } (by simp) rfl
      obtain ⟨rfl, gU, oU⟩ := c7 h7
      obtain ⟨⟨_, q0, q1⟩, y0, y1⟩ := id oU
      have HV := Lib.hid (oU.puts6 (pX ps 0) (pY ps 0))
      have HG := Lib.hid (below_set7 G gU (.int .i64 (pX ps 0)) (.int .i64 (pY ps 0)))
      have HF := Lib.hid (fun h => ((c6 h).2.2.far7 (fun e => ne h h7 e.symm) (.int .i64 (pX ps 0)) (.int .i64 (pY ps 0))))
      refine wpOp_step rfl (fun K hK => ?_)
      go_simp
      refine hK _ _ ?_
      exact ⟨l0, l1, l2, l3, l4, l5, l6, l7, l8, true, _, _, _, _, _, _, _, _, _, _, _, _, _, _, _, _, _, _, _, _, _, _, _, _, _, _, _, _, _, _, _, _, _, _, _, _, _, _, _, _, _, _, _, _, _, _, _, _, _, _, _, _, _, _, _, _, _, _, V, U, x4, y4, pX ps 0, pY ps 0, c0, c1, c2, c3, c4, c5, fun h => ⟨(c6 h).1, (c6 h).2.1, HF.out h⟩, fun _ => ⟨rfl, gU, HV.out⟩, c8, fun _ => ⟨rfl, rfl⟩, d8, (fun _ => h7), ne, HG.out⟩
  case hlt => exact backB_spec (by kernel_rfl)
  case hsz => exact fun listed a u h => h.size
  case hdone =>
    intro listed act u hR hall
    obtain ⟨l0, l1, l2, l3, l4, l5, l6, l7, l8, l9, v4, v5, v23, v24, v25, v26, v27, v28, p1, p6, p7, p8, p9, p10, p11, p12, p13, p14, p15, p16, p17, p18, p19, p20, p21, p22, p29, p30, p31, p32, p33, p34, p35, p36, p37, p38, p39, p40, p41, p42, p43, p44, p45, p46, p47, p48, p49, p50, p51, p52, p53, p54, p55, p56, p57, p58, p59, p60, V, U, x4, y4, x5, y5, c0, c1, c2, c3, c4, c5, c6, c7, c8, c9, d8, d9, ne, G⟩ := hR
    obtain ⟨rfl, rfl⟩ := c8 (hall 8 (by decide))
    obtain ⟨rfl, rfl⟩ := c9 (hall 9 (by decide))
    obtain ⟨rfl, gV, oV⟩ := c6 (hall 6 (by decide))
    obtain ⟨rfl, gU, oU⟩ := c7 (hall 7 (by decide))
    have hVU := ne (hall 6 (by decide)) (hall 7 (by decide))
    have HG := Lib.hid G
    clear c0 c1 c2 c3 c4 c5 c6 c7 c8 c9 d8 d9 ne G hall
    have S0 := Lib.hid (BoxSt.mk (w := w) (w0 := w0) (V := V) (U := U) oV oU HG.out)
    clear oV oU HG HP HG0
    by_cases hc1 : cap = 1
    · subst hc1
      obtain rfl : len = 1 := by omega
      go_wp2
      go_loopw [32] (fun i wr => i = .int .i64 0 ∧ Hid (BoxSt w w0 V U (pX ps 0) (pY ps 0) (pX ps 0) (pY ps 0) wr)) (fun _ _ => 0)
      case atStart => exact ⟨rfl, S0⟩
      case round =>
        obtain ⟨rfl, HS⟩ := hrel
        clear S0
        have nv0 : w.heap.size ≠ V := by omega
        have nv1 : w.heap.size + 1 ≠ V := by omega
        have nu0 : w.heap.size ≠ U := by omega
        have nu1 : w.heap.size + 1 ≠ U := by omega
        obtain ⟨⟨_, a0, a1⟩, z0, z1⟩ := id HS.out.low
        obtain ⟨⟨_, b0, b1⟩, y0, y1⟩ := id HS.out.top
        obtain ⟨⟨_, r0, r1⟩, s0, s1⟩ := id (HR.out.1.next HS.out.bel)
        obtain ⟨⟨_, t0, t1⟩, q0, q1⟩ := id (HR.out.2.next HS.out.bel)
        go_wp2
        go_region_held3 (fun u => u.cell? ⟨V, 0, none⟩ = some (.int .i64 (pX ps 0)) ∧ u.cell? ⟨V, 1, none⟩ = some (.int .i64 (pY ps 0)) ∧ u.cell? ⟨U, 0, none⟩ = some (.int .i64 (pX ps 0)) ∧ u.cell? ⟨U, 1, none⟩ = some (.int .i64 (pY ps 0))) (go_keep) (fail)
        go_wp2
        exact bodyPost_ret (v := .tuple #[pt (pX ps 0) (pY ps 0), pt (pX ps 0) (pY ps 0)]) (by simp [results, Try.results19, go_sem, r0, r1, t0, t1]) rfl ⟨HRES.out _ HLE.out.symm, (below_set (below_set (below_call HB.out HS.out.bel) (Nat.le_refl _) _ _) (by omega) _ _).drew⟩
    · have hc2 : 1 < cap := by omega
      have hc3 : ¬ cap - 1 = 0 := by omega
      obtain ⟨m, rfl⟩ : ∃ m, len = m + 1 := ⟨len - 1, by omega⟩
      go_wp2
      go_loopw [32] (fun i wr => ∃ k : Nat, k ≤ m ∧ i = .int .i64 (k : Int) ∧ Hid (BoxSt w w0 V U (lowF (pX ps) k) (lowF (pY ps) k) (topF (pX ps) k) (topF (pY ps) k) wr)) (fun i _ => m - (intOf i).toNat)
      case atStart => exact ⟨0, Nat.zero_le _, rfl, S0⟩
      case round =>
        obtain ⟨k, hk, rfl, HS⟩ := hrel
        clear S0
        by_cases hlt : k < m
        · have d1 : wr.cell? ⟨b, (k + 1) * 2, none⟩ = _ := (HS.out.bel.cell (p := ⟨b, (k + 1) * 2, none⟩) HLT.out).trans (HC.out (k + 1) (by omega)).1
          have d2 : wr.cell? ⟨b, (k + 1) * 2 + 1, none⟩ = _ := (HS.out.bel.cell (p := ⟨b, (k + 1) * 2 + 1, none⟩) HLT.out).trans (HC.out (k + 1) (by omega)).2
          rw [show (k + 1) * 2 = 2 + k * 2 by omega] at d1 d2
          have HL1 := Lib.hid (show (if pX ps (k + 1) < lowF (pX ps) k then pX ps (k + 1) else lowF (pX ps) k) = lowF (pX ps) (k + 1) from rfl)
          have HL2 := Lib.hid (show (if pY ps (k + 1) < lowF (pY ps) k then pY ps (k + 1) else lowF (pY ps) k) = lowF (pY ps) (k + 1) from rfl)
          have HL3 := Lib.hid (show (if topF (pX ps) k < pX ps (k + 1) then pX ps (k + 1) else topF (pX ps) k) = topF (pX ps) (k + 1) from rfl)
          have HL4 := Lib.hid (show (if topF (pY ps) k < pY ps (k + 1) then pY ps (k + 1) else topF (pY ps) k) = topF (pY ps) (k + 1) from rfl)
          obtain ⟨lx', hv1⟩ : ∃ v, lowF (pX ps) (k + 1) = v := ⟨_, rfl⟩
          rw [hv1] at HL1
          replace hv1 := Lib.hid hv1
          obtain ⟨ly', hv2⟩ : ∃ v, lowF (pY ps) (k + 1) = v := ⟨_, rfl⟩
          rw [hv2] at HL2
          replace hv2 := Lib.hid hv2
          obtain ⟨hx', hv3⟩ : ∃ v, topF (pX ps) (k + 1) = v := ⟨_, rfl⟩
          rw [hv3] at HL3
          replace hv3 := Lib.hid hv3
          obtain ⟨hy', hv4⟩ : ∃ v, topF (pY ps) (k + 1) = v := ⟨_, rfl⟩
          rw [hv4] at HL4
          replace hv4 := Lib.hid hv4
          generalize pX ps (k + 1) = px at *
          generalize pY ps (k + 1) = py at *
          generalize lowF (pX ps) k = lx at *
          generalize lowF (pY ps) k = ly at *
          generalize topF (pX ps) k = hx at *
          generalize topF (pY ps) k = hy at *
          have e1 := HL1.out
          have e2 := HL2.out
          have e3 := HL3.out
          have e4 := HL4.out
          have HS1 := Lib.hid (HS.out.next (below_box wr (.cells #[.int .i64 px, .int .i64 py] 31)))
          have HP1 := Lib.hid (AtP.box wr px py 31)
          have nVp : wr.heap.size ≠ V := by have := HS.out.low.lt; omega
          have nUp : wr.heap.size ≠ U := by have := HS.out.top.lt; omega
          obtain ⟨⟨_, a0, a1⟩, z0, z1⟩ := id HS1.out.low
          obtain ⟨⟨_, b0, b1⟩, y0, y1⟩ := id HS1.out.top
          obtain ⟨_, p0, p1⟩ := id HP1.out
          have HS2 := Lib.hid ((HS1.out.setV hVU gV lx' ly').setU hVU gU hx' hy')
          have j1 : (0 : Int) ≤ (k : Int) := by omega
          have j2 : (k : Int) < (m : Int) := by omega
          clear HL1 HL2 HL3 HL4
          go_upto_region 7 with fail
          generalize wr.alloc (.cells #[.int .i64 px, .int .i64 py] 31) = wa at *
          generalize hsz : wr.heap.size = sz at *
          go_wp2
          go_roundw
          case rel => exact ⟨k + 1, by omega, by congr 1, by rw [hv1.out, hv2.out, hv3.out, hv4.out]; exact HS2⟩
          case measure => simp [intOf]; omega
        · obtain rfl : k = m := by omega
          have j2 : ¬ ((k : Int) < (k : Int)) := by omega
          have nv0 : w.heap.size ≠ V := by omega
          have nv1 : w.heap.size + 1 ≠ V := by omega
          have nu0 : w.heap.size ≠ U := by omega
          have nu1 : w.heap.size + 1 ≠ U := by omega
          obtain ⟨⟨_, a0, a1⟩, z0, z1⟩ := id HS.out.low
          obtain ⟨⟨_, b0, b1⟩, y0, y1⟩ := id HS.out.top
          obtain ⟨⟨_, r0, r1⟩, s0, s1⟩ := id (HR.out.1.next HS.out.bel)
          obtain ⟨⟨_, t0, t1⟩, q0, q1⟩ := id (HR.out.2.next HS.out.bel)
          go_wp2
          go_region_held3 (fun u => u.cell? ⟨V, 0, none⟩ = some (.int .i64 (lowF (pX ps) k)) ∧ u.cell? ⟨V, 1, none⟩ = some (.int .i64 (lowF (pY ps) k)) ∧ u.cell? ⟨U, 0, none⟩ = some (.int .i64 (topF (pX ps) k)) ∧ u.cell? ⟨U, 1, none⟩ = some (.int .i64 (topF (pY ps) k))) (go_keep) (fail)
          go_wp2
          exact bodyPost_ret (v := .tuple #[pt (lowF (pX ps) k) (lowF (pY ps) k), pt (topF (pX ps) k) (topF (pY ps) k)]) (by simp [results, Try.results19, go_sem, r0, r1, t0, t1]) rfl ⟨HRES.out _ HLE.out.symm, (below_set (below_set (below_call HB.out HS.out.bel) (Nat.le_refl _) _ _) (by omega) _ _).drew⟩
theorem implBoxOf (a : Option Addr) (len cap : Nat) (ps : List (Int × Int)) (w : World) (h : PtsAt w a len ps) (hcap : len ≤ cap) (hl : len ≤ 9223372036854775807) :
    Calls Try.prog 19 #[.slice a len cap] w fun e w' => e = boxE ps ∧ Below w.heap.size w w' := by
  have hle := h.1
  by_cases hok : okBox ps
  · obtain ⟨b, rfl, _, _⟩ := h.some (by have := hok.1; omega)
    exact implBoxIn b len cap ps w h hcap hok
  · have HE := Lib.hid (boxE_out hok)
    have HB := Lib.hid (below_box2 w (.cells #[.int .i64 0, .int .i64 0] 31) (.cells #[.int .i64 0, .int .i64 0] 31))
    obtain ⟨R1, R2⟩ := own2b w 31
    by_cases h1 : len < 1
    · obtain ⟨⟨_, r0, r1⟩, s0, s1⟩ := id R1
      obtain ⟨⟨_, t0, t1⟩, q0, q1⟩ := id R2
      have n0 : (len : Int) < 1 := by omega
      clear h hok hle
      go_enter Try.func19, Try.ntmps19
      go_wp2
      exact bodyPost_ret (v := .tuple #[pt 0 0, pt 0 0]) (by simp [results, Try.results19, go_sem, r0, r1, t0, t1]) rfl ⟨HE.out, HB.out⟩
    · have n0 : ¬ (len : Int) < 1 := by omega
      by_cases h4 : 400 < len
      · obtain ⟨⟨_, r0, r1⟩, s0, s1⟩ := id R1
        obtain ⟨⟨_, t0, t1⟩, q0, q1⟩ := id R2
        have n1 : (400 : Int) < (len : Int) := by omega
        clear h hok hle
        go_enter Try.func19, Try.ntmps19
        go_wp2
        exact bodyPost_ret (v := .tuple #[pt 0 0, pt 0 0]) (by simp [results, Try.results19, go_sem, r0, r1, t0, t1]) rfl ⟨HE.out, HB.out⟩
      · have n1 : ¬ (400 : Int) < (len : Int) := by omega
        have hp : ¬ okPts ps := fun k => hok ⟨by omega, by omega, k⟩
        have HPV := Lib.hid (pointsValid a len cap ps _ (h.next HB.out) hl)
        rw [decide_eq_false hp] at HPV
        clear h hok hle hp
        go_enter Try.func19, Try.ntmps19
        go_wp2_with fail
        refine HPV.out.mono ?_
        rintro e w1 ⟨rfl, B1⟩
        obtain ⟨⟨_, r0, r1⟩, s0, s1⟩ := R1.next B1
        obtain ⟨⟨_, t0, t1⟩, q0, q1⟩ := R2.next B1
        replace HB := Lib.hid (below_call HB.out B1)
        clear B1 R1 R2 HPV
        go_wp2
        exact bodyPost_ret (v := .tuple #[pt 0 0, pt 0 0]) (by simp [results, Try.results19, go_sem, r0, r1, t0, t1]) rfl ⟨HE.out, below_set (below_set HB.out (Nat.le_refl _) _ _) (by omega) _ _⟩
end Go.Proofs.Ytlbheofomjakmaa
