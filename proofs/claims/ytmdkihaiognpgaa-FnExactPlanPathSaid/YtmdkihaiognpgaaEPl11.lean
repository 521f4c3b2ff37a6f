/- The walk of the law FnExactPlanPath: it returns true at every argument. -/
import Derived.Test.YtmdkihaiognpgaaIm11i
import Derived.Test.YtmdkihaiognpgaaSp11
import Derived.Test.YtmdkihaiognpgaaBd11
import Derived.Deep.RegionHeld3
namespace Go.Proofs.Ytmdkihaiognpgaa
set_option maxRecDepth 100000
open Go.RowKit
attribute [local go_sem ↓] Go.wp_at_zero Go.wp_at_succ
theorem keepPQ {w u : World} {b c : Nat} {x y p q : Int} (h : Below w.heap.size w u) (A : AtP w b x y) (B : AtP w c p q) :
    u.cell? ⟨b, 0, none⟩ = some (.int .i64 x) ∧ u.cell? ⟨b, 1, none⟩ = some (.int .i64 y) ∧ u.cell? ⟨c, 0, none⟩ = some (.int .i64 p) ∧ u.cell? ⟨c, 1, none⟩ = some (.int .i64 q) :=
  ⟨(A.next h).c0, (A.next h).c1, (B.next h).c0, (B.next h).c1⟩
theorem Cel.toCellR (x y : Int) (w0 w : World) (hw : Below w0.heap.size w0 w) :
    Calls Try.prog 36 #[pt x y] w fun e w' => e = .returned (pt x y) ∧ Below w0.heap.size w0 w' :=
  (Cel.toCell x y w).mono fun _ _ ⟨he, hb⟩ => ⟨he, below_call hw hb⟩
theorem Cel.toCellRR (x y : Int) (w0 w wa : World) (hw : Below w0.heap.size w0 w) (ha : Below wa.heap.size wa w) :
    Calls Try.prog 36 #[pt x y] w fun e w' => e = .returned (pt x y) ∧ Below w0.heap.size w0 w' ∧ Below wa.heap.size wa w' :=
  (Cel.toCell x y w).mono fun _ _ ⟨he, hb⟩ => ⟨he, below_call hw hb, below_call ha hb⟩
theorem Bol.toBoolSSR (a : Option Addr) (len cap : Nat) (pss : List (List Bool)) (w0 w : World) (hw : Below w0.heap.size w0 w) (h : Bol.RowIn10 w0 a len pss) (hl : len ≤ 1048576) (hr : ∀ i, i < len → (pss.getD i []).length ≤ 1048576) :
    Calls Try.prog 42 #[.slice a len cap] w fun e w' => ∃ bb, e = .returned (.slice (some ⟨bb, 0, none⟩) len len) ∧ Hid (Bol.RSA w' (some ⟨bb, 0, none⟩) len pss) ∧ Below w0.heap.size w0 w' :=
  (Bol.toBoolSS a len cap pss w (h.next hw) hl hr).mono fun _ _ ⟨he, hR, hb⟩ => ⟨_, he, Lib.hid hR, below_call hw hb⟩
/-- Cells of the call's own, seen from an earlier world. -/
def PtRowR (ps : List C2) (w0 : World) (e : Ending) (w' : World) : Prop :=
  ∃ s : Sl, e = .returned (.slice s.a s.len s.cap) ∧ Hid (s.len = ps.length) ∧ Hid (Cel.OwnPt w' w0.heap.size (.slice s.a s.len s.cap) ps) ∧ Below w0.heap.size w0 w'
theorem Cel.PtRow.r {ps : List C2} {w0 w w' : World} {e : Ending} (hw : Below w0.heap.size w0 w) (h : Cel.PtRow ps w e w') : PtRowR ps w0 e w' := by
  obtain ⟨s, h1, h2, h3, h4⟩ := h
  exact ⟨s, h1, Lib.hid h2, Lib.hid (h3.down6 hw.size), below_call hw h4⟩
theorem plan_len (T : List (List Bool)) (a b : C2) : (planV T a b).length ≤ 400 := by
  by_cases h : planV T a b = []
  · rw [h]; simp
  · exact (plan_valid h).2.2.1
theorem szAllP {x : Int} {len : Nat} {T : List (List Bool)} (hx : Bol.Szi9 1048576 len T x) (h : 0 ≤ x) : x ≤ 1048576 ∧ len ≤ 1048576 ∧ ∀ i, i < len → (T.getD i []).length ≤ 1048576 := by
  rcases hx with rfl | ⟨_, h1, h2, h3⟩
  · omega
  · exact ⟨h1, by omega, fun i hi => by have := h3 i hi; omega⟩
set_option maxHeartbeats 8000000 in
set_option maxRecDepth 100000 in
theorem walkFnExactPlanPath (s : Sl) (ax ay bx b_y : Int) (T : List (List Bool)) (w : World) (h : Bol.RowIn10 w s.a s.len T) (hl : s.len ≤ 9223372036854775807) :
    Calls Try.prog 11 #[.slice s.a s.len s.cap, pt ax ay, pt bx b_y] w fun e w' => e = .returned (.bool true) ∧ Below w.heap.size w w' := by
  have B0 := below_box2 w (.cells #[.int .i64 ax, .int .i64 ay] 56) (.cells #[.int .i64 bx, .int .i64 b_y] 56)
  have HB := Lib.hid B0
  have P := (AtP.box w ax ay 56).alloc (.cells #[.int .i64 bx, .int .i64 b_y] 56)
  have Q := AtP.box (w.alloc (.cells #[.int .i64 ax, .int .i64 ay] 56)) bx b_y 56
  rw [show (w.alloc (.cells #[.int .i64 ax, .int .i64 ay] 56)).heap.size = w.heap.size + 1 by simp] at Q
  have HWZ := Lib.hid (show w.heap.size + 2 ≤ ((w.alloc (.cells #[.int .i64 ax, .int .i64 ay] 56)).alloc (.cells #[.int .i64 bx, .int .i64 b_y] 56)).heap.size by simp)
  obtain ⟨x, hx, HSZ⟩ := Bol.szBoolSS s.a s.len s.cap 1048576 T h (by omega) (by omega) hl
  replace HSZ := Lib.hid HSZ
  have HH := Lib.hid h
  clear B0 h
  by_cases hs : 0 ≤ x
  rotate_left
  · obtain rfl : x = -1 := by rcases hx with k | ⟨k, _⟩ <;> omega
    clear hx P Q
    go_enter Try.func11, Try.ntmps11
    go_wp2_with fail
    refine (HSZ.out _ HB.out).mono ?_
    rintro e w' ⟨rfl, rfl⟩
    go_wp2
    go_ret
    exact ⟨rfl, HB.out⟩
  have HR := Lib.hid (szAllP hx hs)
  have n0 : ¬ (x < 0) := by omega
  have HPL := Lib.hid (plan_len T (ax, ay) (bx, b_y))
  clear hx hs
  go_enter Try.func11, Try.ntmps11
  go_wp2_with fail
  refine (HSZ.out _ HB.out).mono ?_
  rintro e w' ⟨rfl, rfl⟩
  clear HSZ
  generalize (w.alloc (.cells #[.int .i64 ax, .int .i64 ay] 56)).alloc (.cells #[.int .i64 bx, .int .i64 b_y] 56) = w1 at *
  have g0 : Below w1.heap.size w1 w1 := Below.refl _ _
  go_wp2
  go_region_held3 (fun u => u.cell? ⟨w.heap.size, 0, none⟩ = some (.int .i64 ax) ∧ u.cell? ⟨w.heap.size, 1, none⟩ = some (.int .i64 ay) ∧ u.cell? ⟨w.heap.size + 1, 0, none⟩ = some (.int .i64 bx) ∧ u.cell? ⟨w.heap.size + 1, 1, none⟩ = some (.int .i64 b_y)) (exact keepPQ (by repeat (first | (with_reducible assumption) | (with_reducible exact Below.refl _ _) | (with_reducible apply Below.drew))) P Q) (first
    | (go_at_call 42
       refine (Bol.toBoolSSR s.a s.len s.cap T w1 _ (by repeat (first | (with_reducible assumption) | (with_reducible exact Below.refl _ _) | (with_reducible apply Below.drew))) (HH.out.next HB.out) HR.out.2.1 HR.out.2.2).mono ?_
       rintro e wa ⟨bb, rfl, J1, K7⟩
       have Ka : Below wa.heap.size wa wa := Below.refl _ _)
    | (go_at_call 36
       refine (Cel.toCellRR _ _ w1 _ wa (by repeat (first | (with_reducible assumption) | (with_reducible exact Below.refl _ _) | (with_reducible apply Below.drew))) (by repeat (first | (with_reducible assumption) | (with_reducible exact Below.refl _ _) | (with_reducible apply Below.drew)))).mono ?_
       rintro e wb ⟨rfl, Kd, Kj⟩)
    | (go_at_call 25
       refine (specPlanPath (some ⟨bb, 0, none⟩) s.len s.len T (ax, ay) (bx, b_y) _ (J1.out.next Kj) hl).mono ?_
       rintro e wd0 hIR
       obtain ⟨⟨sa0, sl0, sc0⟩, rfl, e0, O0, Ke⟩ := hIR.r Kd)
    | fail)
  replace P := P.next Ke
  replace Q := Q.next Ke
  replace HB := Lib.hid (below_call HB.out Ke)
  clear g0 J1 K7 Ka Kd Kj Ke
  have HL0 := Lib.hid (fun q hq => (World.ownsRow.lt O0.out q hq).2)
  have HE0 := Lib.hid e0.out
  have HPQ := Lib.hid (And.intro P Q)
  clear e0 P Q
  go_wp2_with fail
  refine (Bol.toBoolSSM s.a s.len s.cap T _ (HH.out.next HB.out) HR.out.2.1 HR.out.2.2).mono ?_
  rintro e w5 ⟨rfl, hM, B5⟩
  obtain ⟨vs, bk, hM⟩ := hM
  obtain ⟨g, hg⟩ : ∃ g, wd0.heap.size = g := ⟨_, rfl⟩
  have HGE := Lib.hid (show w.heap.size + 2 ≤ g from by rw [← hg]; have := HPQ.out.2.lt; omega)
  rw [hg] at hM HL0
  rw [hg]
  have HM := Lib.hid hM
  have HM5 := Lib.hid hM
  have P := HPQ.out.1.next B5
  have Q := HPQ.out.2.next B5
  replace HB := Lib.hid (below_call HB.out B5)
  replace O0 := Lib.hid (O0.out.next B5)
  have HBL := Lib.hid hM.lt
  have HBG := Lib.hid hM.gt
  clear B5 hM HPQ hg HWZ
  have g0 : Below w5.heap.size w5 w5 := Below.refl _ _
  go_wp2
  go_region_held3 (fun u => u.cell? ⟨w.heap.size, 0, none⟩ = some (.int .i64 ax) ∧ u.cell? ⟨w.heap.size, 1, none⟩ = some (.int .i64 ay) ∧ u.cell? ⟨w.heap.size + 1, 0, none⟩ = some (.int .i64 bx) ∧ u.cell? ⟨w.heap.size + 1, 1, none⟩ = some (.int .i64 b_y)) (exact keepPQ (by repeat (first | (with_reducible assumption) | (with_reducible exact Below.refl _ _) | (with_reducible apply Below.drew))) P Q) (first
    | (go_at_call 36
       refine (Cel.toCellR _ _ w5 _ (by repeat (first | (with_reducible assumption) | (with_reducible exact Below.refl _ _) | (with_reducible apply Below.drew)))).mono ?_
       rintro e wb ⟨rfl, Kd⟩)
    | (go_at_call 24
       refine (implPlanPath (some ⟨g, 0, none⟩) s.len s.len T (ax, ay) (bx, b_y) _ ((HM.out.rsa HH.out.1 HR.out.2.2).next Kd) hl).mono ?_
       rintro e wd1 hIR
       obtain ⟨⟨sa1, sl1, sc1⟩, rfl, e1, O1, Ke⟩ := hIR.r Kd)
    | fail)
  have HPQ := Lib.hid (And.intro (P.next Ke) (Q.next Ke))
  replace HB := Lib.hid (below_call HB.out Ke)
  replace O0 := Lib.hid (O0.out.next Ke)
  replace HM := Lib.hid (HM.out.next Ke)
  have HE1 := Lib.hid e1.out
  have HL1 := Lib.hid (fun q hq => (World.ownsRow.lt O1.out q hq).1)
  clear g0 Kd Ke e1 P Q
  have HGL := Lib.hid (show g < w5.heap.size from (World.ownsRow.lt HM5.out.own g rfl).2)
  obtain rfl : sl1 = sl0 := by rw [HE1.out, HE0.out]
  have hsl : sl1 ≤ 400 := by rw [HE1.out]; exact HPL.out
  clear HE1 HM5
  go_wp2_with fail
  refine (Cel.eqCellS sa1 sa0 sl1 sl1 sc1 sc0 _ _ O1.out.ints O0.out.ints (by omega)).mono ?_
  rintro e w8 ⟨rfl, B8⟩
  replace O0 := Lib.hid (O0.out.next B8)
  replace O1 := Lib.hid (O1.out.next B8)
  replace HPQ := Lib.hid (And.intro (HPQ.out.1.next B8) (HPQ.out.2.next B8))
  replace HB := Lib.hid (below_call HB.out B8)
  replace HM := Lib.hid (HM.out.next B8)
  clear B8
  go_wp2_with fail
  refine (Bol.toBoolSS s.a s.len s.cap T _ (HH.out.next HB.out) HR.out.2.1 HR.out.2.2).mono ?_
  rintro e w9 ⟨rfl, J9, B9⟩
  replace O0 := Lib.hid (O0.out.next B9)
  replace O1 := Lib.hid (O1.out.next B9)
  replace HPQ := Lib.hid (And.intro (HPQ.out.1.next B9) (HPQ.out.2.next B9))
  replace HB := Lib.hid (below_call HB.out B9)
  replace HM := Lib.hid (HM.out.next B9)
  clear B9
  go_wp2_with fail
  refine (Bol.eqBoolSSW _ _ _ _ _ _ T _ (HM.out.rsa HH.out.1 HR.out.2.2) J9 HR.out.2.1 HR.out.2.2).mono ?_
  rintro e w10 ⟨rfl, B10⟩
  clear J9
  replace O0 := Lib.hid (O0.out.next B10)
  replace O1 := Lib.hid (O1.out.next B10)
  replace HPQ := Lib.hid (And.intro (HPQ.out.1.next B10) (HPQ.out.2.next B10))
  replace HB := Lib.hid (below_call HB.out B10)
  replace HM := Lib.hid (HM.out.next B10)
  clear B10
  have nK : ¬ (1 + (Bol.preL T s.len : Int) < 0) := by omega
  go_wp2_with fail
  refine (Bol.markBoolSS g s.len T vs bk 1 _ HM.out HH.out.1 HR.out.2.1 HR.out.2.2 (by omega) (by omega)).mono ?_
  rintro e w11 hmk
  obtain ⟨rfl, hM2, hR2⟩ := hmk
  replace O0 := Lib.hid (hR2.pts O0.out (fun q hq i hi => by have := HL0.out q hq; have := HBG.out i hi; omega))
  replace O1 := Lib.hid (hR2.pts O1.out (fun q hq i hi => by have := HL1.out q hq; have := HBL.out i hi; omega))
  replace HPQ := Lib.hid (And.intro (hR2.atp HPQ.out.1 (fun i hi => by have := HBG.out i hi; have := HGE.out; omega)) (hR2.atp HPQ.out.2 (fun i hi => by have := HBG.out i hi; have := HGE.out; omega)))
  replace HB := Lib.hid (hR2.below HB.out (fun i hi => by have := HBG.out i hi; have := HGE.out; omega))
  clear hM2 hR2 HM
  go_wp2_with fail
  refine (Cel.eqCellS sa1 sa0 sl1 sl1 sc1 sc0 _ _ O1.out.ints O0.out.ints (by omega)).mono ?_
  rintro e w12 ⟨rfl, B12⟩
  replace O0 := Lib.hid (O0.out.next B12)
  replace O1 := Lib.hid (O1.out.next B12)
  replace HPQ := Lib.hid (And.intro (HPQ.out.1.next B12) (HPQ.out.2.next B12))
  replace HB := Lib.hid (below_call HB.out B12)
  clear B12
  go_wp2_with fail
  refine (Cel.markCellS sa1 sl1 sc1 _ _ 1 _ O1.out (by omega) (by omega) (by omega)).mono ?_
  rintro e w13 ⟨rfl, Oj, Gj, Sj⟩
  have HOj := Lib.hid Oj
  replace O0 := Lib.hid (O0.out.same (fun q hq => Gj.block q (World.ownsRow.lt O0.out q hq).2 (fun e => by have := HL0.out q hq; have := HL1.out q e.symm; have := HGL.out; omega)))
  replace HPQ := Lib.hid (And.intro (HPQ.out.1.row11 Gj (fun e => by have := HL1.out _ e; have := HGE.out; have := HGL.out; omega)) (HPQ.out.2.row11 Gj (fun e => by have := HL1.out _ e; have := HGE.out; have := HGL.out; omega)))
  replace HB := Lib.hid (HB.out.grown Gj HB.out.size (fun q hq => by have := HL1.out q hq; have := HGE.out; have := HGL.out; omega))
  clear Oj Gj Sj O1 nK
  have nM : ¬ (1 + 2 * (sl1 : Int) < 0) := by omega
  have e2 : ((1 + 2 * (sl1 : Int)) != (1 + 2 * (sl1 : Int))) = false := by simp
  go_wp2_with fail
  refine (Cel.heldCellS sa1 sl1 sc1 1 _ HOj.out.ints (by omega) (by omega) (by omega)).mono ?_
  rintro e w' ⟨rfl, rfl⟩
  have P := HPQ.out.1
  have Q := HPQ.out.2
  have g0 : Below w13.heap.size w13 w13 := Below.refl _ _
  go_wp2
  go_region_held3 (fun u => u.cell? ⟨w.heap.size, 0, none⟩ = some (.int .i64 ax) ∧ u.cell? ⟨w.heap.size, 1, none⟩ = some (.int .i64 ay) ∧ u.cell? ⟨w.heap.size + 1, 0, none⟩ = some (.int .i64 bx) ∧ u.cell? ⟨w.heap.size + 1, 1, none⟩ = some (.int .i64 b_y)) (exact keepPQ (by repeat (first | (with_reducible assumption) | (with_reducible exact Below.refl _ _) | (with_reducible apply Below.drew))) P Q) (first
    | (go_at_call 42
       refine (Bol.toBoolSSR s.a s.len s.cap T w13 _ (by repeat (first | (with_reducible assumption) | (with_reducible exact Below.refl _ _) | (with_reducible apply Below.drew))) (HH.out.next HB.out) HR.out.2.1 HR.out.2.2).mono ?_
       rintro e wa ⟨bb, rfl, J1, K7⟩
       have Ka : Below wa.heap.size wa wa := Below.refl _ _)
    | (go_at_call 36
       refine (Cel.toCellRR _ _ w13 _ wa (by repeat (first | (with_reducible assumption) | (with_reducible exact Below.refl _ _) | (with_reducible apply Below.drew))) (by repeat (first | (with_reducible assumption) | (with_reducible exact Below.refl _ _) | (with_reducible apply Below.drew)))).mono ?_
       rintro e wb ⟨rfl, Kd, Kj⟩)
    | (go_at_call 24
       refine (implPlanPath (some ⟨bb, 0, none⟩) s.len s.len T (ax, ay) (bx, b_y) _ (J1.out.next Kj) hl).mono ?_
       rintro e wdm hIR
       obtain ⟨⟨sam, slm, scm⟩, rfl, em, Om, Ke⟩ := hIR.r Kd)
    | fail)
  replace HB := Lib.hid (below_call HB.out Ke)
  replace O0 := Lib.hid (O0.out.next Ke)
  replace HOj := Lib.hid (HOj.out.next Ke)
  obtain rfl : sl1 = slm := by rw [em.out, HE0.out]
  clear g0 J1 K7 Ka Kd Kj Ke em P Q HPQ
  go_wp2_with fail
  refine (Cel.eqCellS sam sa0 sl1 sl1 scm sc0 _ _ Om.out.ints O0.out.ints (by omega)).mono ?_
  rintro e w15 ⟨rfl, B15⟩
  replace HB := Lib.hid (below_call HB.out B15)
  replace HOj := Lib.hid (HOj.out.next B15)
  clear B15 O0 Om
  go_wp2_with fail
  refine (Cel.heldCellS sa1 sl1 sc1 1 _ HOj.out.ints (by omega) (by omega) (by omega)).mono ?_
  rintro e w' ⟨rfl, rfl⟩
  go_wp2
  go_ret
  exact ⟨rfl, HB.out⟩
end Go.Proofs.Ytmdkihaiognpgaa
