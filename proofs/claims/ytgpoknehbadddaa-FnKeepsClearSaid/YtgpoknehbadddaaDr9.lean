/- What the laws on clearance draw from a code. -/
import Derived.Test.YtgpoknehbadddaaSc9
import Derived.Test.YtgpoknehbadddaaDr8
import Derived.Test.YtgpoknehbadddaaZbRd
import Derived.Test.YtgpoknehbadddaaZbInv
namespace Go.Proofs.Ytgpoknehbadddaa
set_option maxRecDepth 100000
open Go.RowKit
attribute [local go_sem ↓] Go.wp_at_zero Go.wp_at_succ
/-- What holds when the operations of 'listed' have come up. -/
inductive RFKc (w w0 : World) (r R V : Nat) (x y : Int) (s : Sl) (u : World) : Array Bool → Act → Prop
  | mk (l0 l1 l2 l3 l4 l5 l6 l7 l8 l9 l10 l11 l12 l13 l14 : Bool) (v2 v4 v14 v15 v16 v17 v18 v19 v20 v21 v22 v23 v24 v25 p0 p1 p8 p9 p10 p11 p12 p13 : Value) (M : Nat) (xR yR : Int)
    (c0 : l0 = true → v14 = .slice s.a s.len s.cap) (c1 : l1 = true → v15 = pt x y) (c2 : l2 = true → v16 = .pointer (some ⟨r, 0, none⟩)) (c3 : l3 = true → CI 0 29 v17) (c4 : l4 = true → CA r u 4 (-1) (1001) v18) (c5 : l5 = true → CA r u 7 (0) (3) v19) (c6 : l6 = true → v20 = .pointer (some ⟨r, 0, none⟩)) (c7 : l7 = true → CI 0 6 v21) (c8 : l8 = true → CP r u (0) (3) v22) (c9 : l9 = true → CI (0) (3) v23) (c10 : l10 = true → CP r u (-1) (1001) v24) (c11 : l11 = true → CI (-1) (1001) v25) (c12 : l12 = true → v2 = .slice s.a s.len s.cap) (c13 : l13 = true → xR = x ∧ yR = y) (c14 : l14 = true → CI (-1) (1001) v4)
    (hM : M + ((if l3 then 0 else 1) + (if l7 then 0 else 1)) ≤ 4000) (G : GSt w w0 r [R] M u) (oR : OwnP u R xR yR) : RFKc w w0 r R V x y s u #[l0, l1, l2, l3, l4, l5, l6, l7, l8, l9, l10, l11, l12, l13, l14] { tmps := #[p0, p1, v2, .pointer (some ⟨R, 0, none⟩), v4, .pointer (some ⟨r, 0, none⟩), .slice s.a s.len s.cap, .pointer (some ⟨V, 0, none⟩), p8, p9, p10, p11, p12, p13, v14, v15, v16, v17, v18, v19, v20, v21, v22, v23, v24, v25], defers := [] }
theorem RFKc.size {w w0 : World} {r R V : Nat} {x y : Int} {s : Sl} {u : World} {listed : Array Bool} {a : Act} (h : RFKc w w0 r R V x y s u listed a) : listed.size = 15 := by cases h; rfl
/-- What the draw of a scene, a point and a number says. -/
def GotK (w : World) (e : Ending) (w' : World) : Prop :=
  ∃ (s : Sl) (pss : List (List P2)) (p : P2) (d : Int), e = .returned (.tuple #[.slice s.a s.len s.cap, pt p.1 p.2, .int .i64 d]) ∧ PSS w' s.a s.len pss ∧ pss.length ≤ 9 ∧ -1 ≤ d ∧ d ≤ 1001 ∧ Below w.heap.size w w'
def GotQ3 (w : World) (e : Ending) (w' : World) : Prop := ∃ p a b : P2, e = .returned (.tuple #[pt p.1 p.2, pt a.1 a.2, pt b.1 b.2]) ∧ Below w.heap.size w w'
set_option maxHeartbeats 4000000 in
theorem drawSegmentSquare (w : World) (a : Option Addr) (len cap : Nat) (zs : List Int) (h : Bytes w a len cap zs) :
    Calls Try.prog 10 #[.slice a len cap] w (GotP3 w) := by
  have h' := bytes_box (bytes_box (bytes_box h (.cells #[.int .i64 0, .int .i64 0] 24)) (.cells #[.int .i64 0, .int .i64 0] 24)) (.cells #[.int .i64 0, .int .i64 0] 24)
  have O0 := own3 w 24
  have H0 := Lib.hid (below_box3 w (.cells #[.int .i64 0, .int .i64 0] 24) (.cells #[.int .i64 0, .int .i64 0] 24) (.cells #[.int .i64 0, .int .i64 0] 24))
  go_enter Try.func10, Try.ntmps10
  go_wp2_with fail
  refine (open_at _ a len cap zs h' (w.heap.size + 1 + 1 + 1) (by simp)).mono ?_
  rintro e w1 ⟨rfl, hr1, hb1⟩
  have Ra := O0.1.next hb1
  have Rb := O0.2.1.next hb1
  have Rc := O0.2.2.next hb1
  have Bl := below_call H0.out hb1
  clear h h' O0 hb1 H0
  have n1 : w.heap.size ≠ w.heap.size + 1 + 1 + 1 := by omega
  have n2 : w.heap.size + 1 ≠ w.heap.size + 1 + 1 + 1 := by omega
  have n3 : w.heap.size + 1 + 1 ≠ w.heap.size + 1 + 1 + 1 := by omega
  go_wp2_with fail
  refine (l20Point _ _ _ 20 _ hr1 (by omega) (by omega) (by omega)).mono ?_
  rintro e w2 ⟨ax, ay, p1, p2, p3, p4, rfl, hr2, hg2⟩
  have lt2 := hr2.lt
  have n4 : w2.heap.size ≠ w.heap.size + 1 + 1 + 1 := by omega
  replace Ra := (Ra.grown hg2 n1).alloc (.cells #[.int .i64 ax, .int .i64 ay] 24)
  replace Rb := (Rb.grown hg2 n2).alloc (.cells #[.int .i64 ax, .int .i64 ay] 24)
  replace Rc := (Rc.grown hg2 n3).alloc (.cells #[.int .i64 ax, .int .i64 ay] 24)
  have Va := OwnP.box w2 ax ay 24
  replace Bl := (Bl.grown hg2 Bl.size (fun k hk => by injection hk with hk; omega))
  replace Bl := Bl.alloc Bl.size (.cells #[.int .i64 ax, .int .i64 ay] 24)
  replace hr2 := hr2.alloc (.cells #[.int .i64 ax, .int .i64 ay] 24)
  clear hr1 hg2
  go_wp2_with fail
  refine (l20Point _ _ _ 20 _ hr2 (by omega) (by omega) (by omega)).mono ?_
  rintro e w3 ⟨bx, b_y, p5, p6, p7, p8, rfl, hr3, hg3⟩
  have lt3 := hr3.lt
  have n5 : w3.heap.size ≠ w.heap.size + 1 + 1 + 1 := by omega
  replace Va := (Va.grown hg3 n4).alloc (.cells #[.int .i64 bx, .int .i64 b_y] 24)
  replace Ra := (Ra.grown hg3 n1).alloc (.cells #[.int .i64 bx, .int .i64 b_y] 24)
  replace Rb := (Rb.grown hg3 n2).alloc (.cells #[.int .i64 bx, .int .i64 b_y] 24)
  replace Rc := (Rc.grown hg3 n3).alloc (.cells #[.int .i64 bx, .int .i64 b_y] 24)
  have Vb := OwnP.box w3 bx b_y 24
  replace Bl := (Bl.grown hg3 Bl.size (fun k hk => by injection hk with hk; omega))
  replace Bl := Bl.alloc Bl.size (.cells #[.int .i64 bx, .int .i64 b_y] 24)
  replace hr3 := hr3.alloc (.cells #[.int .i64 bx, .int .i64 b_y] 24)
  have sz3 := hg3.size
  have m1 : w2.heap.size ≠ w3.heap.size := by simp at sz3; omega
  clear hr2 hg3
  go_wp2_with fail
  refine (l20Point _ _ _ 20 _ hr3 (by omega) (by omega) (by omega)).mono ?_
  rintro e w4 ⟨cx, cy, p9, p10, p11, p12, rfl, hr4, hg4⟩
  have lt4 := hr4.lt
  have n6 : w4.heap.size ≠ w.heap.size + 1 + 1 + 1 := by omega
  replace Va := (Va.grown hg4 n4).alloc (.cells #[.int .i64 cx, .int .i64 cy] 24)
  replace Vb := (Vb.grown hg4 n5).alloc (.cells #[.int .i64 cx, .int .i64 cy] 24)
  replace Ra := (Ra.grown hg4 n1).alloc (.cells #[.int .i64 cx, .int .i64 cy] 24)
  replace Rb := (Rb.grown hg4 n2).alloc (.cells #[.int .i64 cx, .int .i64 cy] 24)
  replace Rc := (Rc.grown hg4 n3).alloc (.cells #[.int .i64 cx, .int .i64 cy] 24)
  have Vc := OwnP.box w4 cx cy 24
  replace Bl := (Bl.grown hg4 Bl.size (fun k hk => by injection hk with hk; omega))
  replace Bl := Bl.alloc Bl.size (.cells #[.int .i64 cx, .int .i64 cy] 24)
  replace hr4 := hr4.alloc (.cells #[.int .i64 cx, .int .i64 cy] 24)
  have sz4 := hg4.size
  have m2 : w2.heap.size ≠ w4.heap.size := by simp at sz3 sz4; omega
  have m3 : w3.heap.size ≠ w4.heap.size := by simp at sz4; omega
  clear hr3 hg4
  go_wp2_with fail
  refine (oddA _ _ _ 6 _ hr4 (by omega) (by omega) (by omega)).mono ?_
  rintro e w5 ⟨z, rfl, hr5, hg5, hs5⟩
  replace Va := Va.grown hg5 n4
  replace Vb := Vb.grown hg5 n5
  replace Vc := Vc.grown hg5 n6
  replace Ra := Ra.grown hg5 n1
  replace Rb := Rb.grown hg5 n2
  replace Rc := Rc.grown hg5 n3
  replace Bl := Bl.grown hg5 Bl.size (fun k hk => by injection hk with hk; omega)
  have d1 : w.heap.size ≠ w2.heap.size := by omega
  have d2 : w.heap.size ≠ w3.heap.size := by omega
  have d3 : w.heap.size ≠ w4.heap.size := by omega
  have d4 : w.heap.size + 1 ≠ w2.heap.size := by omega
  have d5 : w.heap.size + 1 ≠ w3.heap.size := by omega
  have d6 : w.heap.size + 1 ≠ w4.heap.size := by omega
  have d7 : w.heap.size + 1 + 1 ≠ w2.heap.size := by omega
  have d8 : w.heap.size + 1 + 1 ≠ w3.heap.size := by omega
  have d9 : w.heap.size + 1 + 1 ≠ w4.heap.size := by omega
  have le1 : w.heap.size ≤ w4.heap.size := by omega
  clear hr5 hg5 hs5 hr4 sz3 sz4
  by_cases hz : z = true
  · subst hz
    obtain ⟨⟨i1, i2, i3⟩, i4, i5⟩ := id Va
    obtain ⟨⟨j1, j2, j3⟩, j4, j5⟩ := id Vb
    obtain ⟨⟨k1, k2, k3⟩, k4, k5⟩ := id Vc
    have HB := Lib.hid (below_set Bl le1 (.int .i64 bx) (.int .i64 b_y))
    have Wc := (Vc.put0 bx).put1 b_y
    have Wa : OwnP ((w5.setCell ⟨w4.heap.size, 0, none⟩ (.int .i64 bx)).setCell ⟨w4.heap.size, 1, none⟩ (.int .i64 b_y)) _ _ _ := (Va.far m2.symm _).far m2.symm _
    have Wb : OwnP ((w5.setCell ⟨w4.heap.size, 0, none⟩ (.int .i64 bx)).setCell ⟨w4.heap.size, 1, none⟩ (.int .i64 b_y)) _ _ _ := (Vb.far m3.symm _).far m3.symm _
    have Sa : OwnP ((w5.setCell ⟨w4.heap.size, 0, none⟩ (.int .i64 bx)).setCell ⟨w4.heap.size, 1, none⟩ (.int .i64 b_y)) _ _ _ := (Ra.far d3.symm _).far d3.symm _
    have Sb : OwnP ((w5.setCell ⟨w4.heap.size, 0, none⟩ (.int .i64 bx)).setCell ⟨w4.heap.size, 1, none⟩ (.int .i64 b_y)) _ _ _ := (Rb.far d6.symm _).far d6.symm _
    have Sc : OwnP ((w5.setCell ⟨w4.heap.size, 0, none⟩ (.int .i64 bx)).setCell ⟨w4.heap.size, 1, none⟩ (.int .i64 b_y)) _ _ _ := (Rc.far d9.symm _).far d9.symm _
    clear Va Vb Vc Ra Rb Rc Bl
    go_wp2
    generalize ((w5.setCell ⟨w4.heap.size, 0, none⟩ (.int .i64 bx)).setCell ⟨w4.heap.size, 1, none⟩ (.int .i64 b_y)) = w6 at *
    clear i1 i2 i3 i4 i5 j1 j2 j3 j4 j5 k1 k2 k3 k4 k5
    obtain ⟨⟨i1, i2, i3⟩, i4, i5⟩ := Wa
    obtain ⟨⟨j1, j2, j3⟩, j4, j5⟩ := Wb
    obtain ⟨⟨k1, k2, k3⟩, k4, k5⟩ := Wc
    obtain ⟨⟨e1, e2, e3⟩, e4, e5⟩ := Sa
    obtain ⟨⟨f1, f2, f3⟩, f4, f5⟩ := Sb
    obtain ⟨⟨g1, g2, g3⟩, g4, g5⟩ := Sc
    go_region_held3 (fun u => u.cell? ⟨w2.heap.size, 0, none⟩ = some (.int .i64 ax) ∧ u.cell? ⟨w2.heap.size, 1, none⟩ = some (.int .i64 ay) ∧ u.cell? ⟨w3.heap.size, 0, none⟩ = some (.int .i64 bx) ∧ u.cell? ⟨w3.heap.size, 1, none⟩ = some (.int .i64 b_y) ∧
      u.cell? ⟨w4.heap.size, 0, none⟩ = some (.int .i64 bx) ∧ u.cell? ⟨w4.heap.size, 1, none⟩ = some (.int .i64 b_y)) (go_keep) (fail)
    go_wp2
    exact bodyPost_ret (v := .tuple #[pt ax ay, pt bx b_y, pt bx b_y]) (by simp [results, Try.results10, go_sem, e2, e3, f2, f3, g2, g3]) rfl
      ⟨ax, ay, bx, b_y, bx, b_y, ⟨small_of p1 p2, small_of p3 p4, small_of p5 p6, small_of p7 p8, small_of p5 p6, small_of p7 p8⟩, rfl,
        (below_set (below_set (below_set HB.out (Nat.le_refl _) _ _) (by omega) _ _) (by omega) _ _).drew⟩
  · obtain rfl : z = false := by simpa using hz
    have HB := Lib.hid Bl
    clear Bl
    obtain ⟨⟨i1, i2, i3⟩, i4, i5⟩ := Va
    obtain ⟨⟨j1, j2, j3⟩, j4, j5⟩ := Vb
    obtain ⟨⟨k1, k2, k3⟩, k4, k5⟩ := Vc
    obtain ⟨⟨e1, e2, e3⟩, e4, e5⟩ := Ra
    obtain ⟨⟨f1, f2, f3⟩, f4, f5⟩ := Rb
    obtain ⟨⟨g1, g2, g3⟩, g4, g5⟩ := Rc
    go_wp2
    go_region_held3 (fun u => u.cell? ⟨w2.heap.size, 0, none⟩ = some (.int .i64 ax) ∧ u.cell? ⟨w2.heap.size, 1, none⟩ = some (.int .i64 ay) ∧ u.cell? ⟨w3.heap.size, 0, none⟩ = some (.int .i64 bx) ∧ u.cell? ⟨w3.heap.size, 1, none⟩ = some (.int .i64 b_y) ∧
      u.cell? ⟨w4.heap.size, 0, none⟩ = some (.int .i64 cx) ∧ u.cell? ⟨w4.heap.size, 1, none⟩ = some (.int .i64 cy)) (go_keep) (fail)
    go_wp2
    exact bodyPost_ret (v := .tuple #[pt ax ay, pt bx b_y, pt cx cy]) (by simp [results, Try.results10, go_sem, e2, e3, f2, f3, g2, g3]) rfl
      ⟨ax, ay, bx, b_y, cx, cy, ⟨small_of p1 p2, small_of p3 p4, small_of p5 p6, small_of p7 p8, small_of p9 p10, small_of p11 p12⟩, rfl,
        (below_set (below_set (below_set HB.out (Nat.le_refl _) _ _) (by omega) _ _) (by omega) _ _).drew⟩
theorem drawSegmentSquareQ (w : World) (a : Option Addr) (len cap : Nat) (zs : List Int) (h : Bytes w a len cap zs) :
    Calls Try.prog 10 #[.slice a len cap] w (GotQ3 w) :=
  (drawSegmentSquare w a len cap zs h).mono fun _ _ ⟨px, py, ax, ay, bx, b_y, _, he, hb⟩ => ⟨(px, py), (ax, ay), (bx, b_y), he, hb⟩
theorem drawPolygonSquare (w : World) (a : Option Addr) (len cap : Nat) (zs : List Int) (h : Bytes w a len cap zs) :
    Calls Try.prog 15 #[.slice a len cap] w (GotQP 16 w) := by
  have h' := bytes_box h (.cells #[.int .i64 0, .int .i64 0] 24)
  have H0 := Lib.hid (below_box w (.cells #[.int .i64 0, .int .i64 0] 24))
  have N0 := Lib.hid (Cells8.new w (ptQ (0, 0)) 24)
  have HZ := Lib.hid (drawInsideConvexO _ a len cap zs h')
  clear h h'
  go_enter Try.func15, Try.ntmps15
  go_wp2_with fail
  refine HZ.out.mono ?_
  rintro e w1 ⟨s, ps, q, rfl, ho, hn, hb⟩
  replace N0 := Lib.hid (N0.out.next hb)
  have HB1 := Lib.hid (below_call H0.out hb)
  have HO := Lib.hid ho
  obtain ⟨c0, c1⟩ := N0.out.pc
  obtain ⟨c2, c3⟩ := N0.out.pf
  have HCP := Lib.hid ho.cap8
  have HF := Lib.hid (show PL ((w1.setCell ⟨w.heap.size, 0, none⟩ (.int .i64 q.1)).setCell ⟨w.heap.size, 1, none⟩ (.int .i64 q.2)) s.a s.len ps ∧ Below w.heap.size w ((w1.setCell ⟨w.heap.size, 0, none⟩ (.int .i64 q.1)).setCell ⟨w.heap.size, 1, none⟩ (.int .i64 q.2)) from
    ⟨(OwnPt.ints (HO.out.pick8 (grown_box w1 w.heap.size (.int .i64 q.1) (.int .i64 q.2)) (by simp))).pl, below_set HB1.out (Nat.le_refl _) _ _⟩)
  clear N0 HO HB1 H0 ho hb HZ
  go_wp2
  exact bodyPost_ret (v := .tuple #[.slice s.a s.len s.cap, pt q.1 q.2]) (by simp [results, Try.results15, go_sem, c0, c1]) rfl ⟨s, ps, q, rfl, HF.out.1, hn, HF.out.2, HCP.out⟩
set_option maxHeartbeats 16000000 in
theorem drawKeepsClear (w : World) (a : Option Addr) (len cap : Nat) (zs : List Int) (h : Bytes w a len cap zs) :
    Calls Try.prog 20 #[.slice a len cap] w (GotK w) := by
  have O0 := OwnP.box w 0 0 24
  have H0 := Lib.hid (below_box w (.cells #[.int .i64 0, .int .i64 0] 24))
  go_enter Try.func20, Try.ntmps20
  go_wp2_with fail
  refine (gopen w _ a len cap zs h H0.out (w.heap.size + 1) (by simp)).mono ?_
  rintro e w1 ⟨rfl, hr1, hb1⟩
  have O1 := Lib.hid (O0.next hb1)
  have H1 := Lib.hid (below_call H0.out hb1)
  have hlt1 := hr1.lt
  clear O0 H0 hb1 h
  go_wp2_with fail
  refine (l20Scene _ _ _ 9 _ hr1 (by omega) (by omega) (by omega)).mono ?_
  rintro e w2 ⟨s, ss, pss, rfl, hn, S2⟩
  have O2 := Lib.hid (O1.out.grown S2.gr (by omega))
  have H2 := Lib.hid (H1.out.grown S2.gr H1.out.size (fun q hq => by injection hq with hq; omega))
  clear hr1 O1 H1
  go_wp2_with fail
  refine (l20Point _ _ _ 12 _ S2.rd (by omega) (by omega) (by omega)).mono ?_
  rintro e w3 ⟨x, y, p1, p2, p3, p4, rfl, hr3, hg3⟩
  have O3 := Lib.hid ((O2.out.grown hg3 (by omega)).alloc (.cells #[.int .i64 x, .int .i64 y] 24))
  have H3 := Lib.hid (below_call (H2.out.grown hg3 H2.out.size (fun q hq => by injection hq with hq; omega)) (below_box w3 (.cells #[.int .i64 x, .int .i64 y] 24)))
  have S3 := Lib.hid ((S2.pick hr3 hg3 hlt1).alloc (.cells #[.int .i64 x, .int .i64 y] 24))
  have hlt3 := hr3.lt
  have P4 := AtP.box w3 x y 24
  have hsz : w.heap.size + 1 < w3.heap.size := hlt3
  obtain ⟨V, hV⟩ : ∃ V, w3.heap.size = V := ⟨_, rfl⟩
  rw [hV] at P4 hlt3 hsz
  clear hr3 hg3 O2 H2 S2 p1 p2 p3 p4
  go_upto_region 4 with fail
  clear hV
  generalize w3.alloc (.cells #[.int .i64 x, .int .i64 y] 24) = w0 at *
  have hPV := P4
  have nVr : V ≠ w.heap.size + 1 := by omega
  have nVs : V ∉ [w.heap.size] := by simp; omega
  have gR : w.heap.size ≤ w.heap.size := Nat.le_refl _
  have lR : w.heap.size < w.heap.size + 1 := by omega
  have G0 := Lib.hid ((GSt.start (rs := [w.heap.size]) S3.out.rd H3.out).drew)
  have oR0 := Lib.hid (O3.out.next (below_drew' _))
  have HM0 := Lib.hid (show 0 + 3000 + 7 + ((if false then 0 else 1) + (if false then 0 else 1)) ≤ 4000 by decide)
  have HWP : Hid (∀ (u : World) (M : Nat), GSt w w0 (w.heap.size + 1) [w.heap.size] M u → PSS u s.a s.len pss) := Lib.hid (fun u M G => (G.pss9 S3.out (fun k hk => ⟨by omega, by simp; omega⟩)).pss)
  clear O3 H3 S3 P4
  refine wp_region_inv (fun listed act u => RFKc w w0 (w.heap.size + 1) w.heap.size V x y s u listed act) (by kernel_rfl) ?hlt ?hsz ?h0 ?hstep ?hdone
  case h0 =>
    exact ⟨false, false, false, false, false, false, false, false, false, false, false, false, false, false, false, _, _, _, _, _, _, _, _, _, _, _, _, _, _, _, _, _, _, _, _, _, _, _, _, _, (by intro h; cases h), (by intro h; cases h), (by intro h; cases h), (by intro h; cases h), (by intro h; cases h), (by intro h; cases h), (by intro h; cases h), (by intro h; cases h), (by intro h; cases h), (by intro h; cases h), (by intro h; cases h), (by intro h; cases h), (by intro h; cases h), (by intro h; cases h), (by intro h; cases h), HM0.out, G0.out, oR0.out⟩
  case hstep =>
    intro listed act u i o hR ho hl hd
    obtain ⟨l0, l1, l2, l3, l4, l5, l6, l7, l8, l9, l10, l11, l12, l13, l14, v2, v4, v14, v15, v16, v17, v18, v19, v20, v21, v22, v23, v24, v25, p0, p1, p8, p9, p10, p11, p12, p13, M, xR, yR, c0, c1, c2, c3, c4, c5, c6, c7, c8, c9, c10, c11, c12, c13, c14, hM, G, oR⟩ := hR
    have hi : i < 15 := by rcases Nat.lt_or_ge i 15 with h | h; exact h; rw [Array.getElem?_eq_none (by simpa using h)] at ho; cases ho
    have hi2 : i = 0 ∨ i = 1 ∨ i = 2 ∨ i = 3 ∨ i = 4 ∨ i = 5 ∨ i = 6 ∨ i = 7 ∨ i = 8 ∨ i = 9 ∨ i = 10 ∨ i = 11 ∨ i = 12 ∨ i = 13 ∨ i = 14 := by omega
    rcases hi2 with rfl | rfl | rfl | rfl | rfl | rfl | rfl | rfl | rfl | rfl | rfl | rfl | rfl | rfl | rfl
    all_goals (cases ho)
    · skip
      refine wpOp_step rfl (fun K hK => ?_)
      go_simp
      refine hK _ _ ?_
      exact ⟨true, l1, l2, l3, l4, l5, l6, l7, l8, l9, l10, l11, l12, l13, l14, _, _, _, _, _, _, _, _, _, _, _, _, _, _, _, _, _, _, _, _, _, _, M, xR, yR, fun _ => rfl, c1, c2, c3, c4, c5, c6, c7, c8, c9, c10, c11, c12, c13, c14, hM, G, oR⟩
    · obtain ⟨_, k0, k1⟩ := G.atp hPV nVr nVs
      refine wpOp_step rfl (fun K hK => ?_)
      go_simp
      refine hK _ _ ?_
      exact ⟨l0, true, l2, l3, l4, l5, l6, l7, l8, l9, l10, l11, l12, l13, l14, _, _, _, _, _, _, _, _, _, _, _, _, _, _, _, _, _, _, _, _, _, _, M, xR, yR, c0, fun _ => rfl, c2, c3, c4, c5, c6, c7, c8, c9, c10, c11, c12, c13, c14, hM, G, oR⟩
    · skip
      refine wpOp_step rfl (fun K hK => ?_)
      go_simp
      refine hK _ _ ?_
      exact ⟨l0, l1, true, l3, l4, l5, l6, l7, l8, l9, l10, l11, l12, l13, l14, _, _, _, _, _, _, _, _, _, _, _, _, _, _, _, _, _, _, _, _, _, _, M, xR, yR, c0, c1, fun _ => rfl, c3, c4, c5, c6, c7, c8, c9, c10, c11, c12, c13, c14, hM, G, oR⟩
    · obtain rfl := c2 (hd { on := 2, ground := Ground.data } (by simp) rfl)
      have e3 : l3 = false := hl
      subst e3
      refine wpOp_step rfl (fun K hK => ?_)
      go_simp
      refine (gpick 30 (by omega) G (by omega)).mono ?_
      rintro e u' ⟨xk, h0, h1, rfl, G', KA, hg⟩
      refine hK _ _ ?_
      exact ⟨l0, l1, l2, true, l4, l5, l6, l7, l8, l9, l10, l11, l12, l13, l14, _, _, _, _, _, _, _, _, _, _, _, _, _, _, _, _, _, _, _, _, _, _, (M + 1), xR, yR, c0, c1, c2, fun _ => ⟨xk, rfl, h0, by omega⟩, fun h => (c4 h).keep KA, fun h => (c5 h).keep KA, c6, c7, fun h => (c8 h).keep KA, c9, fun h => (c10 h).keep KA, c11, c12, c13, c14, by simp only [Bool.false_eq_true, if_false, if_true] at hM ⊢; omega, G', oR.grown hg (by omega)⟩
    · have hlt := G.rd.lt
      obtain ⟨q0, rfl, q00, q01⟩ := (c3 (hd { on := 3, ground := Ground.data } (by simp) rfl)).any
      have HA := Lib.hid (GArr.new (r := (w.heap.size + 1)) u [q0, 0, (-1), 1001] [.int .i64 q0, .int .i64 0, .int .i64 (-1), .int .i64 1001] rfl 3 hlt)
      refine wpOp_step rfl (fun K hK => ?_)
      go_simp
      refine hK _ _ ?_
      exact ⟨l0, l1, l2, l3, true, l5, l6, l7, l8, l9, l10, l11, l12, l13, l14, _, _, _, _, _, _, _, _, _, _, _, _, _, _, _, _, _, _, _, _, _, _, M, xR, yR, c0, c1, c2, c3, fun _ => ⟨_, [q0, 0, (-1), 1001], rfl, rfl, by intro z hz; simp at hz; omega, HA.out⟩, fun h => (c5 h).keep (GKeeps.alloc (w.heap.size + 1) u _), c6, c7, fun h => (c8 h).keep (GKeeps.alloc (w.heap.size + 1) u _), c9, fun h => (c10 h).keep (GKeeps.alloc (w.heap.size + 1) u _), c11, c12, c13, c14, hM, G.next (below_box u _), oR.alloc _⟩
    · have hlt := G.rd.lt
      have HA := Lib.hid (GArr.new (r := (w.heap.size + 1)) u [0, 0, 0, 0, 1, 2, 3] [.int .i64 0, .int .i64 0, .int .i64 0, .int .i64 0, .int .i64 1, .int .i64 2, .int .i64 3] rfl 3 hlt)
      refine wpOp_step rfl (fun K hK => ?_)
      go_simp
      refine hK _ _ ?_
      exact ⟨l0, l1, l2, l3, l4, true, l6, l7, l8, l9, l10, l11, l12, l13, l14, _, _, _, _, _, _, _, _, _, _, _, _, _, _, _, _, _, _, _, _, _, _, M, xR, yR, c0, c1, c2, c3, fun h => (c4 h).keep (GKeeps.alloc (w.heap.size + 1) u _), fun _ => ⟨_, [0, 0, 0, 0, 1, 2, 3], rfl, rfl, by intro z hz; simp at hz; omega, HA.out⟩, c6, c7, fun h => (c8 h).keep (GKeeps.alloc (w.heap.size + 1) u _), c9, fun h => (c10 h).keep (GKeeps.alloc (w.heap.size + 1) u _), c11, c12, c13, c14, hM, G.next (below_box u _), oR.alloc _⟩
    · skip
      refine wpOp_step rfl (fun K hK => ?_)
      go_simp
      refine hK _ _ ?_
      exact ⟨l0, l1, l2, l3, l4, l5, true, l7, l8, l9, l10, l11, l12, l13, l14, _, _, _, _, _, _, _, _, _, _, _, _, _, _, _, _, _, _, _, _, _, _, M, xR, yR, c0, c1, c2, c3, c4, c5, fun _ => rfl, c7, c8, c9, c10, c11, c12, c13, c14, hM, G, oR⟩
    · obtain rfl := c6 (hd { on := 6, ground := Ground.data } (by simp) rfl)
      have e7 : l7 = false := hl
      subst e7
      refine wpOp_step rfl (fun K hK => ?_)
      go_simp
      refine (gpick 7 (by omega) G (by omega)).mono ?_
      rintro e u' ⟨xk, h0, h1, rfl, G', KA, hg⟩
      refine hK _ _ ?_
      exact ⟨l0, l1, l2, l3, l4, l5, l6, true, l8, l9, l10, l11, l12, l13, l14, _, _, _, _, _, _, _, _, _, _, _, _, _, _, _, _, _, _, _, _, _, _, (M + 1), xR, yR, c0, c1, c2, c3, fun h => (c4 h).keep KA, fun h => (c5 h).keep KA, c6, fun _ => ⟨xk, rfl, h0, by omega⟩, fun h => (c8 h).keep KA, c9, fun h => (c10 h).keep KA, c11, c12, c13, c14, by simp only [Bool.false_eq_true, if_false, if_true] at hM ⊢; omega, G', oR.grown hg (by omega)⟩
    · obtain ⟨b, rfl, hx⟩ := (c5 (hd { on := 5, ground := Ground.data } (by simp) rfl)).index
      obtain ⟨xk, rfl, x0, x1⟩ := (c7 (hd { on := 7, ground := Ground.data } (by simp) rfl)).any
      have x2 : xk < 7 := by omega
      have HX := Lib.hid (hx xk x0 (by omega))
      refine wpOp_step rfl (fun K hK => ?_)
      go_simp
      refine hK _ _ ?_
      exact ⟨l0, l1, l2, l3, l4, l5, l6, l7, true, l9, l10, l11, l12, l13, l14, _, _, _, _, _, _, _, _, _, _, _, _, _, _, _, _, _, _, _, _, _, _, M, xR, yR, c0, c1, c2, c3, c4, c5, c6, c7, fun _ => HX.out, c9, c10, c11, c12, c13, c14, hM, G, oR⟩
    · obtain ⟨b, k, z, rfl, ck, k0, k1⟩ := (c8 (hd { on := 8, ground := Ground.data } (by simp) rfl)).load
      refine wpOp_step rfl (fun K hK => ?_)
      go_simp
      refine hK _ _ ?_
      exact ⟨l0, l1, l2, l3, l4, l5, l6, l7, l8, true, l10, l11, l12, l13, l14, _, _, _, _, _, _, _, _, _, _, _, _, _, _, _, _, _, _, _, _, _, _, M, xR, yR, c0, c1, c2, c3, c4, c5, c6, c7, c8, fun _ => ⟨z, rfl, k0, k1⟩, c10, c11, c12, c13, c14, hM, G, oR⟩
    · obtain ⟨b, rfl, hx⟩ := (c4 (hd { on := 4, ground := Ground.data } (by simp) rfl)).index
      obtain ⟨xk, rfl, x0, x1⟩ := (c9 (hd { on := 9, ground := Ground.data } (by simp) rfl)).any
      have x2 : xk < 4 := by omega
      have HX := Lib.hid (hx xk x0 (by omega))
      refine wpOp_step rfl (fun K hK => ?_)
      go_simp
      refine hK _ _ ?_
      exact ⟨l0, l1, l2, l3, l4, l5, l6, l7, l8, l9, true, l11, l12, l13, l14, _, _, _, _, _, _, _, _, _, _, _, _, _, _, _, _, _, _, _, _, _, _, M, xR, yR, c0, c1, c2, c3, c4, c5, c6, c7, c8, c9, fun _ => HX.out, c11, c12, c13, c14, hM, G, oR⟩
    · obtain ⟨b, k, z, rfl, ck, k0, k1⟩ := (c10 (hd { on := 10, ground := Ground.data } (by simp) rfl)).load
      refine wpOp_step rfl (fun K hK => ?_)
      go_simp
      refine hK _ _ ?_
      exact ⟨l0, l1, l2, l3, l4, l5, l6, l7, l8, l9, l10, true, l12, l13, l14, _, _, _, _, _, _, _, _, _, _, _, _, _, _, _, _, _, _, _, _, _, _, M, xR, yR, c0, c1, c2, c3, c4, c5, c6, c7, c8, c9, c10, fun _ => ⟨z, rfl, k0, k1⟩, c12, c13, c14, hM, G, oR⟩
    · obtain rfl := c0 (hd { on := 0, ground := Ground.data } (by simp) rfl)
      refine wpOp_step rfl (fun K hK => ?_)
      go_simp
      refine hK _ _ ?_
      exact ⟨l0, l1, l2, l3, l4, l5, l6, l7, l8, l9, l10, l11, true, l13, l14, _, _, _, _, _, _, _, _, _, _, _, _, _, _, _, _, _, _, _, _, _, _, M, xR, yR, c0, c1, c2, c3, c4, c5, c6, c7, c8, c9, c10, c11, fun _ => rfl, c13, c14, hM, G, oR⟩
    · obtain rfl := c1 (hd { on := 1, ground := Ground.data } (by simp) rfl)
      obtain ⟨⟨_, q0, q1⟩, y0, y1⟩ := id oR
      have HG := Lib.hid (G.set2 (k := w.heap.size) (by simp) gR (by omega) (.int .i64 x) (.int .i64 y))
      have HK := Lib.hid (GKeeps.set2 (r := (w.heap.size + 1)) (c := w.heap.size) u (.int .i64 x) (.int .i64 y) lR)
      refine wpOp_step rfl (fun K hK => ?_)
      go_simp
      refine hK _ _ ?_
      exact ⟨l0, l1, l2, l3, l4, l5, l6, l7, l8, l9, l10, l11, l12, true, l14, _, _, _, _, _, _, _, _, _, _, _, _, _, _, _, _, _, _, _, _, _, _, M, x, y, c0, c1, c2, c3, fun h => (c4 h).keep HK.out, fun h => (c5 h).keep HK.out, c6, c7, fun h => (c8 h).keep HK.out, c9, fun h => (c10 h).keep HK.out, c11, c12, fun _ => ⟨rfl, rfl⟩, c14, hM, HG.out, (oR.put0 x).put1 y⟩
    · obtain ⟨x, rfl, h0, h1⟩ := (c11 (hd { on := 11, ground := Ground.data } (by simp) rfl)).any
      refine wpOp_step rfl (fun K hK => ?_)
      go_simp
      refine hK _ _ ?_
      exact ⟨l0, l1, l2, l3, l4, l5, l6, l7, l8, l9, l10, l11, l12, l13, true, _, _, _, _, _, _, _, _, _, _, _, _, _, _, _, _, _, _, _, _, _, _, M, xR, yR, c0, c1, c2, c3, c4, c5, c6, c7, c8, c9, c10, c11, c12, c13, fun _ => ⟨x, rfl, h0, h1⟩, hM, G, oR⟩
  case hlt => exact backB_spec (by kernel_rfl)
  case hsz => exact fun listed a u h => h.size
  case hdone =>
    intro listed act u hR hall
    obtain ⟨l0, l1, l2, l3, l4, l5, l6, l7, l8, l9, l10, l11, l12, l13, l14, v2, v4, v14, v15, v16, v17, v18, v19, v20, v21, v22, v23, v24, v25, p0, p1, p8, p9, p10, p11, p12, p13, M, xR, yR, c0, c1, c2, c3, c4, c5, c6, c7, c8, c9, c10, c11, c12, c13, c14, hM, G, oR⟩ := hR
    obtain rfl := c12 (hall 12 (by decide))
    obtain ⟨rfl, rfl⟩ := c13 (hall 13 (by decide))
    obtain ⟨n, rfl, k0, k1⟩ := (c14 (hall 14 (by decide))).any
    obtain ⟨⟨_, x0, x1⟩, _, _⟩ := id oR
    have HG := Lib.hid (And.intro (HWP.out _ _ G) G.old)
    clear c0 c1 c2 c3 c4 c5 c6 c7 c8 c9 c10 c11 c12 c13 c14 hall G hM HWP oR
    go_wp2
    exact bodyPost_ret (v := .tuple #[.slice s.a s.len s.cap, pt xR yR, .int .i64 n]) (by simp [results, Try.results20, go_sem, x0, x1]) rfl ⟨s, pss, (xR, yR), n, rfl, HG.out.1, hn, k0, k1, HG.out.2⟩
end Go.Proofs.Ytgpoknehbadddaa
