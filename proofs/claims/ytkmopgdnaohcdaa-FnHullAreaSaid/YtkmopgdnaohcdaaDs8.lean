/- Drawing four points from a code. -/
import Derived.Test.YtkmopgdnaohcdaaZbRd
import Derived.Test.YtkmopgdnaohcdaaEd8
namespace Go.Proofs.Ytkmopgdnaohcdaa
set_option maxRecDepth 100000
open Go.RowKit
attribute [local go_sem ↓] Go.wp_at_zero Go.wp_at_succ
abbrev ptQ (x : P2) : Array Value := #[.int .i64 x.1, .int .i64 x.2]
theorem Cells8.pick {u u' : World} {b r : Nat} {cs : Array Value} {t : TypeId} (h : Cells8 u b cs t) (hg : u.grownBy u' (some r)) (hne : b ≠ r) : Cells8 u' b cs t :=
  (hg.block b h.lt (fun e => by injection e with e; exact hne e)).trans h
/-- What lies behind the draws: the reader, the four results' boxes, the four points' boxes. -/
structure Q4 (w u : World) (r M : Nat) (va vb vc vd : Nat) (a b c d : P2) : Prop where
  bel : Below w.heap.size w u
  n0 : Cells8 u w.heap.size (ptQ (0, 0)) 28
  n1 : Cells8 u (w.heap.size + 1) (ptQ (0, 0)) 28
  n2 : Cells8 u (w.heap.size + 1 + 1) (ptQ (0, 0)) 28
  n3 : Cells8 u (w.heap.size + 1 + 1 + 1) (ptQ (0, 0)) 28
  a : Cells8 u va (ptQ a) 28
  b : Cells8 u vb (ptQ b) 28
  c : Cells8 u vc (ptQ c) 28
  d : Cells8 u vd (ptQ d) 28
  o : w.heap.size + 1 + 1 + 1 + 1 < va ∧ va < vb ∧ vb < vc ∧ vc < vd
theorem Q4.put {w u : World} {r M va vb vc vd : Nat} {a b c d : P2} (h : Q4 w u r M va vb vc vd a b c d) (x : P2) : Q4 w ((u.setCell ⟨vc, 0, none⟩ (.int .i64 x.1)).setCell ⟨vc, 1, none⟩ (.int .i64 x.2)) r M va vb vc vd a b x d := by
  obtain ⟨o1, o2, o3, o4⟩ := h.o
  have f : ∀ {k : Nat} {cs : Array Value} {t : TypeId}, Cells8 u k cs t → k ≠ vc → Cells8 ((u.setCell ⟨vc, 0, none⟩ (.int .i64 x.1)).setCell ⟨vc, 1, none⟩ (.int .i64 x.2)) k cs t := fun hk hn => (hk.other hn _).other hn _
  exact ⟨below_set h.bel (by omega) _ _, f h.n0 (by omega), f h.n1 (by omega), f h.n2 (by omega), f h.n3 (by omega), f h.a (by omega), f h.b (by omega), (h.c.set 0 _).set 1 _, f h.d (by omega), h.o⟩
theorem Q4.putD {w u : World} {r M va vb vc vd : Nat} {a b c d : P2} (h : Q4 w u r M va vb vc vd a b c d) (x : P2) : Q4 w ((u.setCell ⟨vd, 0, none⟩ (.int .i64 x.1)).setCell ⟨vd, 1, none⟩ (.int .i64 x.2)) r M va vb vc vd a b c x := by
  obtain ⟨o1, o2, o3, o4⟩ := h.o
  have f : ∀ {k : Nat} {cs : Array Value} {t : TypeId}, Cells8 u k cs t → k ≠ vd → Cells8 ((u.setCell ⟨vd, 0, none⟩ (.int .i64 x.1)).setCell ⟨vd, 1, none⟩ (.int .i64 x.2)) k cs t := fun hk hn => (hk.other hn _).other hn _
  exact ⟨below_set h.bel (by omega) _ _, f h.n0 (by omega), f h.n1 (by omega), f h.n2 (by omega), f h.n3 (by omega), f h.a (by omega), f h.b (by omega), f h.c (by omega), (h.d.set 0 _).set 1 _, h.o⟩
theorem Q4.next {w u u' : World} {r M va vb vc vd : Nat} {a b c d : P2} (h : Q4 w u r M va vb vc vd a b c d) (hb : Below u.heap.size u u') : Q4 w u' r M va vb vc vd a b c d :=
  ⟨below_call h.bel hb, h.n0.next hb, h.n1.next hb, h.n2.next hb, h.n3.next hb, h.a.next hb, h.b.next hb, h.c.next hb, h.d.next hb, h.o⟩
theorem Cells8.pc {u : World} {k : Nat} {x : P2} {t : TypeId} (h : Cells8 u k (ptQ x) t) : u.cell? ⟨k, 0, none⟩ = some (.int .i64 x.1) ∧ u.cell? ⟨k, 1, none⟩ = some (.int .i64 x.2) := ⟨h.cell rfl, h.cell rfl⟩
theorem Cells8.pf {u : World} {k : Nat} {x : P2} {t : TypeId} (h : Cells8 u k (ptQ x) t) : u.frozen? ⟨k, 0, none⟩ = false ∧ u.frozen? ⟨k, 1, none⟩ = false := ⟨h.frozen, h.frozen⟩
/-- What the draw says. -/
def GotQ4 (w : World) (e : Ending) (w' : World) : Prop := ∃ a b c d : P2, (small a.1 ∧ small a.2 ∧ small b.1 ∧ small b.2) ∧ e = .returned (.tuple #[pt a.1 a.2, pt b.1 b.2, pt c.1 c.2, pt d.1 d.2]) ∧ Below w.heap.size w w'
set_option maxHeartbeats 8000000 in
theorem drawSegmentsMeet (w : World) (a : Option Addr) (len cap : Nat) (zs : List Int) (h : Bytes w a len cap zs) :
    Calls Try.prog 30 #[.slice a len cap] w (GotQ4 w) := by
  have h' := bytes_box (bytes_box (bytes_box (bytes_box h (.cells #[.int .i64 0, .int .i64 0] 28)) (.cells #[.int .i64 0, .int .i64 0] 28)) (.cells #[.int .i64 0, .int .i64 0] 28)) (.cells #[.int .i64 0, .int .i64 0] 28)
  have H0 := Lib.hid (below_box4 w (.cells #[.int .i64 0, .int .i64 0] 28) (.cells #[.int .i64 0, .int .i64 0] 28) (.cells #[.int .i64 0, .int .i64 0] 28) (.cells #[.int .i64 0, .int .i64 0] 28))
  have C0 := ((Cells8.new w (ptQ (0, 0)) 28).alloc (.cells #[.int .i64 0, .int .i64 0] 28)).alloc (.cells #[.int .i64 0, .int .i64 0] 28) |>.alloc (.cells #[.int .i64 0, .int .i64 0] 28)
  have C1 := ((Cells8.new (w.alloc (.cells #[.int .i64 0, .int .i64 0] 28)) (ptQ (0, 0)) 28).alloc (.cells #[.int .i64 0, .int .i64 0] 28)).alloc (.cells #[.int .i64 0, .int .i64 0] 28)
  have C2 := ((Cells8.new ((w.alloc (.cells #[.int .i64 0, .int .i64 0] 28)).alloc (.cells #[.int .i64 0, .int .i64 0] 28)) (ptQ (0, 0)) 28).alloc (.cells #[.int .i64 0, .int .i64 0] 28))
  have C3 := Cells8.new (((w.alloc (.cells #[.int .i64 0, .int .i64 0] 28)).alloc (.cells #[.int .i64 0, .int .i64 0] 28)).alloc (.cells #[.int .i64 0, .int .i64 0] 28)) (ptQ (0, 0)) 28
  simp only [World.size_alloc] at C1 C2 C3
  go_enter Try.func30, Try.ntmps30
  go_wp2_with fail
  refine (open_at _ a len cap zs h' (w.heap.size + 1 + 1 + 1 + 1) (by simp)).mono ?_
  rintro e w1 ⟨rfl, hr1, hb1⟩
  have HC1 := Lib.hid (And.intro (C0.next hb1) (And.intro (C1.next hb1) (And.intro (C2.next hb1) (C3.next hb1))))
  have HB1 := Lib.hid (below_call H0.out hb1)
  have HR1 := Lib.hid hr1
  have hlt1 := hr1.lt
  clear h h' H0 C0 C1 C2 C3 hb1 hr1
  go_wp2_with fail
  refine (l20Point _ _ _ 20 _ HR1.out (by omega) (by omega) (by omega)).mono ?_
  rintro e v2 ⟨ax, ay, sa1, sa2, sa3, sa4, rfl, hr2, hg2⟩
  have halt := hr2.lt
  have hsz2 := hg2.size
  have HB2 := Lib.hid ((HB1.out.grown hg2 HB1.out.size (fun k hk => by injection hk with hk; omega)).alloc (HB1.out.grown hg2 HB1.out.size (fun k hk => by injection hk with hk; omega)).size (.cells #[.int .i64 ax, .int .i64 ay] 28))
  have HC2 := Lib.hid (And.intro ((HC1.out.1.pick hg2 (by omega)).alloc (.cells #[.int .i64 ax, .int .i64 ay] 28)) (And.intro ((HC1.out.2.1.pick hg2 (by omega)).alloc (.cells #[.int .i64 ax, .int .i64 ay] 28)) (And.intro ((HC1.out.2.2.1.pick hg2 (by omega)).alloc (.cells #[.int .i64 ax, .int .i64 ay] 28)) ((HC1.out.2.2.2.pick hg2 (by omega)).alloc (.cells #[.int .i64 ax, .int .i64 ay] 28)))))
  have HVa := Lib.hid (Cells8.new v2 (ptQ (ax, ay)) 28)
  have HR2 := Lib.hid (hr2.alloc (.cells #[.int .i64 ax, .int .i64 ay] 28))
  have z2 : (v2.alloc (.cells #[.int .i64 ax, .int .i64 ay] 28)).heap.size = v2.heap.size + 1 := by simp
  clear HB1 HC1 HR1 hr2 hg2
  go_wp2_with fail
  refine (l20Point _ _ _ 20 _ HR2.out (by omega) (by omega) (by omega)).mono ?_
  rintro e v3 ⟨bx, b_y, sb1, sb2, sb3, sb4, rfl, hr3, hg3⟩
  have hblt := hr3.lt
  have hsz3 := hg3.size
  have HB3 := Lib.hid ((HB2.out.grown hg3 HB2.out.size (fun k hk => by injection hk with hk; omega)).alloc (HB2.out.grown hg3 HB2.out.size (fun k hk => by injection hk with hk; omega)).size (.cells #[.int .i64 bx, .int .i64 b_y] 28))
  have HC3 := Lib.hid (And.intro ((HC2.out.1.pick hg3 (by omega)).alloc (.cells #[.int .i64 bx, .int .i64 b_y] 28)) (And.intro ((HC2.out.2.1.pick hg3 (by omega)).alloc (.cells #[.int .i64 bx, .int .i64 b_y] 28)) (And.intro ((HC2.out.2.2.1.pick hg3 (by omega)).alloc (.cells #[.int .i64 bx, .int .i64 b_y] 28)) ((HC2.out.2.2.2.pick hg3 (by omega)).alloc (.cells #[.int .i64 bx, .int .i64 b_y] 28)))))
  have HVb := Lib.hid (Cells8.new v3 (ptQ (bx, b_y)) 28)
  replace HVa := Lib.hid ((HVa.out.pick hg3 (by omega)).alloc (.cells #[.int .i64 bx, .int .i64 b_y] 28))
  have HR3 := Lib.hid (hr3.alloc (.cells #[.int .i64 bx, .int .i64 b_y] 28))
  have z3 : (v3.alloc (.cells #[.int .i64 bx, .int .i64 b_y] 28)).heap.size = v3.heap.size + 1 := by simp
  clear HB2 HC2 HR2 hr3 hg3
  rw [z2] at hsz3
  go_wp2_with fail
  refine (l20Point _ _ _ 20 _ HR3.out (by omega) (by omega) (by omega)).mono ?_
  rintro e v4 ⟨cx, cy, sc1, sc2, sc3, sc4, rfl, hr4, hg4⟩
  have hclt := hr4.lt
  have hsz4 := hg4.size
  have HB4 := Lib.hid ((HB3.out.grown hg4 HB3.out.size (fun k hk => by injection hk with hk; omega)).alloc (HB3.out.grown hg4 HB3.out.size (fun k hk => by injection hk with hk; omega)).size (.cells #[.int .i64 cx, .int .i64 cy] 28))
  have HC4 := Lib.hid (And.intro ((HC3.out.1.pick hg4 (by omega)).alloc (.cells #[.int .i64 cx, .int .i64 cy] 28)) (And.intro ((HC3.out.2.1.pick hg4 (by omega)).alloc (.cells #[.int .i64 cx, .int .i64 cy] 28)) (And.intro ((HC3.out.2.2.1.pick hg4 (by omega)).alloc (.cells #[.int .i64 cx, .int .i64 cy] 28)) ((HC3.out.2.2.2.pick hg4 (by omega)).alloc (.cells #[.int .i64 cx, .int .i64 cy] 28)))))
  have HVc := Lib.hid (Cells8.new v4 (ptQ (cx, cy)) 28)
  replace HVa := Lib.hid ((HVa.out.pick hg4 (by omega)).alloc (.cells #[.int .i64 cx, .int .i64 cy] 28))
  replace HVb := Lib.hid ((HVb.out.pick hg4 (by omega)).alloc (.cells #[.int .i64 cx, .int .i64 cy] 28))
  have HR4 := Lib.hid (hr4.alloc (.cells #[.int .i64 cx, .int .i64 cy] 28))
  have z4 : (v4.alloc (.cells #[.int .i64 cx, .int .i64 cy] 28)).heap.size = v4.heap.size + 1 := by simp
  clear HB3 HC3 HR3 hr4 hg4
  rw [z3] at hsz4
  go_wp2_with fail
  refine (l20Point _ _ _ 20 _ HR4.out (by omega) (by omega) (by omega)).mono ?_
  rintro e v5 ⟨dx, dy, sd1, sd2, sd3, sd4, rfl, hr5, hg5⟩
  have hdlt := hr5.lt
  have hsz5 := hg5.size
  have HB5 := Lib.hid ((HB4.out.grown hg5 HB4.out.size (fun k hk => by injection hk with hk; omega)).alloc (HB4.out.grown hg5 HB4.out.size (fun k hk => by injection hk with hk; omega)).size (.cells #[.int .i64 dx, .int .i64 dy] 28))
  have HC5 := Lib.hid (And.intro ((HC4.out.1.pick hg5 (by omega)).alloc (.cells #[.int .i64 dx, .int .i64 dy] 28)) (And.intro ((HC4.out.2.1.pick hg5 (by omega)).alloc (.cells #[.int .i64 dx, .int .i64 dy] 28)) (And.intro ((HC4.out.2.2.1.pick hg5 (by omega)).alloc (.cells #[.int .i64 dx, .int .i64 dy] 28)) ((HC4.out.2.2.2.pick hg5 (by omega)).alloc (.cells #[.int .i64 dx, .int .i64 dy] 28)))))
  have HVd := Lib.hid (Cells8.new v5 (ptQ (dx, dy)) 28)
  replace HVa := Lib.hid ((HVa.out.pick hg5 (by omega)).alloc (.cells #[.int .i64 dx, .int .i64 dy] 28))
  replace HVb := Lib.hid ((HVb.out.pick hg5 (by omega)).alloc (.cells #[.int .i64 dx, .int .i64 dy] 28))
  replace HVc := Lib.hid ((HVc.out.pick hg5 (by omega)).alloc (.cells #[.int .i64 dx, .int .i64 dy] 28))
  have HR5 := Lib.hid (hr5.alloc (.cells #[.int .i64 dx, .int .i64 dy] 28))
  have z5 : (v5.alloc (.cells #[.int .i64 dx, .int .i64 dy] 28)).heap.size = v5.heap.size + 1 := by simp
  clear HB4 HC4 HR4 hr5 hg5
  rw [z4] at hsz5
  go_wp2_with fail
  refine (pick _ _ _ 5 _ HR5.out (by omega)).mono ?_
  rintro e w6 ⟨z, t0, t1, rfl, hr6, hg6, hs6⟩
  have t2 := t1 (by omega)
  have HQ := Lib.hid (show Q4 w w6 (w.heap.size + 1 + 1 + 1 + 1) 0 v2.heap.size v3.heap.size v4.heap.size v5.heap.size (ax, ay) (bx, b_y) (cx, cy) (dx, dy) from
    ⟨HB5.out.grown hg6 HB5.out.size (fun k hk => by injection hk with hk; omega), HC5.out.1.pick hg6 (by omega), HC5.out.2.1.pick hg6 (by omega), HC5.out.2.2.1.pick hg6 (by omega), HC5.out.2.2.2.pick hg6 (by omega), HVa.out.pick hg6 (by omega), HVb.out.pick hg6 (by omega), HVc.out.pick hg6 (by omega), HVd.out.pick hg6 (by omega), by omega⟩)
  have HSM := Lib.hid (show small (ax, ay).1 ∧ small (ax, ay).2 ∧ small (bx, b_y).1 ∧ small (bx, b_y).2 from ⟨small_of sa1 sa2, small_of sa3 sa4, small_of sb1 sb2, small_of sb3 sb4⟩)
  clear HB5 HC5 HR5 HVa HVb HVc HVd hr6 hg6 hs6 t1 hlt1 halt hblt hclt hdlt hsz2 hsz3 hsz4 hsz5 z2 z3 z4 z5 sc1 sc2 sc3 sc4 sd1 sd2 sd3 sd4
  generalize v2.heap.size = va at *
  generalize v3.heap.size = vb at *
  generalize v4.heap.size = vc at *
  generalize v5.heap.size = vd at *
  by_cases hz0 : z = 0
  · subst hz0
    obtain ⟨i1, i2⟩ := HQ.out.a.pc
    obtain ⟨i3, i4⟩ := HQ.out.b.pc
    go_wp2_with fail
    refine (specMidpoint ax ay bx b_y _).mono ?_
    rintro e w7 ⟨rfl, B7⟩
    obtain ⟨m, hm⟩ : ∃ m : P2, m = (midX ax ay bx b_y, midY ax ay bx b_y) := ⟨_, rfl⟩
    have hm1 : midX ax ay bx b_y = m.1 := by rw [hm]
    have hm2 : midY ax ay bx b_y = m.2 := by rw [hm]
    rw [hm1, hm2]
    replace HQ := Lib.hid (HQ.out.next B7)
    clear i1 i2 i3 i4 B7 hm hm1 hm2
    obtain ⟨j1, j2⟩ := HQ.out.c.pc
    obtain ⟨j3, j4⟩ := HQ.out.c.pf
    replace HQ := Lib.hid (HQ.out.put m)
    go_upto_region 14 with fail
    clear j1 j2 j3 j4
    generalize (w7.setCell ⟨vc, 0, none⟩ (.int .i64 m.1)).setCell ⟨vc, 1, none⟩ (.int .i64 m.2) = w8 at *
    obtain ⟨o1, o2, o3, o4⟩ := HQ.out.o
    have e1 := HQ.out.n0.pc
    have e2 := HQ.out.n1.pc
    have e3 := HQ.out.n2.pc
    have e4 := HQ.out.n3.pc
    have HB := Lib.hid HQ.out.bel
    obtain ⟨i1, i2⟩ := HQ.out.a.pc
    obtain ⟨i3, i4⟩ := HQ.out.b.pc
    obtain ⟨i5, i6⟩ := HQ.out.c.pc
    obtain ⟨i7, i8⟩ := HQ.out.d.pc
    obtain ⟨f1, f2⟩ := HQ.out.n0.pf
    obtain ⟨f3, f4⟩ := HQ.out.n1.pf
    obtain ⟨f5, f6⟩ := HQ.out.n2.pf
    obtain ⟨f7, f8⟩ := HQ.out.n3.pf
    have l1 := HQ.out.a.lt
    have l2 := HQ.out.b.lt
    have l3 := HQ.out.c.lt
    have l4 := HQ.out.d.lt
    have m1 := HQ.out.n0.lt
    have m2 := HQ.out.n1.lt
    have m3 := HQ.out.n2.lt
    have m4 := HQ.out.n3.lt
    obtain ⟨e10, e11⟩ := e1
    obtain ⟨e20, e21⟩ := e2
    obtain ⟨e30, e31⟩ := e3
    obtain ⟨e40, e41⟩ := e4
    have d0a : w.heap.size ≠ va := by omega
    have d0b : w.heap.size ≠ vb := by omega
    have d0c : w.heap.size ≠ vc := by omega
    have d0d : w.heap.size ≠ vd := by omega
    have d1a : w.heap.size + 1 ≠ va := by omega
    have d1b : w.heap.size + 1 ≠ vb := by omega
    have d1c : w.heap.size + 1 ≠ vc := by omega
    have d1d : w.heap.size + 1 ≠ vd := by omega
    have d2a : w.heap.size + 1 + 1 ≠ va := by omega
    have d2b : w.heap.size + 1 + 1 ≠ vb := by omega
    have d2c : w.heap.size + 1 + 1 ≠ vc := by omega
    have d2d : w.heap.size + 1 + 1 ≠ vd := by omega
    have d3a : w.heap.size + 1 + 1 + 1 ≠ va := by omega
    have d3b : w.heap.size + 1 + 1 + 1 ≠ vb := by omega
    have d3c : w.heap.size + 1 + 1 + 1 ≠ vc := by omega
    have d3d : w.heap.size + 1 + 1 + 1 ≠ vd := by omega
    clear HQ
    go_upto_region 14 with fail
    go_region_held3 (fun u => u.cell? ⟨va, 0, none⟩ = some (.int .i64 ax) ∧ u.cell? ⟨va, 1, none⟩ = some (.int .i64 ay) ∧ u.cell? ⟨vb, 0, none⟩ = some (.int .i64 bx) ∧ u.cell? ⟨vb, 1, none⟩ = some (.int .i64 b_y) ∧ u.cell? ⟨vc, 0, none⟩ = some (.int .i64 m.1) ∧ u.cell? ⟨vc, 1, none⟩ = some (.int .i64 m.2) ∧ u.cell? ⟨vd, 0, none⟩ = some (.int .i64 (dx, dy).1) ∧ u.cell? ⟨vd, 1, none⟩ = some (.int .i64 (dx, dy).2)) (go_keep) (fail)
    go_wp2
    exact bodyPost_ret (v := .tuple #[pt ax ay, pt bx b_y, pt m.1 m.2, pt (dx, dy).1 (dx, dy).2]) (by simp [results, Try.results30, go_sem, e10, e11, e20, e21, e30, e31, e40, e41]) rfl
      ⟨(ax, ay), (bx, b_y), m, (dx, dy), HSM.out, rfl, (below_set (below_set (below_set (below_set HB.out (Nat.le_refl _) _ _) (by omega) _ _) (by omega) _ _) (by omega) _ _).drew⟩
  · have g0 : (z == 0) = false := by simpa using hz0
    by_cases hz1 : z = 1
    · subst hz1
      obtain ⟨i1, i2⟩ := HQ.out.a.pc
      obtain ⟨j1, j2⟩ := HQ.out.d.pc
      obtain ⟨j3, j4⟩ := HQ.out.d.pf
      replace HQ := Lib.hid (HQ.out.putD (ax, ay))
      go_upto_region 14 with fail
      clear j1 j2 j3 j4 i1 i2
      generalize (w6.setCell ⟨vd, 0, none⟩ (.int .i64 ax)).setCell ⟨vd, 1, none⟩ (.int .i64 ay) = w8 at *
      obtain ⟨o1, o2, o3, o4⟩ := HQ.out.o
      have e1 := HQ.out.n0.pc
      have e2 := HQ.out.n1.pc
      have e3 := HQ.out.n2.pc
      have e4 := HQ.out.n3.pc
      have HB := Lib.hid HQ.out.bel
      obtain ⟨i1, i2⟩ := HQ.out.a.pc
      obtain ⟨i3, i4⟩ := HQ.out.b.pc
      obtain ⟨i5, i6⟩ := HQ.out.c.pc
      obtain ⟨i7, i8⟩ := HQ.out.d.pc
      obtain ⟨f1, f2⟩ := HQ.out.n0.pf
      obtain ⟨f3, f4⟩ := HQ.out.n1.pf
      obtain ⟨f5, f6⟩ := HQ.out.n2.pf
      obtain ⟨f7, f8⟩ := HQ.out.n3.pf
      have l1 := HQ.out.a.lt
      have l2 := HQ.out.b.lt
      have l3 := HQ.out.c.lt
      have l4 := HQ.out.d.lt
      have m1 := HQ.out.n0.lt
      have m2 := HQ.out.n1.lt
      have m3 := HQ.out.n2.lt
      have m4 := HQ.out.n3.lt
      obtain ⟨e10, e11⟩ := e1
      obtain ⟨e20, e21⟩ := e2
      obtain ⟨e30, e31⟩ := e3
      obtain ⟨e40, e41⟩ := e4
      have d0a : w.heap.size ≠ va := by omega
      have d0b : w.heap.size ≠ vb := by omega
      have d0c : w.heap.size ≠ vc := by omega
      have d0d : w.heap.size ≠ vd := by omega
      have d1a : w.heap.size + 1 ≠ va := by omega
      have d1b : w.heap.size + 1 ≠ vb := by omega
      have d1c : w.heap.size + 1 ≠ vc := by omega
      have d1d : w.heap.size + 1 ≠ vd := by omega
      have d2a : w.heap.size + 1 + 1 ≠ va := by omega
      have d2b : w.heap.size + 1 + 1 ≠ vb := by omega
      have d2c : w.heap.size + 1 + 1 ≠ vc := by omega
      have d2d : w.heap.size + 1 + 1 ≠ vd := by omega
      have d3a : w.heap.size + 1 + 1 + 1 ≠ va := by omega
      have d3b : w.heap.size + 1 + 1 + 1 ≠ vb := by omega
      have d3c : w.heap.size + 1 + 1 + 1 ≠ vc := by omega
      have d3d : w.heap.size + 1 + 1 + 1 ≠ vd := by omega
      clear HQ
      go_upto_region 14 with fail
      go_region_held3 (fun u => u.cell? ⟨va, 0, none⟩ = some (.int .i64 ax) ∧ u.cell? ⟨va, 1, none⟩ = some (.int .i64 ay) ∧ u.cell? ⟨vb, 0, none⟩ = some (.int .i64 bx) ∧ u.cell? ⟨vb, 1, none⟩ = some (.int .i64 b_y) ∧ u.cell? ⟨vc, 0, none⟩ = some (.int .i64 (cx, cy).1) ∧ u.cell? ⟨vc, 1, none⟩ = some (.int .i64 (cx, cy).2) ∧ u.cell? ⟨vd, 0, none⟩ = some (.int .i64 (ax, ay).1) ∧ u.cell? ⟨vd, 1, none⟩ = some (.int .i64 (ax, ay).2)) (go_keep) (fail)
      go_wp2
      exact bodyPost_ret (v := .tuple #[pt ax ay, pt bx b_y, pt (cx, cy).1 (cx, cy).2, pt (ax, ay).1 (ax, ay).2]) (by simp [results, Try.results30, go_sem, e10, e11, e20, e21, e30, e31, e40, e41]) rfl
        ⟨(ax, ay), (bx, b_y), (cx, cy), (ax, ay), HSM.out, rfl, (below_set (below_set (below_set (below_set HB.out (Nat.le_refl _) _ _) (by omega) _ _) (by omega) _ _) (by omega) _ _).drew⟩
    · have g1 : (z == 1) = false := by simpa using hz1
      by_cases hz2 : z = 2
      · subst hz2
        obtain ⟨i1, i2⟩ := HQ.out.a.pc
        obtain ⟨i3, i4⟩ := HQ.out.b.pc
        obtain ⟨j1, j2⟩ := HQ.out.c.pc
        obtain ⟨j3, j4⟩ := HQ.out.c.pf
        replace HQ := Lib.hid (HQ.out.put (2 * bx - ax, 2 * b_y - ay))
        go_upto_region 13 with fail
        clear j1 j2 j3 j4 i1 i2 i3 i4
        generalize (w6.setCell ⟨vc, 0, none⟩ (.int .i64 (2 * bx - ax))).setCell ⟨vc, 1, none⟩ (.int .i64 (2 * b_y - ay)) = w8 at *
        obtain ⟨i1, i2⟩ := HQ.out.a.pc
        obtain ⟨i3, i4⟩ := HQ.out.b.pc
        obtain ⟨j1, j2⟩ := HQ.out.d.pc
        obtain ⟨j3, j4⟩ := HQ.out.d.pf
        replace HQ := Lib.hid (HQ.out.putD (3 * bx - 2 * ax, 3 * b_y - 2 * ay))
        go_upto_region 14 with fail
        clear j1 j2 j3 j4 i1 i2 i3 i4
        generalize (w8.setCell ⟨vd, 0, none⟩ (.int .i64 (3 * bx - 2 * ax))).setCell ⟨vd, 1, none⟩ (.int .i64 (3 * b_y - 2 * ay)) = w9 at *
        obtain ⟨o1, o2, o3, o4⟩ := HQ.out.o
        have e1 := HQ.out.n0.pc
        have e2 := HQ.out.n1.pc
        have e3 := HQ.out.n2.pc
        have e4 := HQ.out.n3.pc
        have HB := Lib.hid HQ.out.bel
        obtain ⟨i1, i2⟩ := HQ.out.a.pc
        obtain ⟨i3, i4⟩ := HQ.out.b.pc
        obtain ⟨i5, i6⟩ := HQ.out.c.pc
        obtain ⟨i7, i8⟩ := HQ.out.d.pc
        obtain ⟨f1, f2⟩ := HQ.out.n0.pf
        obtain ⟨f3, f4⟩ := HQ.out.n1.pf
        obtain ⟨f5, f6⟩ := HQ.out.n2.pf
        obtain ⟨f7, f8⟩ := HQ.out.n3.pf
        have l1 := HQ.out.a.lt
        have l2 := HQ.out.b.lt
        have l3 := HQ.out.c.lt
        have l4 := HQ.out.d.lt
        have m1 := HQ.out.n0.lt
        have m2 := HQ.out.n1.lt
        have m3 := HQ.out.n2.lt
        have m4 := HQ.out.n3.lt
        obtain ⟨e10, e11⟩ := e1
        obtain ⟨e20, e21⟩ := e2
        obtain ⟨e30, e31⟩ := e3
        obtain ⟨e40, e41⟩ := e4
        have d0a : w.heap.size ≠ va := by omega
        have d0b : w.heap.size ≠ vb := by omega
        have d0c : w.heap.size ≠ vc := by omega
        have d0d : w.heap.size ≠ vd := by omega
        have d1a : w.heap.size + 1 ≠ va := by omega
        have d1b : w.heap.size + 1 ≠ vb := by omega
        have d1c : w.heap.size + 1 ≠ vc := by omega
        have d1d : w.heap.size + 1 ≠ vd := by omega
        have d2a : w.heap.size + 1 + 1 ≠ va := by omega
        have d2b : w.heap.size + 1 + 1 ≠ vb := by omega
        have d2c : w.heap.size + 1 + 1 ≠ vc := by omega
        have d2d : w.heap.size + 1 + 1 ≠ vd := by omega
        have d3a : w.heap.size + 1 + 1 + 1 ≠ va := by omega
        have d3b : w.heap.size + 1 + 1 + 1 ≠ vb := by omega
        have d3c : w.heap.size + 1 + 1 + 1 ≠ vc := by omega
        have d3d : w.heap.size + 1 + 1 + 1 ≠ vd := by omega
        clear HQ
        go_upto_region 14 with fail
        go_region_held3 (fun u => u.cell? ⟨va, 0, none⟩ = some (.int .i64 ax) ∧ u.cell? ⟨va, 1, none⟩ = some (.int .i64 ay) ∧ u.cell? ⟨vb, 0, none⟩ = some (.int .i64 bx) ∧ u.cell? ⟨vb, 1, none⟩ = some (.int .i64 b_y) ∧ u.cell? ⟨vc, 0, none⟩ = some (.int .i64 (2 * bx - ax, 2 * b_y - ay).1) ∧ u.cell? ⟨vc, 1, none⟩ = some (.int .i64 (2 * bx - ax, 2 * b_y - ay).2) ∧ u.cell? ⟨vd, 0, none⟩ = some (.int .i64 (3 * bx - 2 * ax, 3 * b_y - 2 * ay).1) ∧ u.cell? ⟨vd, 1, none⟩ = some (.int .i64 (3 * bx - 2 * ax, 3 * b_y - 2 * ay).2)) (go_keep) (fail)
        go_wp2
        exact bodyPost_ret (v := .tuple #[pt ax ay, pt bx b_y, pt (2 * bx - ax, 2 * b_y - ay).1 (2 * bx - ax, 2 * b_y - ay).2, pt (3 * bx - 2 * ax, 3 * b_y - 2 * ay).1 (3 * bx - 2 * ax, 3 * b_y - 2 * ay).2]) (by simp [results, Try.results30, go_sem, e10, e11, e20, e21, e30, e31, e40, e41]) rfl
          ⟨(ax, ay), (bx, b_y), (2 * bx - ax, 2 * b_y - ay), (3 * bx - 2 * ax, 3 * b_y - 2 * ay), HSM.out, rfl, (below_set (below_set (below_set (below_set HB.out (Nat.le_refl _) _ _) (by omega) _ _) (by omega) _ _) (by omega) _ _).drew⟩
      · have g2 : (z == 2) = false := by simpa using hz2
        obtain ⟨o1, o2, o3, o4⟩ := HQ.out.o
        have e1 := HQ.out.n0.pc
        have e2 := HQ.out.n1.pc
        have e3 := HQ.out.n2.pc
        have e4 := HQ.out.n3.pc
        have HB := Lib.hid HQ.out.bel
        obtain ⟨i1, i2⟩ := HQ.out.a.pc
        obtain ⟨i3, i4⟩ := HQ.out.b.pc
        obtain ⟨i5, i6⟩ := HQ.out.c.pc
        obtain ⟨i7, i8⟩ := HQ.out.d.pc
        obtain ⟨f1, f2⟩ := HQ.out.n0.pf
        obtain ⟨f3, f4⟩ := HQ.out.n1.pf
        obtain ⟨f5, f6⟩ := HQ.out.n2.pf
        obtain ⟨f7, f8⟩ := HQ.out.n3.pf
        have l1 := HQ.out.a.lt
        have l2 := HQ.out.b.lt
        have l3 := HQ.out.c.lt
        have l4 := HQ.out.d.lt
        have m1 := HQ.out.n0.lt
        have m2 := HQ.out.n1.lt
        have m3 := HQ.out.n2.lt
        have m4 := HQ.out.n3.lt
        obtain ⟨e10, e11⟩ := e1
        obtain ⟨e20, e21⟩ := e2
        obtain ⟨e30, e31⟩ := e3
        obtain ⟨e40, e41⟩ := e4
        have d0a : w.heap.size ≠ va := by omega
        have d0b : w.heap.size ≠ vb := by omega
        have d0c : w.heap.size ≠ vc := by omega
        have d0d : w.heap.size ≠ vd := by omega
        have d1a : w.heap.size + 1 ≠ va := by omega
        have d1b : w.heap.size + 1 ≠ vb := by omega
        have d1c : w.heap.size + 1 ≠ vc := by omega
        have d1d : w.heap.size + 1 ≠ vd := by omega
        have d2a : w.heap.size + 1 + 1 ≠ va := by omega
        have d2b : w.heap.size + 1 + 1 ≠ vb := by omega
        have d2c : w.heap.size + 1 + 1 ≠ vc := by omega
        have d2d : w.heap.size + 1 + 1 ≠ vd := by omega
        have d3a : w.heap.size + 1 + 1 + 1 ≠ va := by omega
        have d3b : w.heap.size + 1 + 1 + 1 ≠ vb := by omega
        have d3c : w.heap.size + 1 + 1 + 1 ≠ vc := by omega
        have d3d : w.heap.size + 1 + 1 + 1 ≠ vd := by omega
        clear HQ
        go_upto_region 14 with fail
        go_region_held3 (fun u => u.cell? ⟨va, 0, none⟩ = some (.int .i64 ax) ∧ u.cell? ⟨va, 1, none⟩ = some (.int .i64 ay) ∧ u.cell? ⟨vb, 0, none⟩ = some (.int .i64 bx) ∧ u.cell? ⟨vb, 1, none⟩ = some (.int .i64 b_y) ∧ u.cell? ⟨vc, 0, none⟩ = some (.int .i64 (cx, cy).1) ∧ u.cell? ⟨vc, 1, none⟩ = some (.int .i64 (cx, cy).2) ∧ u.cell? ⟨vd, 0, none⟩ = some (.int .i64 (dx, dy).1) ∧ u.cell? ⟨vd, 1, none⟩ = some (.int .i64 (dx, dy).2)) (go_keep) (fail)
        go_wp2
        exact bodyPost_ret (v := .tuple #[pt ax ay, pt bx b_y, pt (cx, cy).1 (cx, cy).2, pt (dx, dy).1 (dx, dy).2]) (by simp [results, Try.results30, go_sem, e10, e11, e20, e21, e30, e31, e40, e41]) rfl
          ⟨(ax, ay), (bx, b_y), (cx, cy), (dx, dy), HSM.out, rfl, (below_set (below_set (below_set (below_set HB.out (Nat.le_refl _) _ _) (by omega) _ _) (by omega) _ _) (by omega) _ _).drew⟩
end Go.Proofs.Ytkmopgdnaohcdaa
