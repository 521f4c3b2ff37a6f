/- Drawing a point near a polygon from a code. -/
import Derived.Test.YtgpoknehbadddaaDp8
import Derived.Test.YtgpoknehbadddaaDs8
import Derived.Deep.RegionHeld3
namespace Go.Proofs.Ytgpoknehbadddaa
set_option maxRecDepth 100000
open Go.RowKit
attribute [local go_sem ↓] Go.wp_at_zero Go.wp_at_succ
theorem OwnPt.pick8 {u u' : World} {B r : Nat} {v : Value} {ps : List P2} (h : OwnPt u B v ps) (hg : u.grownBy u' (some r)) (hr : r < B) : OwnPt u' B v ps :=
  World.ownsRow.kept h hg (.inr (fun e => by have := (World.ownsRow.lt h r e).1; omega))
/-- While a point near a polygon is drawn: the reader, the result's box, the point's box. -/
structure Cl8 (w0 : World) (B M r vp : Nat) (p : P2) (u : World) : Prop where
  rd : Rd B M u r
  gr : w0.grownBy u (some r)
  n0 : Cells8 u w0.heap.size (ptQ (0, 0)) 24
  p : Cells8 u vp (ptQ p) 24
  o : w0.heap.size < vp
section
variable {w0 u u' : World} {B M M' r vp : Nat} {p : P2}
theorem Cl8.pick (h : Cl8 w0 B M r vp p u) (hr : Rd B M' u' r) (hg : u.grownBy u' (some r)) (hlt : r < w0.heap.size) : Cl8 w0 B M' r vp p u' :=
  ⟨hr, h.gr.trans hg, h.n0.pick hg (by omega), h.p.pick hg (by have := h.o; omega), h.o⟩
theorem Cl8.alloc (h : Cl8 w0 B M r vp p u) (o : Obj) : Cl8 w0 B M r vp p (u.alloc o) := ⟨h.rd.alloc o, only_alloc h.gr o, h.n0.alloc o, h.p.alloc o, h.o⟩
theorem Cl8.mono (h : Cl8 w0 B M r vp p u) (hM : M ≤ M') : Cl8 w0 B M' r vp p u := ⟨h.rd.mono hM, h.gr, h.n0, h.p, h.o⟩
theorem Cl8.drew (h : Cl8 w0 B M r vp p u) : Cl8 w0 B M r vp p u.drew :=
  ⟨h.rd.drew, h.gr.trans (by have hb := below_drew u; exact ⟨hb.os, hb.tape, hb.output, hb.size, fun k hk _ => hb.block k hk⟩), h.n0.next (below_drew u), h.p.next (below_drew u), h.o⟩
theorem Cl8.put (h : Cl8 w0 B M r vp p u) (hlt : r < w0.heap.size) (hB : B ≤ w0.heap.size) (q : P2) : Cl8 w0 B M r vp q ((u.setCell ⟨vp, 0, none⟩ (.int .i64 q.1)).setCell ⟨vp, 1, none⟩ (.int .i64 q.2)) := by
  have o := h.o
  exact ⟨(h.rd.set (by omega) (by omega) _).set (by omega) (by omega) _, only_set (only_set h.gr (by omega) _) (by omega) _, (h.n0.other (by omega) _).other (by omega) _, (h.p.set 0 _).set 1 _, o⟩
theorem Cl8.fin (h : Cl8 w0 B M r vp p u) (hlt : r < w0.heap.size) (hB : B ≤ w0.heap.size) (hM : M ≤ M') (a b : Value) :
    Rd B M' ((u.setCell ⟨w0.heap.size, 0, none⟩ a).setCell ⟨w0.heap.size, 1, none⟩ b) r ∧ w0.grownBy ((u.setCell ⟨w0.heap.size, 0, none⟩ a).setCell ⟨w0.heap.size, 1, none⟩ b) (some r) :=
  ⟨((h.rd.set (by omega) hB _).set (by omega) hB _).mono hM, only_set (only_set h.gr (Nat.le_refl _) _) (Nat.le_refl _) _⟩
end
/-- What the draw says. -/
def DrawnW (B M r : Nat) (w : World) (e : Ending) (w' : World) : Prop :=
  ∃ q : P2, (-30000 ≤ q.1 ∧ q.1 ≤ 30000 ∧ -30000 ≤ q.2 ∧ q.2 ≤ 30000) ∧ e = .returned (pt q.1 q.2) ∧ Rd B M w' r ∧ w.grownBy w' (some r)
/-- The point near a polygon, before it is handed back. -/
def Got8 (w0 : World) (B M r vp : Nat) (u : World) : Prop := ∃ q : P2, (-30000 ≤ q.1 ∧ q.1 ≤ 30000 ∧ -30000 ≤ q.2 ∧ q.2 ≤ 30000) ∧ Cl8 w0 B M r vp q u
theorem Got8.any {w0 : World} {B M r vp : Nat} {u : World} (h : Got8 w0 B M r vp u) : ∃ q : P2, (-30000 ≤ q.1 ∧ q.1 ≤ 30000 ∧ -30000 ≤ q.2 ∧ q.2 ≤ 30000) ∧ Cl8 w0 B M r vp q u := h
/-- .. with the two corners' boxes. -/
structure Cl2 (w0 : World) (B M r vp : Nat) (p : P2) (va vb : Nat) (a b : P2) (u : World) : Prop where
  c : Cl8 w0 B M r vp p u
  a : Cells8 u va (ptQ a) 24
  b : Cells8 u vb (ptQ b) 24
  o : vp < va ∧ va < vb
section
variable {w0 u u' : World} {B M M' r vp va vb : Nat} {p a b : P2}
theorem Cl2.k (h : Cl2 w0 B M r vp p va vb a b u) : u.cell? ⟨va, 0, none⟩ = some (.int .i64 a.1) ∧ u.cell? ⟨va, 1, none⟩ = some (.int .i64 a.2) ∧ u.cell? ⟨vb, 0, none⟩ = some (.int .i64 b.1) ∧ u.cell? ⟨vb, 1, none⟩ = some (.int .i64 b.2) :=
  ⟨h.a.pc.1, h.a.pc.2, h.b.pc.1, h.b.pc.2⟩
theorem Cl2.pick (h : Cl2 w0 B M r vp p va vb a b u) (hr : Rd B M' u' r) (hg : u.grownBy u' (some r)) (hlt : r < w0.heap.size) : Cl2 w0 B M' r vp p va vb a b u' :=
  ⟨h.c.pick hr hg hlt, h.a.pick hg (by have := h.c.o; have := h.o; omega), h.b.pick hg (by have := h.c.o; have := h.o; omega), h.o⟩
theorem Cl2.drew (h : Cl2 w0 B M r vp p va vb a b u) : Cl2 w0 B M r vp p va vb a b u.drew := ⟨h.c.drew, h.a.next (below_drew u), h.b.next (below_drew u), h.o⟩
theorem Cl2.put (h : Cl2 w0 B M r vp p va vb a b u) (hlt : r < w0.heap.size) (hB : B ≤ w0.heap.size) (q : P2) : Cl2 w0 B M r vp q va vb a b ((u.setCell ⟨vp, 0, none⟩ (.int .i64 q.1)).setCell ⟨vp, 1, none⟩ (.int .i64 q.2)) := by
  have o := h.o
  exact ⟨h.c.put hlt hB q, (h.a.other (by omega) _).other (by omega) _, (h.b.other (by omega) _).other (by omega) _, o⟩
end
theorem Cl2.pick5 {w0 u : World} {B M r vp va vb : Nat} {p a b : P2} (h : Cl2 w0 B M r vp p va vb a b u) (hM : M ≤ 1000000) (hlt : r < w0.heap.size) :
    Calls Try.prog 49 #[.pointer (some ⟨r, 0, none⟩), .int .i64 5] u fun e u' => ∃ x : Int, 0 ≤ x ∧ x < 5 ∧ e = .returned (.int .i64 x) ∧ Cl2 w0 B (M + 1) r vp p va vb a b u' :=
  (Go.Proofs.Ytgpoknehbadddaa.pick B M r 5 u h.c.rd hM).mono fun _ _ ⟨x, p0, p1, he, hr, hg, _⟩ => ⟨x, p0, p1 (by omega), he, h.pick hr hg hlt⟩
theorem flo2_bd {n : Int} (h1 : -40000 ≤ n) (h2 : n ≤ 40000) : -20000 ≤ flo n 2 ∧ flo n 2 ≤ 20000 := by unfold flo; omega
set_option maxHeartbeats 8000000 in
theorem l20Close (B M r Bl : Nat) (n : Int) (s : Sl) (ps : List P2) (w : World) (hr : Rd B M w r) (hM : M ≤ 600000) (hn : n = 0 ∨ (0 < n ∧ n ≤ 1000000))
    (hl : OwnPt w Bl (.slice s.a s.len s.cap) ps) (hb : r < Bl) (hps : ps.length ≤ 16) (hs : SmQ ps) :
    Calls Try.prog 61 #[.pointer (some ⟨r, 0, none⟩), .slice s.a s.len s.cap, .int .i64 n] w (DrawnW B (M + 20) r w) := by
  have hrlt := hr.lt
  have hrge := hr.ge
  have HBw := Lib.hid (show B ≤ w.heap.size by omega)
  have R0 := Lib.hid (hr.alloc (.cells #[.int .i64 0, .int .i64 0] 24))
  have G0 := Lib.hid (only_alloc (World.grownBy.refl w (some r)) (.cells #[.int .i64 0, .int .i64 0] 24))
  have N0 := Lib.hid (Cells8.new w (ptQ (0, 0)) 24)
  have HNN := Lib.hid hn
  have HL := Lib.hid (hl.next (below_box w (.cells #[.int .i64 0, .int .i64 0] 24)))
  have HS := Lib.hid hs
  have HPL := Lib.hid hl.ints.1
  clear hn hl hs hr
  go_enter Try.func61, Try.ntmps61
  go_wp2_with fail
  refine (l20PointN B M r n _ R0.out (by omega) HNN.out).mono ?_
  rintro e w1 ⟨x, y, p1, p2, p3, p4, rfl, hr1, hg1⟩
  have S1 := Lib.hid (show Cl8 w B (M + 7) r w1.heap.size (x, y) (w1.alloc (.cells #[.int .i64 x, .int .i64 y] 24)) from
    ⟨hr1.alloc _, only_alloc (G0.out.trans hg1) _, (N0.out.pick hg1 (by omega)).alloc _, Cells8.new w1 (ptQ (x, y)) 24, by have := hg1.size; simp at this; omega⟩)
  replace HL := Lib.hid ((HL.out.pick8 hg1 hb).next (below_box w1 (.cells #[.int .i64 x, .int .i64 y] 24)))
  clear hr1 hg1 R0 G0 N0
  go_upto_region 2 with fail
  generalize w1.alloc (.cells #[.int .i64 x, .int .i64 y] 24) = w2 at *
  generalize w1.heap.size = vp at *
  have HX := Lib.hid (show -30000 ≤ (x, y).1 ∧ (x, y).1 ≤ 30000 ∧ -30000 ≤ (x, y).2 ∧ (x, y).2 ≤ 30000 from ⟨by simp; omega, by simp; omega, by simp; omega, by simp; omega⟩)
  clear p1 p2 p3 p4
  by_cases hlen : 1 ≤ s.len
  · have b1 : ¬ ((s.len : Int) ≤ 0) := by omega
    have b1' : decide ((s.len : Int) > 0) = true := decide_eq_true (by omega)
    go_wp2_with fail
    refine (pick B _ r 3 _ S1.out.rd (by omega)).mono ?_
    rintro e w3 ⟨z, z0, z1, rfl, hr3, hg3, hs3⟩
    have S3 := Lib.hid (S1.out.pick hr3 hg3 hrlt)
    replace HL := Lib.hid (HL.out.pick8 hg3 hb)
    clear hr3 hg3 hs3 S1 z1
    go_upto_if 20 with fail
    go_cut [] (fun wx => Got8 w B (M + 20) r vp wx)
    case first =>
      by_cases hz : 0 < z
      · obtain ⟨sa, sl, sc⟩ := s
        obtain ⟨g, cap, hv, hg1, hg2⟩ := HL.out.at7 (by have := HPL.out; omega)
        simp only [Value.slice.injEq] at hv
        obtain ⟨rfl, rfl, rfl⟩ := hv
        have b2 : ¬ z ≤ 0 := by omega
        have b2' : decide (z > 0) = true := decide_eq_true (by omega)
        clear HPL
        simp only at hlen b1 b1'
        go_wp2_with fail
        refine (pick B _ r (ps.length : Int) _ S3.out.rd (by omega)).mono ?_
        rintro e w4 ⟨x4, a4, b4, rfl, hr4, hg4, hs4⟩
        have c4 := b4 (by omega)
        have S4 := Lib.hid (S3.out.pick hr4 hg4 hrlt)
        replace HL := Lib.hid (HL.out.pick8 hg4 hb)
        clear hr4 hg4 hs4 S3 b4
        obtain ⟨j, rfl⟩ : ∃ j : Nat, x4 = (j : Int) := ⟨x4.toNat, by omega⟩
        have hj : j < ps.length := by omega
        have d0 : w4.cell? ⟨g, j * 2, none⟩ = some (.int .i64 (cor ps j).1) := by
          have k := World.ownsRow.cellAt HL.out (j * 2) (by omega); rw [pvals_at ps _ (by omega), cz0] at k; exact k
        have d1 : w4.cell? ⟨g, j * 2 + 1, none⟩ = some (.int .i64 (cor ps j).2) := by
          have k := World.ownsRow.cellAt HL.out (j * 2 + 1) (by omega); rw [pvals_at ps _ (by omega), cz1] at k; exact k
        have HCA := Lib.hid (HS.out.cor j)
        generalize cor ps j = a at *
        obtain ⟨ax, ay⟩ := a
        simp only at d0 d1
        have HVA := Lib.hid (Cells8.new w4 (ptQ (ax, ay)) 24)
        have S5 := Lib.hid (S4.out.alloc (.cells #[.int .i64 ax, .int .i64 ay] 24))
        replace HL := Lib.hid (HL.out.next (below_box w4 (.cells #[.int .i64 ax, .int .i64 ay] 24)))
        have hva := Lib.hid S4.out.p.lt
        clear S4
        go_upto_region 4 with fail
        clear d0 d1
        generalize w4.alloc (.cells #[.int .i64 ax, .int .i64 ay] 24) = w5 at *
        generalize w4.heap.size = va at *
        go_wp2_with fail
        refine (pick B _ r (ps.length : Int) _ S5.out.rd (by omega)).mono ?_
        rintro e w6 ⟨x6, a6, b6, rfl, hr6, hg6, hs6⟩
        have c6 := b6 (by omega)
        have S6 := Lib.hid (S5.out.pick hr6 hg6 hrlt)
        replace HL := Lib.hid (HL.out.pick8 hg6 hb)
        replace HVA := Lib.hid (HVA.out.pick hg6 (by have := S5.out.o; have := hva.out; omega))
        clear hr6 hg6 hs6 S5 b6
        obtain ⟨i, rfl⟩ : ∃ i : Nat, x6 = (i : Int) := ⟨x6.toNat, by omega⟩
        have hi : i < ps.length := by omega
        have d0 : w6.cell? ⟨g, i * 2, none⟩ = some (.int .i64 (cor ps i).1) := by
          have k := World.ownsRow.cellAt HL.out (i * 2) (by omega); rw [pvals_at ps _ (by omega), cz0] at k; exact k
        have d1 : w6.cell? ⟨g, i * 2 + 1, none⟩ = some (.int .i64 (cor ps i).2) := by
          have k := World.ownsRow.cellAt HL.out (i * 2 + 1) (by omega); rw [pvals_at ps _ (by omega), cz1] at k; exact k
        have HCB := Lib.hid (HS.out.cor i)
        generalize cor ps i = b at *
        obtain ⟨bx, b_y⟩ := b
        simp only at d0 d1
        have hvb := Lib.hid HVA.out.lt
        have S7 := Lib.hid (show Cl2 w B _ r vp (x, y) va w6.heap.size (ax, ay) (bx, b_y) (w6.alloc (.cells #[.int .i64 bx, .int .i64 b_y] 24)) from
          ⟨S6.out.alloc _, HVA.out.alloc _, Cells8.new w6 (ptQ (bx, b_y)) 24, hva.out, hvb.out⟩)
        clear S6 HVA hva hvb HL HX
        go_upto_region 5 with fail
        clear d0 d1
        generalize w6.alloc (.cells #[.int .i64 bx, .int .i64 b_y] 24) = w7 at *
        generalize w6.heap.size = vb at *
        have ca : (-20000 ≤ ax ∧ ax ≤ 20000) ∧ -20000 ≤ ay ∧ ay ≤ 20000 := HCA.out
        have cb : (-20000 ≤ bx ∧ bx ≤ 20000) ∧ -20000 ≤ b_y ∧ b_y ≤ 20000 := HCB.out
        obtain ⟨f1, f2⟩ := flo2_bd (n := ax + bx) (by omega) (by omega)
        obtain ⟨f3, f4⟩ := flo2_bd (n := ay + b_y) (by omega) (by omega)
        have HF1 := Lib.hid (fun (u : World) => l1Floor (ax + bx) 2 u (by omega) (by omega) (by omega) (by omega))
        have HF2 := Lib.hid (fun (u : World) => l1Floor (ay + b_y) 2 u (by omega) (by omega) (by omega) (by omega))
        have o1 : IntKind.i64.wrap (ax + bx) = ax + bx := wrap_in (by omega) (by omega)
        have o2 : IntKind.i64.wrap (ay + b_y) = ay + b_y := wrap_in (by omega) (by omega)
        generalize flo (ax + bx) 2 = q1 at *
        generalize flo (ay + b_y) 2 = q2 at *
        have T0 := S7.out.drew
        have k0 := T0.k
        try simp only at k0
        have HBW := HBw.out
        clear HCA HCB S7 ca cb
        go_region_held3 (fun u => u.cell? ⟨va, 0, none⟩ = some (.int .i64 ax) ∧ u.cell? ⟨va, 1, none⟩ = some (.int .i64 ay) ∧ u.cell? ⟨vb, 0, none⟩ = some (.int .i64 bx) ∧ u.cell? ⟨vb, 1, none⟩ = some (.int .i64 b_y)) (first | exact k0 | exact k1 | exact k2 | exact k3) (first
          | (go_at_call 69
             (first | (with_reducible refine (HF1.out _).mono ?_) | (with_reducible refine (HF2.out _).mono ?_))
             rintro e k ⟨rfl, rfl⟩)
          | (go_at_call 49
             (with_reducible refine (T0.pick5 (by omega) hrlt).mono ?_)
             rintro e w8 ⟨x8, a8, b8, rfl, T1⟩
             have o3 : IntKind.i64.wrap (q1 + x8) = q1 + x8 := wrap_in (by omega) (by omega)
             have o4 : IntKind.i64.wrap (q1 + x8 - 2) = q1 + x8 - 2 := wrap_in (by omega) (by omega)
             have k1 := T1.k)
          | (go_at_call 49
             (with_reducible refine (T1.pick5 (by omega) hrlt).mono ?_)
             rintro e w9 ⟨x9, a9, b9, rfl, T2⟩
             have o5 : IntKind.i64.wrap (q2 + x9) = q2 + x9 := wrap_in (by omega) (by omega)
             have o6 : IntKind.i64.wrap (q2 + x9 - 2) = q2 + x9 - 2 := wrap_in (by omega) (by omega)
             have k2 := T2.k
             obtain ⟨g1, g2⟩ := T2.c.p.pc
             obtain ⟨g3, g4⟩ := T2.c.p.pf
             have T3 := T2.put hrlt HBW (q1 + x8 - 2, q2 + x9 - 2)
             have k3 := T3.k)
          | fail)
        have HF := Lib.hid (show Got8 w B (M + 20) r vp _ from ⟨(q1 + x8 - 2, q2 + x9 - 2), ⟨by simp; omega, by simp; omega, by simp; omega, by simp; omega⟩, T3.c.mono (by omega)⟩)
        go_wp2
        go_meet
        exact HF.out
      · have b2 : z ≤ 0 := by omega
        have b2' : decide (z > 0) = false := decide_eq_false (by omega)
        have HF := Lib.hid (show Got8 w B (M + 20) r vp w3 from ⟨(x, y), HX.out, S3.out.mono (by omega)⟩)
        clear S3 HX HL HS
        go_wp2
        go_meet
        exact HF.out
    case rest =>
      clear S3 HX HL HS HPL
      obtain ⟨q, HQB, S⟩ := hcut.any
      clear hcut
      replace HQB := Lib.hid HQB
      obtain ⟨c0, c1⟩ := S.p.pc
      obtain ⟨c2, c3⟩ := S.n0.pc
      obtain ⟨c4, c5⟩ := S.n0.pf
      have hvp := S.o
      have HFN := Lib.hid (S.fin hrlt HBw.out (Nat.le_refl _) (.int .i64 q.1) (.int .i64 q.2))
      clear S
      go_wp2
      exact bodyPost_ret (v := pt q.1 q.2) (by simp [results, Try.results61, go_sem, c2, c3]) rfl ⟨q, HQB.out, rfl, HFN.out.1, HFN.out.2⟩
  · have b1 : (s.len : Int) ≤ 0 := by omega
    have b1' : decide ((s.len : Int) > 0) = false := decide_eq_false (by omega)
    have S := S1.out
    obtain ⟨c0, c1⟩ := S.p.pc
    obtain ⟨c2, c3⟩ := S.n0.pc
    obtain ⟨c4, c5⟩ := S.n0.pf
    have hvp := S.o
    have HFN := Lib.hid (S.fin hrlt HBw.out (show M + 7 ≤ M + 20 by omega) (.int .i64 (x, y).1) (.int .i64 (x, y).2))
    clear S S1 HL HPL HS
    simp only at c0 c1
    go_wp2
    exact bodyPost_ret (v := pt x y) (by simp [results, Try.results61, go_sem, c2, c3]) rfl ⟨(x, y), HX.out, rfl, HFN.out.1, HFN.out.2⟩
end Go.Proofs.Ytgpoknehbadddaa
