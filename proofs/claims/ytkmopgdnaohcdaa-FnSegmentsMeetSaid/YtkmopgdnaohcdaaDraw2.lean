/- What the laws of the chapter on points draw from a code: points whose coordinates are small, with nothing changed that was there. -/
import Derived.Test.YtkmopgdnaohcdaaOp
import Derived.Test.YtkmopgdnaohcdaaPts3
import Derived.Deep.RegionWith
import Derived.Deep.DrawnRows
namespace Go.Proofs.Ytkmopgdnaohcdaa
set_option maxRecDepth 100000
open Go.RowKit
attribute [local go_sem ↓] Go.wp_at_zero Go.wp_at_succ

/-- What 'odd' says. -/
def Odd (B M r : Nat) (w : World) (e : Ending) (w' : World) : Prop :=
  ∃ b : Bool, e = .returned (.bool b) ∧ Rd B (M + 1) w' r ∧ w.grownBy w' (some r) ∧ w'.heap.size = w.heap.size
theorem odd (B M r : Nat) (n : Int) (w : World) (hr : Rd B M w r) (hM : M ≤ 1000000) (h0 : 0 < n) (h1 : n ≤ 1000000) :
    Calls Try.prog 85 #[.pointer (some ⟨r, 0, none⟩), .int .i64 n] w (Odd B M r w) := by
  go_enter Try.func85, Try.ntmps85
  go_wp2_with fail
  refine (pick B M r n _ hr hM).mono ?_
  rintro e w1 ⟨x, a1, b1, rfl, hr1, hg1, hs1⟩
  have HS := Lib.hid (And.intro hr1 (And.intro hg1 hs1))
  clear hr1 hg1 hs1 hr b1
  go_wp2
  go_ret
  exact ⟨_, rfl, HS.out⟩
/-- What a draw of a point says: its coordinates are small. -/
def DrawnP (B M r : Nat) (w : World) (e : Ending) (w' : World) : Prop :=
  ∃ x y : Int, -10001 ≤ x ∧ x ≤ 10001 ∧ -10001 ≤ y ∧ y ≤ 10001 ∧ e = .returned (pt x y) ∧ Rd B M w' r ∧ w.grownBy w' (some r)
theorem Rd.set {B M : Nat} {w : World} {r : Nat} (h : Rd B M w r) {b o : Nat} (hb : b ≠ r) (hB : B ≤ b) (v : Value) : Rd B M (w.setCell ⟨b, o, none⟩ v) r := by
  obtain ⟨a, len, cap, p, hlen, hp, h0, h1, hf, hc⟩ := h.ex
  refine ⟨h.ge, by simpa [World.setCell] using h.lt, a, len, cap, p, hlen, hp, ?_, ?_, ?_, ?_⟩
  · rw [World.cell?_setCell_far _ _ _ _ hb]; exact h0
  · rw [World.cell?_setCell_far _ _ _ _ hb]; exact h1
  · exact (World.frozen?_setCell _ _ _ _).trans hf
  · exact hc.below fun x hx => World.cell?_setCell_far _ _ _ _ (by simp; omega)
theorem only_set {a w : World} {row : Option Nat} (h : a.grownBy w row) {b o : Nat} (hb : a.heap.size ≤ b) (v : Value) : a.grownBy (w.setCell ⟨b, o, none⟩ v) row :=
  ⟨h.os, h.tape, h.output, by simpa [World.setCell] using h.size, fun i hi hne => (Below.heap_setCell w _ _ i (by simp; omega)).trans (h.block i hi hne)⟩
theorem OwnP.grown {w w' : World} {b r : Nat} {x y : Int} (h : OwnP w b x y) (hg : w.grownBy w' (some r)) (hb : b ≠ r) : OwnP w' b x y :=
  ⟨⟨Nat.lt_of_lt_of_le h.lt hg.size, (hg.cell_far ⟨b, 0, none⟩ h.lt (by simpa using hb)).trans h.c0, (hg.cell_far ⟨b, 1, none⟩ h.lt (by simpa using hb)).trans h.c1⟩,
    (World.frozen?_of_block (w := w) (a := ⟨b, 0, none⟩) (hg.block b h.lt (by simpa using hb))).trans h.z0,
    (World.frozen?_of_block (w := w) (a := ⟨b, 1, none⟩) (hg.block b h.lt (by simpa using hb))).trans h.z1⟩
theorem OwnP.far {w : World} {b c o : Nat} {x y : Int} (h : OwnP w b x y) (hc : c ≠ b) (v : Value) : OwnP (w.setCell ⟨c, o, none⟩ v) b x y :=
  ⟨⟨by simpa [World.setCell] using h.lt, (World.cell?_setCell_far _ _ _ _ hc).trans h.c0, (World.cell?_setCell_far _ _ _ _ hc).trans h.c1⟩, (World.frozen?_setCell _ _ _ _).trans h.z0, (World.frozen?_setCell _ _ _ _).trans h.z1⟩
theorem OwnP.put0 {w : World} {b : Nat} {x y : Int} (h : OwnP w b x y) (u : Int) : OwnP (w.setCell ⟨b, 0, none⟩ (.int .i64 u)) b u y :=
  ⟨⟨by simpa [World.setCell] using h.lt, World.cell?_setCell_same _ _ _ h.c0, (World.cell?_setCell_other _ _ _ _ (by simp)).trans h.c1⟩, (World.frozen?_setCell _ _ _ _).trans h.z0, (World.frozen?_setCell _ _ _ _).trans h.z1⟩
theorem OwnP.put1 {w : World} {b : Nat} {x y : Int} (h : OwnP w b x y) (u : Int) : OwnP (w.setCell ⟨b, 1, none⟩ (.int .i64 u)) b x u :=
  ⟨⟨by simpa [World.setCell] using h.lt, (World.cell?_setCell_other _ _ _ _ (by simp)).trans h.c0, World.cell?_setCell_same _ _ _ h.c1⟩, (World.frozen?_setCell _ _ _ _).trans h.z0, (World.frozen?_setCell _ _ _ _).trans h.z1⟩
theorem OwnP.alloc {w : World} {b : Nat} {x y : Int} (h : OwnP w b x y) (o : Obj) : OwnP (w.alloc o) b x y := h.next (below_box w o)
/-- What the walk of l20Point holds between its picks. -/
structure PtSt (B M r : Nat) (w0 : World) (b : Nat) (w : World) (x y : Int) : Prop where
  rd : Rd B M w r
  gr : w0.grownBy w (some r)
  res : OwnP w w0.heap.size 0 0
  var : OwnP w b x y
theorem PtSt.pick {B M r b : Nat} {w0 w w' : World} {x y : Int} (h : PtSt B M r w0 b w x y) (hr : Rd B (M + 1) w' r) (hg : w.grownBy w' (some r)) (h1 : w0.heap.size ≠ r) (h2 : b ≠ r) : PtSt B (M + 1) r w0 b w' x y :=
  ⟨hr, h.gr.trans hg, h.res.grown hg h1, h.var.grown hg h2⟩
theorem PtSt.put {B M r b : Nat} {w0 w : World} {x y : Int} (h : PtSt B M r w0 b w x y) (h1 : b ≠ r) (h2 : b ≠ w0.heap.size) (h3 : B ≤ b) (h4 : w0.heap.size ≤ b) (u v : Int) :
    PtSt B M r w0 b ((w.setCell ⟨b, 0, none⟩ (.int .i64 u)).setCell ⟨b, 1, none⟩ (.int .i64 v)) u v :=
  ⟨(h.rd.set h1 h3 _).set h1 h3 _, only_set (only_set h.gr h4 _) h4 _, (h.res.far h2 _).far h2 _, (h.var.put0 u).put1 v⟩
theorem PtSt.put0 {B M r b : Nat} {w0 w : World} {x y : Int} (h : PtSt B M r w0 b w x y) (h1 : b ≠ r) (h2 : b ≠ w0.heap.size) (h3 : B ≤ b) (h4 : w0.heap.size ≤ b) (u : Int) :
    PtSt B M r w0 b (w.setCell ⟨b, 0, none⟩ (.int .i64 u)) u y :=
  ⟨h.rd.set h1 h3 _, only_set h.gr h4 _, h.res.far h2 _, h.var.put0 u⟩
theorem PtSt.alloc {B M r b : Nat} {w0 w : World} {x y : Int} (h : PtSt B M r w0 b w x y) (o : Obj) : PtSt B M r w0 b (w.alloc o) x y :=
  ⟨h.rd.alloc o, only_alloc h.gr o, h.res.alloc o, h.var.alloc o⟩
theorem PtSt.done {B M M' r b : Nat} {w0 w : World} {x y : Int} (h : PtSt B M r w0 b w x y) (hr : r < w0.heap.size) (hB : B ≤ w0.heap.size) (hM : M ≤ M') (u v : Value) :
    Rd B M' ((w.setCell ⟨w0.heap.size, 0, none⟩ u).setCell ⟨w0.heap.size, 1, none⟩ v) r ∧ w0.grownBy ((w.setCell ⟨w0.heap.size, 0, none⟩ u).setCell ⟨w0.heap.size, 1, none⟩ v) (some r) :=
  ⟨((h.rd.set (by omega) hB _).set (by omega) hB _).mono hM, only_set (only_set h.gr (Nat.le_refl _) _) (Nat.le_refl _) _⟩
set_option maxHeartbeats 1000000 in
theorem l20Point (B M r : Nat) (n : Int) (w : World) (hr : Rd B M w r) (hM : M ≤ 900000) (hn0 : 0 < n) (hn1 : n ≤ 1000000) :
    Calls Try.prog 65 #[.pointer (some ⟨r, 0, none⟩), .int .i64 n] w (DrawnP B (M + 7) r w) := by
  have hr0 := hr.alloc (.cells #[.int .i64 0, .int .i64 0] 28)
  have hg0 := only_alloc (World.grownBy.refl w (some r)) (.cells #[.int .i64 0, .int .i64 0] 28)
  have ho0 := OwnP.box w 0 0 28
  have hrlt := hr.lt
  have hrge := hr.ge
  go_enter Try.func65, Try.ntmps65
  go_wp2_with fail
  refine (pick B M r _ _ hr0 (by omega)).mono ?_
  rintro e w1 ⟨x1, a1, b1, rfl, hr1, hg1, hs1⟩
  have c1 := b1 (by omega)
  clear b1
  go_wp2_with fail
  refine (pick B (M + 1) r _ _ hr1 (by omega)).mono ?_
  rintro e w2 ⟨x2, a2, b2, rfl, hr2, hg2, hs2⟩
  have c2 := b2 (by omega)
  have hlt2 : w.heap.size < w2.heap.size := by rw [hs2, hs1]; simp
  have hRr : w.heap.size ≠ r := by omega
  have hPr : w2.heap.size ≠ r := by omega
  have hPR : w2.heap.size ≠ w.heap.size := by omega
  have hRP : w.heap.size ≠ w2.heap.size := by omega
  have hBP : B ≤ w2.heap.size := by omega
  have hRP' : w.heap.size ≤ w2.heap.size := by omega
  have HRR := Lib.hid (show B ≤ w.heap.size by omega)
  have S2 : PtSt B (M + 1 + 1) r w w2.heap.size (w2.alloc (.cells #[.int .i64 (x1 - 20), .int .i64 (x2 - 20)] 28)) (x1 - 20) (x2 - 20) :=
    ⟨hr2.alloc _, only_alloc ((hg0.trans hg1).trans hg2) _, (((ho0.grown hg1 hRr).grown hg2 hRr)).alloc _, OwnP.box w2 _ _ _⟩
  clear b2 hs1 hs2 hr0 hr1 hr2 hg0 hg1 hg2 ho0 hr
  go_wp2_with fail
  refine (pick B (M + 1 + 1) r _ _ S2.rd (by omega)).mono ?_
  rintro e w3 ⟨x3, a3, b3, rfl, hr3, hg3, hs3⟩
  have S3 := S2.pick hr3 hg3 hRr hPr
  clear b3 hs3 hr3 hg3 S2
  by_cases hx : x3 = 0
  · subst hx
    obtain ⟨⟨p1, p2, p3⟩, p4, p5⟩ := id S3.var
    go_wp2_with fail
    refine (pick B (M + 1 + 1 + 1) r _ _ S3.rd (by omega)).mono ?_
    rintro e w4 ⟨x4, a4, b4, rfl, hr4, hg4, hs4⟩
    have c4 := b4 (by omega)
    have S4 := S3.pick hr4 hg4 hRr hPr
    clear b4 hr4 hg4 hs4 p1 p2 p3 p4 p5 S3
    go_wp2_with fail
    refine (pick B (M + 1 + 1 + 1 + 1) r _ _ S4.rd (by omega)).mono ?_
    rintro e w5 ⟨x5, a5, b5, rfl, hr5, hg5, hs5⟩
    have c5 := b5 (by omega)
    have S5 := S4.pick hr5 hg5 hRr hPr
    have S6 := S5.put hPr hPR hBP hRP' (x4 * 4 - 500) (x5 * 4 - 500)
    obtain ⟨⟨i1, i2, i3⟩, i4, i5⟩ := id S5.var
    clear b5 hr5 hg5 hs5 S4 S5
    obtain ⟨⟨p1, p2, p3⟩, p4, p5⟩ := id S6.var
    obtain ⟨⟨q1, q2, q3⟩, q4, q5⟩ := id S6.res
    go_wp2_with fail
    refine (odd B (M + 1 + 1 + 1 + 1 + 1) r n _ S6.rd (by omega) hn0 hn1).mono ?_
    rintro e w7 ⟨b, rfl, hr7, hg7, hs7⟩
    have S7 := S6.pick hr7 hg7 hRr hPr
    clear hr7 hg7 hs7 p1 p2 p3 p4 p5 q1 q2 q3 q4 q5 S6
    cases b
    · obtain ⟨⟨p1, p2, p3⟩, p4, p5⟩ := id S7.var
      obtain ⟨⟨q1, q2, q3⟩, q4, q5⟩ := id S7.res
      have HD := fun u v => Lib.hid (S7.done (M' := M + 7) hrlt HRR.out (by omega) u v)
      go_wp2
      exact bodyPost_ret (v := pt (x4 * 4 - 500) (x5 * 4 - 500)) (by simp [results, Try.results65, go_sem, q2, q3]) rfl ⟨_, _, by omega, by omega, by omega, by omega, rfl, (HD _ _).out⟩
    · go_wp2_with fail
      refine (pick B (M + 1 + 1 + 1 + 1 + 1 + 1) r _ _ (by exact S7.rd.alloc _) (by omega)).mono ?_
      rintro e w8 ⟨x8, a8, b8, rfl, hr8, hg8, hs8⟩
      have c8 := b8 (by omega)
      have S8 := (S7.alloc _).pick hr8 hg8 hRr hPr
      have f8 := fun o => hg8.cell_far ⟨w7.heap.size, o, none⟩ (by simp) (by simp; have := S7.rd.lt; omega)
      obtain ⟨⟨p1, p2, p3⟩, p4, p5⟩ := id S8.var
      obtain ⟨⟨q1, q2, q3⟩, q4, q5⟩ := id S8.res
      clear b8 hr8 hg8 hs8 S7
      have hx8 : x8 = 0 ∨ x8 = 1 ∨ x8 = 2 := by omega
      clear a8 c8
      rcases hx8 with rfl | rfl | rfl
      · have HD := fun u v => Lib.hid ((S8.put0 hPr hPR hBP hRP' 10001).done (M' := M + 7) hrlt HRR.out (by omega) u v)
        go_wp2
        exact bodyPost_ret (v := pt 10001 (x5 * 4 - 500)) (by simp [results, Try.results65, go_sem, q2, q3]) rfl ⟨_, _, by omega, by omega, by omega, by omega, rfl, (HD _ _).out⟩
      · have HD := fun u v => Lib.hid ((S8.put0 hPr hPR hBP hRP' (-10001)).done (M' := M + 7) hrlt HRR.out (by omega) u v)
        go_wp2
        exact bodyPost_ret (v := pt (-10001) (x5 * 4 - 500)) (by simp [results, Try.results65, go_sem, q2, q3]) rfl ⟨_, _, by omega, by omega, by omega, by omega, rfl, (HD _ _).out⟩
      · have HD := fun u v => Lib.hid ((S8.put0 hPr hPR hBP hRP' 10000).done (M' := M + 7) hrlt HRR.out (by omega) u v)
        go_wp2
        exact bodyPost_ret (v := pt 10000 (x5 * 4 - 500)) (by simp [results, Try.results65, go_sem, q2, q3]) rfl ⟨_, _, by omega, by omega, by omega, by omega, rfl, (HD _ _).out⟩
  · have hne : (x3 == 0) = false := by simpa using hx
    obtain ⟨⟨p1, p2, p3⟩, p4, p5⟩ := id S3.var
    obtain ⟨⟨q1, q2, q3⟩, q4, q5⟩ := id S3.res
    go_wp2_with fail
    refine (odd B (M + 1 + 1 + 1) r n _ S3.rd (by omega) hn0 hn1).mono ?_
    rintro e w7 ⟨b, rfl, hr7, hg7, hs7⟩
    have S7 := S3.pick hr7 hg7 hRr hPr
    clear hr7 hg7 hs7 p1 p2 p3 p4 p5 q1 q2 q3 q4 q5 S3
    cases b
    · obtain ⟨⟨p1, p2, p3⟩, p4, p5⟩ := id S7.var
      obtain ⟨⟨q1, q2, q3⟩, q4, q5⟩ := id S7.res
      have HD := fun u v => Lib.hid (S7.done (M' := M + 7) hrlt HRR.out (by omega) u v)
      go_wp2
      exact bodyPost_ret (v := pt (x1 - 20) (x2 - 20)) (by simp [results, Try.results65, go_sem, q2, q3]) rfl ⟨_, _, by omega, by omega, by omega, by omega, rfl, (HD _ _).out⟩
    · go_wp2_with fail
      refine (pick B (M + 1 + 1 + 1 + 1) r _ _ (by exact S7.rd.alloc _) (by omega)).mono ?_
      rintro e w8 ⟨x8, a8, b8, rfl, hr8, hg8, hs8⟩
      have c8 := b8 (by omega)
      have S8 := (S7.alloc _).pick hr8 hg8 hRr hPr
      have f8 := fun o => hg8.cell_far ⟨w7.heap.size, o, none⟩ (by simp) (by simp; have := S7.rd.lt; omega)
      obtain ⟨⟨p1, p2, p3⟩, p4, p5⟩ := id S8.var
      obtain ⟨⟨q1, q2, q3⟩, q4, q5⟩ := id S8.res
      clear b8 hr8 hg8 hs8 S7
      have hx8 : x8 = 0 ∨ x8 = 1 ∨ x8 = 2 := by omega
      clear a8 c8
      rcases hx8 with rfl | rfl | rfl
      · have HD := fun u v => Lib.hid ((S8.put0 hPr hPR hBP hRP' 10001).done (M' := M + 7) hrlt HRR.out (by omega) u v)
        go_wp2
        exact bodyPost_ret (v := pt 10001 (x2 - 20)) (by simp [results, Try.results65, go_sem, q2, q3]) rfl ⟨_, _, by omega, by omega, by omega, by omega, rfl, (HD _ _).out⟩
      · have HD := fun u v => Lib.hid ((S8.put0 hPr hPR hBP hRP' (-10001)).done (M' := M + 7) hrlt HRR.out (by omega) u v)
        go_wp2
        exact bodyPost_ret (v := pt (-10001) (x2 - 20)) (by simp [results, Try.results65, go_sem, q2, q3]) rfl ⟨_, _, by omega, by omega, by omega, by omega, rfl, (HD _ _).out⟩
      · have HD := fun u v => Lib.hid ((S8.put0 hPr hPR hBP hRP' 10000).done (M' := M + 7) hrlt HRR.out (by omega) u v)
        go_wp2
        exact bodyPost_ret (v := pt 10000 (x2 - 20)) (by simp [results, Try.results65, go_sem, q2, q3]) rfl ⟨_, _, by omega, by omega, by omega, by omega, rfl, (HD _ _).out⟩
end Go.Proofs.Ytkmopgdnaohcdaa
