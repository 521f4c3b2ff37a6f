/- Drawing points from a code. -/
import Derived.Test.YtkmopgdnaohcdaaDraw2
import Derived.Deep.RegionHeld3
namespace Go.Proofs.Ytkmopgdnaohcdaa
set_option maxRecDepth 100000
open Go.RowKit
attribute [local go_sem ↓] Go.wp_at_zero Go.wp_at_succ

def small (x : Int) : Prop := -40000 ≤ x ∧ x ≤ 40000
def GotP (w : World) (e : Ending) (w' : World) : Prop := ∃ x y : Int, small x ∧ small y ∧ e = .returned (pt x y) ∧ Below w.heap.size w w'
def GotP2 (w : World) (e : Ending) (w' : World) : Prop := ∃ x y x2 y2 : Int, (small x ∧ small y ∧ small x2 ∧ small y2) ∧ e = .returned (.tuple #[pt x y, pt x2 y2]) ∧ Below w.heap.size w w'
def GotP3 (w : World) (e : Ending) (w' : World) : Prop :=
  ∃ x y x2 y2 x3 y3 : Int, (small x ∧ small y ∧ small x2 ∧ small y2 ∧ small x3 ∧ small y3) ∧ e = .returned (.tuple #[pt x y, pt x2 y2, pt x3 y3]) ∧ Below w.heap.size w w'
theorem small_of {x : Int} (h0 : -10001 ≤ x) (h1 : x ≤ 10001) : small x := by unfold small; omega
theorem bytes_box {w : World} {a : Option Addr} {len cap : Nat} {zs : List Int} (h : Bytes w a len cap zs) (o : Obj) : Bytes (w.alloc o) a len cap zs := h.below (below_box w o)
/-- Opening a reader, its block by another name. -/
theorem open_at (w : World) (a : Option Addr) (len cap : Nat) (zs : List Int) (h : Bytes w a len cap zs) (r : Nat) (hr : w.heap.size = r) :
    Calls Try.prog 56 #[.slice a len cap] w fun e w' => e = .returned (.pointer (some ⟨r, 0, none⟩)) ∧ Rd r 0 w' r ∧ Below w.heap.size w w' := by
  subst hr; exact (open_code w a len cap zs h).mono fun _ _ ⟨h1, h2, h3, _⟩ => ⟨h1, h2, h3⟩
theorem below_of' {w w0 w1 w2 : World} {r : Nat} (h0 : Below w.heap.size w w0) (hb : Below w0.heap.size w0 w1) (hr : w0.heap.size ≤ r) (hg : w1.grownBy w2 (some r)) : Below w.heap.size w w2 :=
  (below_call h0 hb).grown hg (Nat.le_trans h0.size hb.size) (fun k hk => by injection hk with hk; have := h0.size; omega)
theorem own2 (w : World) (t : Nat) : let w0 := (w.alloc (.cells #[.int .i64 0, .int .i64 0] t)).alloc (.cells #[.int .i64 0, .int .i64 0] t)
    OwnP w0 w.heap.size 0 0 ∧ OwnP w0 (w.heap.size + 1) 0 0 := by
  refine ⟨(OwnP.box w 0 0 t).alloc _, ?_⟩
  have := OwnP.box (w.alloc (.cells #[.int .i64 0, .int .i64 0] t)) 0 0 t
  simpa using this
theorem own3 (w : World) (t : Nat) : let w0 := ((w.alloc (.cells #[.int .i64 0, .int .i64 0] t)).alloc (.cells #[.int .i64 0, .int .i64 0] t)).alloc (.cells #[.int .i64 0, .int .i64 0] t)
    OwnP w0 w.heap.size 0 0 ∧ OwnP w0 (w.heap.size + 1) 0 0 ∧ OwnP w0 (w.heap.size + 1 + 1) 0 0 := by
  have h := own2 w t
  refine ⟨h.1.alloc _, h.2.alloc _, ?_⟩
  have := OwnP.box ((w.alloc (.cells #[.int .i64 0, .int .i64 0] t)).alloc (.cells #[.int .i64 0, .int .i64 0] t)) 0 0 t
  simpa using this
set_option maxHeartbeats 1000000 in
theorem drawOrientation (w : World) (a : Option Addr) (len cap : Nat) (zs : List Int) (h : Bytes w a len cap zs) :
    Calls Try.prog 46 #[.slice a len cap] w (GotP3 w) := by
  have h' := bytes_box (bytes_box (bytes_box h (.cells #[.int .i64 0, .int .i64 0] 28)) (.cells #[.int .i64 0, .int .i64 0] 28)) (.cells #[.int .i64 0, .int .i64 0] 28)
  have O0 := own3 w 28
  have H0 := Lib.hid (below_box3 w (.cells #[.int .i64 0, .int .i64 0] 28) (.cells #[.int .i64 0, .int .i64 0] 28) (.cells #[.int .i64 0, .int .i64 0] 28))
  go_enter Try.func46, Try.ntmps46
  go_wp2_with fail
  refine (open_at _ a len cap zs h' (w.heap.size + 1 + 1 + 1) (by simp)).mono ?_
  rintro e w1 ⟨rfl, hr1, hb1⟩
  have Ra := O0.1.next hb1
  have Rb := O0.2.1.next hb1
  have Rc := O0.2.2.next hb1
  have Bl := below_call H0.out hb1
  clear h h' O0 hb1 H0
  have n1 : w.heap.size ≠ w.heap.size + 1 + 1 + 1 := by omega
  have n2 : w.heap.size + 1 ≠ w.heap.size + 1 + 1 + 1 := by omega
  have n3 : w.heap.size + 1 + 1 ≠ w.heap.size + 1 + 1 + 1 := by omega
  go_wp2_with fail
  refine (l20Point _ _ _ 16 _ hr1 (by omega) (by omega) (by omega)).mono ?_
  rintro e w2 ⟨ax, ay, p1, p2, p3, p4, rfl, hr2, hg2⟩
  have lt2 := hr2.lt
  have n4 : w2.heap.size ≠ w.heap.size + 1 + 1 + 1 := by omega
  replace Ra := (Ra.grown hg2 n1).alloc (.cells #[.int .i64 ax, .int .i64 ay] 28)
  replace Rb := (Rb.grown hg2 n2).alloc (.cells #[.int .i64 ax, .int .i64 ay] 28)
  replace Rc := (Rc.grown hg2 n3).alloc (.cells #[.int .i64 ax, .int .i64 ay] 28)
  have Va := OwnP.box w2 ax ay 28
  replace Bl := (Bl.grown hg2 Bl.size (fun k hk => by injection hk with hk; omega))
  replace Bl := Bl.alloc Bl.size (.cells #[.int .i64 ax, .int .i64 ay] 28)
  replace hr2 := hr2.alloc (.cells #[.int .i64 ax, .int .i64 ay] 28)
  clear hr1 hg2
  go_wp2_with fail
  refine (l20Point _ _ _ 16 _ hr2 (by omega) (by omega) (by omega)).mono ?_
  rintro e w3 ⟨bx, b_y, p5, p6, p7, p8, rfl, hr3, hg3⟩
  have lt3 := hr3.lt
  have n5 : w3.heap.size ≠ w.heap.size + 1 + 1 + 1 := by omega
  replace Va := (Va.grown hg3 n4).alloc (.cells #[.int .i64 bx, .int .i64 b_y] 28)
  replace Ra := (Ra.grown hg3 n1).alloc (.cells #[.int .i64 bx, .int .i64 b_y] 28)
  replace Rb := (Rb.grown hg3 n2).alloc (.cells #[.int .i64 bx, .int .i64 b_y] 28)
  replace Rc := (Rc.grown hg3 n3).alloc (.cells #[.int .i64 bx, .int .i64 b_y] 28)
  have Vb := OwnP.box w3 bx b_y 28
  replace Bl := (Bl.grown hg3 Bl.size (fun k hk => by injection hk with hk; omega))
  replace Bl := Bl.alloc Bl.size (.cells #[.int .i64 bx, .int .i64 b_y] 28)
  replace hr3 := hr3.alloc (.cells #[.int .i64 bx, .int .i64 b_y] 28)
  have sz3 := hg3.size
  have m1 : w2.heap.size ≠ w3.heap.size := by simp at sz3; omega
  clear hr2 hg3
  go_wp2_with fail
  refine (l20Point _ _ _ 16 _ hr3 (by omega) (by omega) (by omega)).mono ?_
  rintro e w4 ⟨cx, cy, p9, p10, p11, p12, rfl, hr4, hg4⟩
  have lt4 := hr4.lt
  have n6 : w4.heap.size ≠ w.heap.size + 1 + 1 + 1 := by omega
  replace Va := (Va.grown hg4 n4).alloc (.cells #[.int .i64 cx, .int .i64 cy] 28)
  replace Vb := (Vb.grown hg4 n5).alloc (.cells #[.int .i64 cx, .int .i64 cy] 28)
  replace Ra := (Ra.grown hg4 n1).alloc (.cells #[.int .i64 cx, .int .i64 cy] 28)
  replace Rb := (Rb.grown hg4 n2).alloc (.cells #[.int .i64 cx, .int .i64 cy] 28)
  replace Rc := (Rc.grown hg4 n3).alloc (.cells #[.int .i64 cx, .int .i64 cy] 28)
  have Vc := OwnP.box w4 cx cy 28
  replace Bl := (Bl.grown hg4 Bl.size (fun k hk => by injection hk with hk; omega))
  replace Bl := Bl.alloc Bl.size (.cells #[.int .i64 cx, .int .i64 cy] 28)
  replace hr4 := hr4.alloc (.cells #[.int .i64 cx, .int .i64 cy] 28)
  have sz4 := hg4.size
  have m2 : w2.heap.size ≠ w4.heap.size := by simp at sz3 sz4; omega
  have m3 : w3.heap.size ≠ w4.heap.size := by simp at sz4; omega
  clear hr3 hg4
  go_wp2_with fail
  refine (pick _ _ _ _ _ hr4 (by omega)).mono ?_
  rintro e w5 ⟨z, z0, z1, rfl, hr5, hg5, hs5⟩
  replace Va := Va.grown hg5 n4
  replace Vb := Vb.grown hg5 n5
  replace Vc := Vc.grown hg5 n6
  replace Ra := Ra.grown hg5 n1
  replace Rb := Rb.grown hg5 n2
  replace Rc := Rc.grown hg5 n3
  replace Bl := Bl.grown hg5 Bl.size (fun k hk => by injection hk with hk; omega)
  have d1 : w.heap.size ≠ w2.heap.size := by omega
  have d2 : w.heap.size ≠ w3.heap.size := by omega
  have d3 : w.heap.size ≠ w4.heap.size := by omega
  have d4 : w.heap.size + 1 ≠ w2.heap.size := by omega
  have d5 : w.heap.size + 1 ≠ w3.heap.size := by omega
  have d6 : w.heap.size + 1 ≠ w4.heap.size := by omega
  have d7 : w.heap.size + 1 + 1 ≠ w2.heap.size := by omega
  have d8 : w.heap.size + 1 + 1 ≠ w3.heap.size := by omega
  have d9 : w.heap.size + 1 + 1 ≠ w4.heap.size := by omega
  have le1 : w.heap.size ≤ w4.heap.size := by omega
  clear hr5 hg5 hs5 hr4 sz3 sz4 z1
  by_cases hz : z = 0
  · subst hz
    obtain ⟨⟨i1, i2, i3⟩, i4, i5⟩ := id Va
    obtain ⟨⟨j1, j2, j3⟩, j4, j5⟩ := id Vb
    obtain ⟨⟨k1, k2, k3⟩, k4, k5⟩ := id Vc
    have HB := Lib.hid (below_set Bl le1 (.int .i64 (2 * bx - ax)) (.int .i64 (2 * b_y - ay)))
    have Wc := (Vc.put0 (2 * bx - ax)).put1 (2 * b_y - ay)
    have Wa : OwnP ((w5.setCell ⟨w4.heap.size, 0, none⟩ (.int .i64 (2 * bx - ax))).setCell ⟨w4.heap.size, 1, none⟩ (.int .i64 (2 * b_y - ay))) _ _ _ := (Va.far m2.symm _).far m2.symm _
    have Wb : OwnP ((w5.setCell ⟨w4.heap.size, 0, none⟩ (.int .i64 (2 * bx - ax))).setCell ⟨w4.heap.size, 1, none⟩ (.int .i64 (2 * b_y - ay))) _ _ _ := (Vb.far m3.symm _).far m3.symm _
    have Sa : OwnP ((w5.setCell ⟨w4.heap.size, 0, none⟩ (.int .i64 (2 * bx - ax))).setCell ⟨w4.heap.size, 1, none⟩ (.int .i64 (2 * b_y - ay))) _ _ _ := (Ra.far d3.symm _).far d3.symm _
    have Sb : OwnP ((w5.setCell ⟨w4.heap.size, 0, none⟩ (.int .i64 (2 * bx - ax))).setCell ⟨w4.heap.size, 1, none⟩ (.int .i64 (2 * b_y - ay))) _ _ _ := (Rb.far d6.symm _).far d6.symm _
    have Sc : OwnP ((w5.setCell ⟨w4.heap.size, 0, none⟩ (.int .i64 (2 * bx - ax))).setCell ⟨w4.heap.size, 1, none⟩ (.int .i64 (2 * b_y - ay))) _ _ _ := (Rc.far d9.symm _).far d9.symm _
    clear Va Vb Vc Ra Rb Rc Bl
    go_wp2
    generalize ((w5.setCell ⟨w4.heap.size, 0, none⟩ (.int .i64 (2 * bx - ax))).setCell ⟨w4.heap.size, 1, none⟩ (.int .i64 (2 * b_y - ay))) = w6 at *
    clear i1 i2 i3 i4 i5 j1 j2 j3 j4 j5 k1 k2 k3 k4 k5
    obtain ⟨⟨i1, i2, i3⟩, i4, i5⟩ := Wa
    obtain ⟨⟨j1, j2, j3⟩, j4, j5⟩ := Wb
    obtain ⟨⟨k1, k2, k3⟩, k4, k5⟩ := Wc
    obtain ⟨⟨e1, e2, e3⟩, e4, e5⟩ := Sa
    obtain ⟨⟨f1, f2, f3⟩, f4, f5⟩ := Sb
    obtain ⟨⟨g1, g2, g3⟩, g4, g5⟩ := Sc
    go_region_held3 (fun u => u.cell? ⟨w2.heap.size, 0, none⟩ = some (.int .i64 ax) ∧ u.cell? ⟨w2.heap.size, 1, none⟩ = some (.int .i64 ay) ∧ u.cell? ⟨w3.heap.size, 0, none⟩ = some (.int .i64 bx) ∧ u.cell? ⟨w3.heap.size, 1, none⟩ = some (.int .i64 b_y) ∧
      u.cell? ⟨w4.heap.size, 0, none⟩ = some (.int .i64 (2 * bx - ax)) ∧ u.cell? ⟨w4.heap.size, 1, none⟩ = some (.int .i64 (2 * b_y - ay))) (go_keep) (fail)
    go_wp2
    exact bodyPost_ret (v := .tuple #[pt ax ay, pt bx b_y, pt (2 * bx - ax) (2 * b_y - ay)]) (by simp [results, Try.results46, go_sem, e2, e3, f2, f3, g2, g3]) rfl
      ⟨ax, ay, bx, b_y, 2 * bx - ax, 2 * b_y - ay, ⟨small_of p1 p2, small_of p3 p4, small_of p5 p6, small_of p7 p8, by unfold small; omega, by unfold small; omega⟩, rfl,
        (below_set (below_set (below_set HB.out (Nat.le_refl _) _ _) (by omega) _ _) (by omega) _ _).drew⟩
  · have hz' : (z == 0) = false := by simpa using hz
    have HB := Lib.hid Bl
    clear Bl
    obtain ⟨⟨i1, i2, i3⟩, i4, i5⟩ := Va
    obtain ⟨⟨j1, j2, j3⟩, j4, j5⟩ := Vb
    obtain ⟨⟨k1, k2, k3⟩, k4, k5⟩ := Vc
    obtain ⟨⟨e1, e2, e3⟩, e4, e5⟩ := Ra
    obtain ⟨⟨f1, f2, f3⟩, f4, f5⟩ := Rb
    obtain ⟨⟨g1, g2, g3⟩, g4, g5⟩ := Rc
    go_wp2
    go_region_held3 (fun u => u.cell? ⟨w2.heap.size, 0, none⟩ = some (.int .i64 ax) ∧ u.cell? ⟨w2.heap.size, 1, none⟩ = some (.int .i64 ay) ∧ u.cell? ⟨w3.heap.size, 0, none⟩ = some (.int .i64 bx) ∧ u.cell? ⟨w3.heap.size, 1, none⟩ = some (.int .i64 b_y) ∧
      u.cell? ⟨w4.heap.size, 0, none⟩ = some (.int .i64 cx) ∧ u.cell? ⟨w4.heap.size, 1, none⟩ = some (.int .i64 cy)) (go_keep) (fail)
    go_wp2
    exact bodyPost_ret (v := .tuple #[pt ax ay, pt bx b_y, pt cx cy]) (by simp [results, Try.results46, go_sem, e2, e3, f2, f3, g2, g3]) rfl
      ⟨ax, ay, bx, b_y, cx, cy, ⟨small_of p1 p2, small_of p3 p4, small_of p5 p6, small_of p7 p8, small_of p9 p10, small_of p11 p12⟩, rfl,
        (below_set (below_set (below_set HB.out (Nat.le_refl _) _ _) (by omega) _ _) (by omega) _ _).drew⟩
end Go.Proofs.Ytkmopgdnaohcdaa
