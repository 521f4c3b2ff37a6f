/- Drawing points from a code. -/
import Derived.Test.YtlbheofomjakmaaDraw2
import Derived.Deep.RegionHeld3
namespace Go.Proofs.Ytlbheofomjakmaa
set_option maxRecDepth 100000
open Go.RowKit
attribute [local go_sem ↓] Go.wp_at_zero Go.wp_at_succ

def small (x : Int) : Prop := -40000 ≤ x ∧ x ≤ 40000
def GotP (w : World) (e : Ending) (w' : World) : Prop := ∃ x y : Int, small x ∧ small y ∧ e = .returned (pt x y) ∧ Below w.heap.size w w'
def GotP2 (w : World) (e : Ending) (w' : World) : Prop := ∃ x y x2 y2 : Int, (small x ∧ small y ∧ small x2 ∧ small y2) ∧ e = .returned (.tuple #[pt x y, pt x2 y2]) ∧ Below w.heap.size w w'
def GotP3 (w : World) (e : Ending) (w' : World) : Prop :=
  ∃ x y x2 y2 x3 y3 : Int, (small x ∧ small y ∧ small x2 ∧ small y2 ∧ small x3 ∧ small y3) ∧ e = .returned (.tuple #[pt x y, pt x2 y2, pt x3 y3]) ∧ Below w.heap.size w w'
theorem small_of {x : Int} (h0 : -10001 ≤ x) (h1 : x ≤ 10001) : small x := by unfold small; omega
theorem bytes_box {w : World} {a : Option Addr} {len cap : Nat} {zs : List Int} (h : Bytes w a len cap zs) (o : Obj) : Bytes (w.alloc o) a len cap zs := h.below (below_box w o)
/-- Opening a reader, its block by another name. -/
theorem open_at (w : World) (a : Option Addr) (len cap : Nat) (zs : List Int) (h : Bytes w a len cap zs) (r : Nat) (hr : w.heap.size = r) :
    Calls Try.prog 38 #[.slice a len cap] w fun e w' => e = .returned (.pointer (some ⟨r, 0, none⟩)) ∧ Rd r 0 w' r ∧ Below w.heap.size w w' := by
  subst hr; exact (open_code w a len cap zs h).mono fun _ _ ⟨h1, h2, h3, _⟩ => ⟨h1, h2, h3⟩
theorem below_of' {w w0 w1 w2 : World} {r : Nat} (h0 : Below w.heap.size w w0) (hb : Below w0.heap.size w0 w1) (hr : w0.heap.size ≤ r) (hg : w1.grownBy w2 (some r)) : Below w.heap.size w w2 :=
  (below_call h0 hb).grown hg (Nat.le_trans h0.size hb.size) (fun k hk => by injection hk with hk; have := h0.size; omega)
theorem own2 (w : World) (t : Nat) : let w0 := (w.alloc (.cells #[.int .i64 0, .int .i64 0] t)).alloc (.cells #[.int .i64 0, .int .i64 0] t)
    OwnP w0 w.heap.size 0 0 ∧ OwnP w0 (w.heap.size + 1) 0 0 := by
  refine ⟨(OwnP.box w 0 0 t).alloc _, ?_⟩
  have := OwnP.box (w.alloc (.cells #[.int .i64 0, .int .i64 0] t)) 0 0 t
  simpa using this
theorem own3 (w : World) (t : Nat) : let w0 := ((w.alloc (.cells #[.int .i64 0, .int .i64 0] t)).alloc (.cells #[.int .i64 0, .int .i64 0] t)).alloc (.cells #[.int .i64 0, .int .i64 0] t)
    OwnP w0 w.heap.size 0 0 ∧ OwnP w0 (w.heap.size + 1) 0 0 ∧ OwnP w0 (w.heap.size + 1 + 1) 0 0 := by
  have h := own2 w t
  refine ⟨h.1.alloc _, h.2.alloc _, ?_⟩
  have := OwnP.box ((w.alloc (.cells #[.int .i64 0, .int .i64 0] t)).alloc (.cells #[.int .i64 0, .int .i64 0] t)) 0 0 t
  simpa using this
set_option maxHeartbeats 1000000 in
theorem drawSquaredDistance (w : World) (a : Option Addr) (len cap : Nat) (zs : List Int) (h : Bytes w a len cap zs) :
    Calls Try.prog 48 #[.slice a len cap] w (GotP2 w) := by
  have h' := bytes_box (bytes_box h (.cells #[.int .i64 0, .int .i64 0] 31)) (.cells #[.int .i64 0, .int .i64 0] 31)
  have O0 := own2 w 31
  have H0 := Lib.hid (below_box2 w (.cells #[.int .i64 0, .int .i64 0] 31) (.cells #[.int .i64 0, .int .i64 0] 31))
  go_enter Try.func48, Try.ntmps48
  go_wp2_with fail
  refine (open_at _ a len cap zs h' (w.heap.size + 1 + 1) (by simp)).mono ?_
  rintro e w1 ⟨rfl, hr1, hb1⟩
  have O1 := And.intro (O0.1.next hb1) (O0.2.next hb1)
  go_wp2_with fail
  refine (l20Point _ _ _ 9 _ hr1 (by omega) (by omega) (by omega)).mono ?_
  rintro e w2 ⟨x, y, p1, p2, p3, p4, rfl, hr2, hg2⟩
  have hlt := hr2.lt
  have hne1 : w.heap.size ≠ w.heap.size + 1 + 1 := by omega
  have hne2 : w.heap.size + 1 ≠ w.heap.size + 1 + 1 := by omega
  have hne3 : w2.heap.size ≠ w.heap.size + 1 + 1 := by omega
  have hne4 : w2.heap.size ≠ w.heap.size := by omega
  have hne5 : w2.heap.size ≠ w.heap.size + 1 := by omega
  have HB := Lib.hid (below_of' H0.out hb1 (by simp) hg2)
  have R1 := (((O1.1.grown hg2 hne1).alloc (.cells #[.int .i64 x, .int .i64 y] 31)).next (below_drew _))
  have R2 := (((O1.2.grown hg2 hne2).alloc (.cells #[.int .i64 x, .int .i64 y] 31)).next (below_drew _))
  have V0 := ((OwnP.box w2 x y 31).next (below_drew _))
  have hr3 := (hr2.alloc (.cells #[.int .i64 x, .int .i64 y] 31)).drew
  obtain ⟨⟨v1, v2, v3⟩, v4, v5⟩ := id V0
  clear h h' hr1 hr2 hg2 hb1 O0 O1 H0
  go_wp2
  go_region_with (first
    | (go_at_call 46
       refine (l20Point _ _ _ 9 _ hr3 (by omega) (by omega) (by omega)).mono ?_
       rintro e w3 ⟨x2, y2, t1, t2, t3, t4, rfl, hr4, hg4⟩
       have HB4 := Lib.hid ((((HB.out.alloc HB.out.size (.cells #[.int .i64 x, .int .i64 y] 31)).drew).grown hg4 (by simp; omega) (fun k hk => by injection hk with hk; omega)))
       obtain ⟨⟨s1, s2, s3⟩, s4, s5⟩ := R1.grown hg4 hne1
       obtain ⟨⟨i1, i2, i3⟩, i4, i5⟩ := R2.grown hg4 hne2
       obtain ⟨⟨j1, j2, j3⟩, j4, j5⟩ := V0.grown hg4 hne3))
  all_goals
    go_wp2
    exact bodyPost_ret (v := .tuple #[pt x y, pt x2 y2]) (by simp [results, Try.results48, go_sem, s2, s3, i2, i3]) rfl
      ⟨x, y, x2, y2, ⟨small_of p1 p2, small_of p3 p4, small_of t1 t2, small_of t3 t4⟩, rfl, below_set (below_set HB4.out (Nat.le_refl _) _ _) (by omega) _ _⟩
theorem drawMidpoint (w : World) (a : Option Addr) (len cap : Nat) (zs : List Int) (h : Bytes w a len cap zs) :
    Calls Try.prog 28 #[.slice a len cap] w (GotP2 w) := by
  have h' := bytes_box (bytes_box h (.cells #[.int .i64 0, .int .i64 0] 31)) (.cells #[.int .i64 0, .int .i64 0] 31)
  have O0 := own2 w 31
  have H0 := Lib.hid (below_box2 w (.cells #[.int .i64 0, .int .i64 0] 31) (.cells #[.int .i64 0, .int .i64 0] 31))
  go_enter Try.func28, Try.ntmps28
  go_wp2_with fail
  refine (drawSquaredDistance _ a len cap zs h').mono ?_
  rintro e w1 ⟨x, y, x2, y2, hs, rfl, hb1⟩
  obtain ⟨⟨s1, s2, s3⟩, s4, s5⟩ := O0.1.next hb1
  obtain ⟨⟨i1, i2, i3⟩, i4, i5⟩ := O0.2.next hb1
  have HB := Lib.hid (below_call H0.out hb1)
  clear h h' O0 hb1
  go_wp2
  exact bodyPost_ret (v := .tuple #[pt x y, pt x2 y2]) (by simp [results, Try.results28, go_sem, s2, s3, i2, i3]) rfl
    ⟨x, y, x2, y2, hs, rfl, below_set (below_set HB.out (Nat.le_refl _) _ _) (by omega) _ _⟩
end Go.Proofs.Ytlbheofomjakmaa
