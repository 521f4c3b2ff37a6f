/- Drawing a point with a number of degrees, and a point for its direction. -/
import Derived.Test.YtlajpeoadgfobaaDoorDraw1
import Derived.Test.YtlajpeoadgfobaaDoorDraw2b
namespace Go.Proofs.YtlajpeoadgfobaaDoor
set_option maxRecDepth 100000
open Go.RowKit
attribute [local go_sem ↓] Go.wp_at_zero Go.wp_at_succ

def GotPD (w : World) (e : Ending) (w' : World) : Prop :=
  ∃ x y d : Int, small x ∧ small y ∧ -9223372036854775808 ≤ d ∧ d ≤ 9223372036854775807 ∧ e = .returned (.tuple #[pt x y, .int .i64 d]) ∧ Below w.heap.size w w'
set_option maxHeartbeats 1000000 in
theorem drawRotatePoint (w : World) (a : Option Addr) (len cap : Nat) (zs : List Int) (h : Bytes w a len cap zs) :
    Calls Tryd.prog 7 #[.slice a len cap] w (GotPD w) := by
  have h' := bytes_box h (.cells #[.int .i64 0, .int .i64 0] 24)
  have O0 := OwnP.box w 0 0 24
  have H0 := Lib.hid (below_box w (.cells #[.int .i64 0, .int .i64 0] 24))
  go_enter Tryd.func7, Tryd.ntmps7
  go_wp2_with fail
  refine (open_at _ a len cap zs h' (w.heap.size + 1) (by simp)).mono ?_
  rintro e w1 ⟨rfl, hr1, hb1⟩
  have O1 := O0.next hb1
  go_wp2_with fail
  refine (l20Point _ _ _ 9 _ hr1 (by omega) (by omega) (by omega)).mono ?_
  rintro e w2 ⟨x, y, p1, p2, p3, p4, rfl, hr2, hg2⟩
  have hlt := hr2.lt
  have hne1 : w.heap.size ≠ w.heap.size + 1 := by omega
  have hne3 : w2.heap.size ≠ w.heap.size + 1 := by omega
  have hne4 : w2.heap.size ≠ w.heap.size := by omega
  have HB := Lib.hid (below_of' H0.out hb1 (by simp) hg2)
  have R1 := (((O1.grown hg2 hne1).alloc (.cells #[.int .i64 x, .int .i64 y] 24)).next (below_drew _))
  have V0 := ((OwnP.box w2 x y 24).next (below_drew _))
  have hr3 := (hr2.alloc (.cells #[.int .i64 x, .int .i64 y] 24)).drew
  obtain ⟨⟨v1, v2, v3⟩, v4, v5⟩ := id V0
  clear h h' hr1 hr2 hg2 hb1 O0 O1 H0
  go_wp2
  go_region_with (first
    | (go_at_call 25
       refine (l20Deg _ _ _ _ hr3 (by omega)).mono ?_
       rintro e w3 ⟨d, t1, t2, rfl, hr4, hg4⟩
       have HB4 := Lib.hid ((((HB.out.alloc HB.out.size (.cells #[.int .i64 x, .int .i64 y] 24)).drew).grown hg4 (by simp; omega) (fun k hk => by injection hk with hk; omega)))
       obtain ⟨⟨s1, s2, s3⟩, s4, s5⟩ := R1.grown hg4 hne1
       obtain ⟨⟨j1, j2, j3⟩, j4, j5⟩ := V0.grown hg4 hne3))
  all_goals
    go_wp2
    exact bodyPost_ret (v := .tuple #[pt x y, .int .i64 d]) (by simp [results, Tryd.results7, go_sem, s2, s3]) rfl
      ⟨x, y, d, small_of p1 p2, small_of p3 p4, t1, t2, rfl, below_set HB4.out (Nat.le_refl _) _ _⟩
end Go.Proofs.YtlajpeoadgfobaaDoor
