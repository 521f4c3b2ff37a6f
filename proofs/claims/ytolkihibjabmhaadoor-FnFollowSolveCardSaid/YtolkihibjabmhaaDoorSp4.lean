/- What the document's searches are made of: the sum of absolute values, the test of an arm with two links, one changed angle. -/
import Derived.Test.YtolkihibjabmhaaDoorKept
import Derived.Test.YtolkihibjabmhaaDoorNum4
import Derived.Test.YtolkihibjabmhaaDoorPRow5
namespace Go.Proofs.YtolkihibjabmhaaDoor
set_option maxRecDepth 100000
open Go.RowKit
attribute [local go_sem ↓] Go.wp_at_zero Go.wp_at_succ
/-- An arm with two links and few enough pairs of angles. -/
def okSweep (ls lo hi : List Int) : Prop := okArm ls lo hi ∧ ls.length = 2 ∧ (hi.getD 0 0 - lo.getD 0 0 + 1) * (hi.getD 1 0 - lo.getD 1 0 + 1) ≤ 40000
instance (ls lo hi : List Int) : Decidable (okSweep ls lo hi) := by unfold okSweep; infer_instance
theorem l4Sum (i j : Int) (w : World) (h1 : -1000 ≤ i) (h2 : i ≤ 1000) (h3 : -1000 ≤ j) (h4 : j ≤ 1000) :
    Calls Tryd.prog 81 #[.int .i64 i, .int .i64 j] w fun e w' => e = .returned (.int .i64 (sumAbs (i, j))) ∧ w = w' := by
  have HE := Lib.hid (show sumAbs (i, j) = max i (-i) + max j (-j) from rfl)
  have e1 : (if i < -i then -i else i) = max i (-i) := by omega
  have e2 : (if j < -j then -j else j) = max j (-j) := by omega
  go_enter Tryd.func81, Tryd.ntmps81
  go_wp2
  all_goals
    go_ret
    exact ⟨ret_int HE.out.symm, rfl⟩
set_option maxHeartbeats 1000000 in
theorem l4Sweep (x y z : Sl) (ls lo hi : List Int) (w : World) (hx : IntsAt w x.a x.len ls) (hy : IntsAt w y.a y.len lo) (hz : IntsAt w z.a z.len hi) (bx : x.len ≤ 9223372036854775807) (b_y : y.len ≤ 9223372036854775807) (bz : z.len ≤ 9223372036854775807) :
    Calls Tryd.prog 77 #[av x y z] w fun e w' => e = .returned (.bool (decide (okSweep ls lo hi))) ∧ Below w.heap.size w w' := by
  obtain ⟨xa, xl, xc⟩ := x
  obtain ⟨ya, yl, yc⟩ := y
  obtain ⟨za, zl, zc⟩ := z
  simp only at *
  have Bb := below_box w (.cells #[.slice xa xl xc, .slice ya yl yc, .slice za zl zc] 25)
  obtain ⟨p0, p1, p2⟩ := (AtA.box w (.slice xa xl xc) (.slice ya yl yc) (.slice za zl zc) 25).kepts
  replace hx := hx.next Bb
  replace hy := hy.next Bb
  replace hz := hz.next Bb
  have HB := Lib.hid Bb
  clear Bb
  by_cases hok : okArm ls lo hi
  · have HAV := Lib.hid (fun (n : Kept (w.alloc (.cells #[.slice xa xl xc, .slice ya yl yc, .slice za zl zc] 25))) => keptCall (specArmValidY ⟨xa, xl, xc⟩ ⟨ya, yl, yc⟩ ⟨za, zl, zc⟩ ls lo hi n.u (hx.next n.b) (hy.next n.b) (hz.next n.b) hok))
    by_cases h2 : ls.length = 2
    · have e1 : xl = 2 := by rw [hx.1]; exact h2
      have e2 : yl = 2 := by rw [hy.1, hok.2.2.1]; exact h2
      have e3 : zl = 2 := by rw [hz.1, hok.2.2.2.1]; exact h2
      subst e1 e2 e3
      obtain ⟨by1, oy, rfl, lty, cy⟩ := hy.some (by omega)
      obtain ⟨bz1, oz, rfl, ltz, cz⟩ := hz.some (by omega)
      have y0 := keptCell (o := oy) lty (cy 0 (by omega))
      have y1 := keptCell lty (cy 1 (by omega))
      have z0 := keptCell (o := oz) ltz (cz 0 (by omega))
      have z1 := keptCell ltz (cz 1 (by omega))
      have k0 := hok.2.2.2.2 0 (by omega)
      have k1 := hok.2.2.2.2 1 (by omega)
      unfold okLink at k0 k1
      have HE := Lib.hid (show decide (okSweep ls lo hi) = decide ((hi.getD 0 0 - lo.getD 0 0 + 1) * (hi.getD 1 0 - lo.getD 1 0 + 1) ≤ 40000) by unfold okSweep; simp [hok, h2])
      clear hx hy hz cy cz hok h2
      generalize lo.getD 0 0 = l0 at *
      generalize lo.getD 1 0 = l1 at *
      generalize hi.getD 0 0 = g0 at *
      generalize hi.getD 1 0 = g1 at *
      have mb := mul_bd (A := 400) (B := 400) (show (-400 : Int) ≤ g0 - l0 + 1 by omega) (show g0 - l0 + 1 ≤ 400 by omega) (show (-400 : Int) ≤ g1 - l1 + 1 by omega) (show g1 - l1 + 1 ≤ 400 by omega)
      go_enter Tryd.func77, Tryd.ntmps77
      go_wp2
      generalize w.alloc (.cells #[.slice xa 2 xc, .slice (some ⟨by1, oy, none⟩) 2 yc, .slice (some ⟨bz1, oz, none⟩) 2 zc] 25) = w0 at *
      refine wp_region_kept (by kernel_rfl) (by kernel_rfl) ?_
      repeat (go_big_quiet_step ((go_at_call 60; exact HAV.out _)))
      refine wpQuiet_nil ?_
      rintro _ ⟨⟨wq, Bq⟩, rfl⟩
      have HBq := Lib.hid (below_call HB.out Bq)
      go_wp2
      go_ret
      exact ⟨ret_bool HE.out.symm, HBq.out⟩
    · have HE := Lib.hid (show decide (okSweep ls lo hi) = false from decide_eq_false fun h => h2 h.2.1)
      have e1 : ((xl : Int) == 2) = false := by have := hx.1; simp; omega
      clear hx hy hz hok h2
      go_enter Tryd.func77, Tryd.ntmps77
      go_wp2
      generalize w.alloc (.cells #[.slice xa xl xc, .slice ya yl yc, .slice za zl zc] 25) = w0 at *
      refine wp_region_kept (by kernel_rfl) (by kernel_rfl) ?_
      repeat (go_big_quiet_step ((go_at_call 60; exact HAV.out _)))
      refine wpQuiet_nil ?_
      rintro _ ⟨⟨wq, Bq⟩, rfl⟩
      have HBq := Lib.hid (below_call HB.out Bq)
      go_wp2
      go_ret
      exact ⟨ret_bool HE.out.symm, HBq.out⟩
  · have HAV := Lib.hid (fun (n : Kept (w.alloc (.cells #[.slice xa xl xc, .slice ya yl yc, .slice za zl zc] 25))) => keptCall (specArmValidN ⟨xa, xl, xc⟩ ⟨ya, yl, yc⟩ ⟨za, zl, zc⟩ ls lo hi n.u (hx.next n.b) (hy.next n.b) (hz.next n.b) hok bx b_y bz))
    have HE := Lib.hid (show decide (okSweep ls lo hi) = false from decide_eq_false fun h => hok h.1)
    clear hx hy hz hok
    go_enter Tryd.func77, Tryd.ntmps77
    go_wp2
    generalize w.alloc (.cells #[.slice xa xl xc, .slice ya yl yc, .slice za zl zc] 25) = w0 at *
    refine wp_region_kept (by kernel_rfl) (by kernel_rfl) ?_
    repeat (go_big_quiet_step ((go_at_call 60; exact HAV.out _)))
    refine wpQuiet_nil ?_
    rintro _ ⟨⟨wq, Bq⟩, rfl⟩
    have HBq := Lib.hid (below_call HB.out Bq)
    go_wp2
    go_ret
    exact ⟨ret_bool HE.out.symm, HBq.out⟩
end Go.Proofs.YtolkihibjabmhaaDoor
