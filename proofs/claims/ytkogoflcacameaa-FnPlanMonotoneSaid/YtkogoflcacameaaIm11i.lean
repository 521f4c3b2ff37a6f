/- The program's PlanPath. -/
import Derived.Test.YtkogoflcacameaaIm11g
import Derived.Test.YtkogoflcacameaaIm11h
namespace Go.Proofs.Ytkogoflcacameaa
set_option maxRecDepth 100000
open Go.RowKit
attribute [local go_sem ↓] Go.wp_at_zero Go.wp_at_succ
set_option maxHeartbeats 8000000 in
theorem implPlanPath (ta : Option Addr) (len cap : Nat) (T : List (List Bool)) (a b : C2) (w : World) (h : Bol.RSA w ta len T) (hl : len ≤ 9223372036854775807) :
    Calls Try.prog 19 #[.slice ta len cap, pt a.1 a.2, pt b.1 b.2] w (Cel.PtRow (planV T a b) w) := by
  have HT := Lib.hid h
  have B0' := below_box2 w (.cells #[.int .i64 a.1, .int .i64 a.2] 33) (.cells #[.int .i64 b.1, .int .i64 b.2] 33)
  have HB := Lib.hid B0'
  have HP := Lib.hid ((AtP.box w a.1 a.2 33).alloc (.cells #[.int .i64 b.1, .int .i64 b.2] 33))
  have HQ0 := AtP.box (w.alloc (.cells #[.int .i64 a.1, .int .i64 a.2] 33)) b.1 b.2 33
  rw [show (w.alloc (.cells #[.int .i64 a.1, .int .i64 a.2] 33)).heap.size = w.heap.size + 1 by simp] at HQ0
  have HQ := Lib.hid HQ0
  clear B0' HQ0 h
  go_enter Try.func19, Try.ntmps19
  go_upto_region 2 with fail
  generalize (w.alloc (.cells #[.int .i64 a.1, .int .i64 a.2] 33)).alloc (.cells #[.int .i64 b.1, .int .i64 b.2] 33) = w1 at *
  have u0 := HP.out.c0
  have u1 := HP.out.c1
  have u2 := HQ.out.c0
  have u3 := HQ.out.c1
  have HP1 := Lib.hid HP.out
  have HQ1 := Lib.hid HQ.out
  have HB1 := Lib.hid HB.out
  clear HP HQ HB
  have HTV := Lib.hid (tableValid ta len cap T w1 (HT.out.next HB1.out) hl)
  by_cases hs : squV T
  rotate_left
  · rw [decide_eq_false hs] at HTV
    have HE : Hid (∀ w', Below w.heap.size w w' → Cel.PtRow (planV T a b) w (.returned (.slice none 0 0)) w') := Lib.hid fun w' hbel => by rw [planV_no (by rintro ⟨q, _⟩; exact hs q)]; exact Cel.nilPt w w' hbel
    go_wp2_with fail
    refine (HTV.out).mono ?_
    rintro e w2 ⟨rfl, BC⟩
    have HB2 := Lib.hid (below_call HB1.out BC)
    have HP2 := Lib.hid (HP1.out.next BC)
    have HQ2 := Lib.hid (HQ1.out.next BC)
    clear BC HB1 HP1 HQ1
    have u0 := HP2.out.c0
    have u1 := HP2.out.c1
    have u2 := HQ2.out.c0
    have u3 := HQ2.out.c1
    clear u0 u1 u2 u3
    go_wp2
    go_ret
    exact HE.out _ HB2.out
  rw [decide_eq_true hs] at HTV
  go_wp2_with fail
  refine (HTV.out).mono ?_
  rintro e w2 ⟨rfl, BC⟩
  have HB2 := Lib.hid (below_call HB1.out BC)
  have HP2 := Lib.hid (HP1.out.next BC)
  have HQ2 := Lib.hid (HQ1.out.next BC)
  clear BC HB1 HP1 HQ1
  have u0 := HP2.out.c0
  have u1 := HP2.out.c1
  have u2 := HQ2.out.c0
  have u3 := HQ2.out.c1
  clear HTV
  have HFA := Lib.hid (isFreeC ta len cap T a.1 a.2 w2 (HT.out.next HB2.out) hl)
  by_cases ha : freeV T a = true
  rotate_left
  · have ha' : freeV T (a.1, a.2) = false := by simpa using ha
    rw [ha'] at HFA
    clear ha'
    have HE : Hid (∀ w', Below w.heap.size w w' → Cel.PtRow (planV T a b) w (.returned (.slice none 0 0)) w') := Lib.hid fun w' hbel => by rw [planV_no (by rintro ⟨_, q, _⟩; exact ha q)]; exact Cel.nilPt w w' hbel
    go_wp2_with fail
    refine (HFA.out).mono ?_
    rintro e w3 ⟨rfl, BC⟩
    have HB3 := Lib.hid (below_call HB2.out BC)
    have HP3 := Lib.hid (HP2.out.next BC)
    have HQ3 := Lib.hid (HQ2.out.next BC)
    clear BC HB2 HP2 HQ2
    have u0 := HP3.out.c0
    have u1 := HP3.out.c1
    have u2 := HQ3.out.c0
    have u3 := HQ3.out.c1
    clear u0 u1 u2 u3
    go_wp2
    go_ret
    exact HE.out _ HB3.out
  rw [show freeV T (a.1, a.2) = true from ha] at HFA
  go_wp2_with fail
  refine (HFA.out).mono ?_
  rintro e w3 ⟨rfl, BC⟩
  have HB3 := Lib.hid (below_call HB2.out BC)
  have HP3 := Lib.hid (HP2.out.next BC)
  have HQ3 := Lib.hid (HQ2.out.next BC)
  clear BC HB2 HP2 HQ2
  have u0 := HP3.out.c0
  have u1 := HP3.out.c1
  have u2 := HQ3.out.c0
  have u3 := HQ3.out.c1
  clear HFA
  have HFB := Lib.hid (isFreeC ta len cap T b.1 b.2 w3 (HT.out.next HB3.out) hl)
  by_cases hb : freeV T b = true
  rotate_left
  · have hb' : freeV T (b.1, b.2) = false := by simpa using hb
    rw [hb'] at HFB
    clear hb'
    have HE : Hid (∀ w', Below w.heap.size w w' → Cel.PtRow (planV T a b) w (.returned (.slice none 0 0)) w') := Lib.hid fun w' hbel => by rw [planV_no (by rintro ⟨_, _, q⟩; exact hb q)]; exact Cel.nilPt w w' hbel
    go_wp2_with fail
    refine (HFB.out).mono ?_
    rintro e w4 ⟨rfl, BC⟩
    have HB4 := Lib.hid (below_call HB3.out BC)
    have HP4 := Lib.hid (HP3.out.next BC)
    have HQ4 := Lib.hid (HQ3.out.next BC)
    clear BC HB3 HP3 HQ3
    have u0 := HP4.out.c0
    have u1 := HP4.out.c1
    have u2 := HQ4.out.c0
    have u3 := HQ4.out.c1
    clear u0 u1 u2 u3
    go_wp2
    go_ret
    exact HE.out _ HB4.out
  rw [show freeV T (b.1, b.2) = true from hb] at HFB
  have HAV := Lib.hid (And.intro hs (And.intro ha hb))
  clear hs ha hb
  go_wp2_with fail
  refine (HFB.out).mono ?_
  rintro e w4 ⟨rfl, BC⟩
  have HB4 := Lib.hid (below_call HB3.out BC)
  have HP4 := Lib.hid (HP3.out.next BC)
  have HQ4 := Lib.hid (HQ3.out.next BC)
  clear BC HB3 HP3 HQ3
  have u0 := HP4.out.c0
  have u1 := HP4.out.c1
  have u2 := HQ4.out.c0
  have u3 := HQ4.out.c1
  clear HFB u0 u1 u2 u3
  have hz := zero811
  have Bx := below_box w4 (.cells (search0 (.slice ta len cap)) 77)
  have HS5 := Lib.hid (search0_sea w4 (.slice ta len cap) w4.heap.size (Nat.le_refl _) 77 rfl)
  have HB5 := Lib.hid Bx
  have HP5 := Lib.hid (HP4.out.next Bx)
  have HQ5 := Lib.hid (HQ4.out.next Bx)
  have HT4 := Lib.hid (HT.out.next HB4.out)
  clear Bx HT
  go_upto_region 5 with (first | (refine wpList_buildTo (by rfl) 77 _ (by rfl) (some 26) (by rfl) (search0 (.slice ta len cap)) (by rw [List.map_toArray]; exact built811 ta len cap) ?_) | (refine wpList_store_rowTo rfl 77 (.tmp 8) (.tmp 26) rfl rfl w4.heap.size (search0 (.slice ta len cap)) rfl rfl 77 zs811 (heap_alloc_last w4 _) (size811 _) (same811 _) (search0_one ta len cap) ?_))
  rw [World.setRow_alloc_new]
  generalize w4.alloc (.cells (search0 (.slice ta len cap)) 77) = w5 at *
  clear hz
  have u0 := HP5.out.c0
  have u1 := HP5.out.c1
  have u2 := HQ5.out.c0
  have u3 := HQ5.out.c1
  have HRE := Lib.hid (reachesC w4.heap.size ta len cap T a b w4 w5 (search0 (.slice ta len cap)) HS5.out HT4.out hl HB5.out HAV.out)
  generalize search0 (.slice ta len cap) = s0 at *
  go_wp2_with fail
  refine HRE.out.mono ?_
  rintro e w6 hre
  obtain ⟨r, rfl, hno, hyes, B6⟩ := hre
  have HB6 := Lib.hid (below_call HB4.out B6)
  have HP6 := Lib.hid (HP4.out.next B6)
  have HQ6 := Lib.hid (HQ4.out.next B6)
  clear B6 u0 u1 u2 u3 HRE HS5 HB5 HP5 HQ5 HT4 HB4
  cases r with
  | false =>
    have HE : Hid (∀ w', Below w.heap.size w w' → Cel.PtRow (planV T a b) w (.returned (.slice none 0 0)) w') := Lib.hid fun w' hbel => by rw [hno rfl]; exact Cel.nilPt w w' hbel
    clear hno hyes
    go_wp2
    go_ret
    exact HE.out _ HB6.out
  | true =>
    obtain ⟨s, k, i, g, cs, rs, m, fi, V, S6, A6, hi, hib⟩ := hyes rfl
    have HPC := Lib.hid (pathC w4.heap.size w4.heap.size k g m fi i (.slice ta len cap) T a b s cs rs V w6 S6 A6 hi hib)
    clear hno hyes S6 A6 hi hib
    have u0 := HP6.out.c0
    have u1 := HP6.out.c1
    have u2 := HQ6.out.c0
    have u3 := HQ6.out.c1
    go_wp2_with fail
    refine HPC.out.mono ?_
    rintro e w7 hpr
    obtain ⟨sl, rfl, hsl, O7, B7⟩ := hpr
    have HE := Lib.hid (show Cel.PtRow (planV T a b) w (.returned (.slice sl.a sl.len sl.cap)) w7 from ⟨sl, rfl, hsl, O7.down6 HB6.out.size, below_call HB6.out B7⟩)
    clear hsl O7 B7 u0 u1 u2 u3 HPC
    go_wp2
    go_ret
    exact HE.out
end Go.Proofs.Ytkogoflcacameaa
