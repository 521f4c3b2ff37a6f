/- The walk of the law FnFirstContact: it returns true at every code. -/
import Derived.Test.YtcifokihellcdaaDoorDf10
import Derived.Test.YtcifokihellcdaaDoorZb10f
namespace Go.Proofs.YtcifokihellcdaaDoor
set_option maxRecDepth 100000
open Go.RowKit
attribute [local go_sem ↓] Go.wp_at_zero Go.wp_at_succ
/-- What the first row that is not clear says of all rows. -/
def FcIs (good : List Int → Prop) (rows : List (List Int)) (n : Int) : Prop :=
  -1 ≤ n ∧ n < (rows.length : Int) ∧ ∀ k : Nat, k < rows.length → (good (rows.getD k []) → (k : Int) ≠ n) ∧ (¬ good (rows.getD k []) → 0 ≤ n ∧ n ≤ (k : Int))
theorem fcIs (good : List Int → Prop) (rows : List (List Int)) : FcIs good rows (firstV good rows 0) := by
  rcases firstV_is good rows 0 (by omega) with ⟨h1, h2⟩ | ⟨j, h1, h2, h3, h4⟩
  · rw [h1]
    exact ⟨by omega, by omega, fun k hk => ⟨fun _ => by omega, fun q => absurd (h2 k hk) q⟩⟩
  · rw [h2, Int.zero_add]
    refine ⟨by omega, by omega, fun k hk => ⟨fun q e => ?_, fun q => ⟨by omega, ?_⟩⟩⟩
    · have : k = j := by omega
      subst this; exact h3 q
    · by_cases hkj : k < j
      · exact absurd (h4 k hkj) q
      · omega
set_option maxHeartbeats 8000000 in
theorem walkFnFirstContact (w : World) (tab : TabAt w) (a : Option Addr) (len cap : Nat) (zs : List Int) (h : Bytes w a len cap zs) :
    Calls Tryd.prog 5 #[.slice a len cap] w fun e w' => e = .returned (.bool true) ∧ Below w.heap.size w w' := by
  have hle := h.len_le
  obtain ⟨hl, hm⟩ := hle
  unfold maxLen at hm
  by_cases hbig : 1048576 < len
  · clear tab
    go_enter Tryd.func5, Tryd.ntmps5
    go_wp2
    go_ret
    exact ⟨rfl, Below.refl _ _⟩
  have HT := Lib.hid tab
  clear tab
  go_enter Tryd.func5, Tryd.ntmps5
  go_wp2_with fail
  refine (drawFirstContact w a len cap zs h).mono ?_
  rintro e w0 ⟨⟨xa, xl, xc⟩, ⟨ya, yl, yc⟩, ⟨za, zl, zc⟩, ⟨ra, rl, rc⟩, ⟨sa, sl, sc⟩, ls, lo, hi, rows, pss, rfl, ⟨i1, i2, i3, i4, i5⟩, ⟨lx, ly, lz, lr, lsl⟩, hcap, hb⟩
  simp only at i1 i2 i3 i4 i5 lx ly lz lr lsl hcap
  clear h hl hm hbig hcap
  have Bx := below_box w0 (.cells #[.slice xa xl xc, .slice ya yl yc, .slice za zl zc] 25)
  have HB := Lib.hid (below_call hb Bx)
  have HX := Lib.hid (AtA.box w0 (.slice xa xl xc) (.slice ya yl yc) (.slice za zl zc) 25)
  have HI := Lib.hid (And.intro (i1.next Bx) (And.intro (i2.next Bx) (And.intro (i3.next Bx) (And.intro (i4.next Bx) (i5.next Bx)))))
  have HRL := Lib.hid i4.1
  clear i1 i2 i3 i4 i5 hb Bx
  go_upto_region 4 with fail
  generalize w0.alloc (.cells #[.slice xa xl xc, .slice ya yl yc, .slice za zl zc] 25) = w1 at *
  generalize w0.heap.size = vp at *
  have HTB := Lib.hid (fun (u : World) (hu : Below w1.heap.size w1 u) => HT.out.below (below_call HB.out hu) HT.out.lt)
  obtain ⟨n, hn⟩ : ∃ n, fcV ls lo hi rows pss = n := ⟨_, rfl⟩
  have HNN := Lib.hid hn
  have e0 : (n != n) = false := by simp
  clear hn
  obtain ⟨_, c0, c1, c2, _, _, _⟩ := HX.out
  have HIM := Lib.hid (implFirstContact ⟨xa, xl, xc⟩ ⟨ya, yl, yc⟩ ⟨za, zl, zc⟩ ⟨ra, rl, rc⟩ ⟨sa, sl, sc⟩ ls lo hi rows pss w1 (HTB.out w1 (Below.refl _ _)) HI.out.1 HI.out.2.1 HI.out.2.2.1 HI.out.2.2.2.1 HI.out.2.2.2.2 (by simp only; omega) (by simp only; omega) (by simp only; omega) (by simp only; omega) (by simp only; omega))
  rw [HNN.out] at HIM
  go_wp2_with fail
  refine HIM.out.mono ?_
  rintro e w2 ⟨rfl, B2⟩
  have HW2 := Lib.hid B2
  clear c0 c1 c2 B2 HIM
  obtain ⟨_, c0, c1, c2, _, _, _⟩ := HX.out.next HW2.out
  have HSP := Lib.hid (specFirstContact ⟨xa, xl, xc⟩ ⟨ya, yl, yc⟩ ⟨za, zl, zc⟩ ⟨ra, rl, rc⟩ ⟨sa, sl, sc⟩ ls lo hi rows pss w2 (HI.out.1.next HW2.out) (HI.out.2.1.next HW2.out) (HI.out.2.2.1.next HW2.out) (HI.out.2.2.2.1.next HW2.out) (HI.out.2.2.2.2.next HW2.out) (by simp only; omega) (by simp only; omega) (by simp only; omega) (by simp only; omega) (by simp only; omega))
  rw [HNN.out] at HSP
  go_wp2_with fail
  refine HSP.out.mono ?_
  rintro e w3 ⟨rfl, B3⟩
  have HW3 := Lib.hid (below_call HW2.out B3)
  clear c0 c1 c2 B3 HSP
  obtain ⟨_, c0, c1, c2, _, _, _⟩ := HX.out.next HW3.out
  have HAV := Lib.hid (specArmValid ⟨xa, xl, xc⟩ ⟨ya, yl, yc⟩ ⟨za, zl, zc⟩ ls lo hi w3 (HI.out.1.next HW3.out) (HI.out.2.1.next HW3.out) (HI.out.2.2.1.next HW3.out) (by simp only; omega) (by simp only; omega) (by simp only; omega))
  by_cases hk : okArm ls lo hi
  rotate_left
  · rw [decide_eq_false hk] at HAV
    obtain rfl : n = -2 := by rw [← HNN.out]; exact fcV_out (fun q => hk q.1)
    have e2 : ((-2 : Int) == -2) = true := rfl
    clear hk
    go_wp2_with fail
    refine HAV.out.mono ?_
    rintro e w4 ⟨rfl, B4⟩
    have HW4 := Lib.hid (below_call HW3.out B4)
    clear c0 c1 c2 B4 HAV
    go_wp2_with fail
    refine (alive _).mono ?_
    rintro e w' ⟨rfl, rfl⟩
    go_wp2
    go_ret
    exact ⟨rfl, below_call HB.out HW4.out⟩
  rw [decide_eq_true hk] at HAV
  go_wp2_with fail
  refine HAV.out.mono ?_
  rintro e w4 ⟨rfl, B4⟩
  have HW4 := Lib.hid (below_call HW3.out B4)
  clear c0 c1 c2 B4 HAV
  have HSV := Lib.hid (specSceneValid sa sl sc pss w4 (HI.out.2.2.2.2.next HW4.out) (by omega))
  by_cases hs : scnV pss
  rotate_left
  · rw [decide_eq_false hs] at HSV
    obtain rfl : n = -2 := by rw [← HNN.out]; exact fcV_out (fun q => hs q.2.1)
    have e2 : ((-2 : Int) == -2) = true := rfl
    clear hs hk
    go_wp2_with fail
    refine HSV.out.mono ?_
    rintro e w5 ⟨rfl, B5⟩
    have HW5 := Lib.hid (below_call HW4.out B5)
    clear B5 HSV
    go_wp2_with fail
    refine (alive _).mono ?_
    rintro e w' ⟨rfl, rfl⟩
    go_wp2
    go_ret
    exact ⟨rfl, below_call HB.out HW5.out⟩
  rw [decide_eq_true hs] at HSV
  have HFC := Lib.hid (show FcIs (okRow ls lo hi pss) rows n from by
    rw [← HNN.out, fcV_in hk hs (by rw [← HRL.out]; omega)]
    exact fcIs _ _)
  have HSS := Lib.hid hs
  clear hs hk
  have g4 : ¬ ((rl : Int) > 400) := by omega
  have g5 : decide ((rl : Int) > 400) = false := decide_eq_false g4
  have g6 : decide (400 < rl) = false := decide_eq_false (by omega)
  go_wp2_with fail
  refine HSV.out.mono ?_
  rintro e w5 ⟨rfl, B5⟩
  have HW5 := Lib.hid (below_call HW4.out B5)
  clear B5 HSV
  go_wp2
  clear g4 g5 g6
  go_loopw [7] (fun kv wr => ∃ k : Nat, k ≤ rl ∧ kv = .int .i64 (k : Int) ∧ Hid (Below w1.heap.size w1 wr)) (fun kv _ => rl - (intOf kv).toNat)
  case atStart => exact ⟨0, Nat.zero_le _, rfl, HW5⟩
  case round =>
    obtain ⟨k, hk, rfl, HW⟩ := hrel
    clear HW5
    by_cases hlt : k < rl
    · have HR1 := Lib.hid (HI.out.2.2.2.1.next HW.out)
      obtain ⟨b2, rfl, lt, hcc⟩ := HR1.out.some (by omega)
      obtain ⟨t, d1, I1, I2⟩ := hcc k hlt
      have j1 : (0 : Int) ≤ (k : Int) := by omega
      have j2 : (k : Int) < (rl : Int) := by omega
      have v0 := keptCell lt d1
      unfold slQ at v0
      obtain ⟨u0, u1, u2⟩ := (HX.out.next HW.out).kepts
      have HCL := Lib.hid (fun (v : Bool) (hv : decide (armV ls lo hi (rows.getD k []) pss) = v) (q : Kept wr) => keptCall (show Calls Tryd.prog 10 #[av ⟨xa, xl, xc⟩ ⟨ya, yl, yc⟩ ⟨za, zl, zc⟩, .slice t.a t.len t.cap, .slice sa sl sc] q.u fun e w' => e = .returned (.bool v) ∧ Below q.u.heap.size q.u w' from
        hv ▸ implArmClear ⟨xa, xl, xc⟩ ⟨ya, yl, yc⟩ ⟨za, zl, zc⟩ t ⟨sa, sl, sc⟩ ls lo hi (rows.getD k []) pss q.u (HTB.out q.u (below_call HW.out q.b)) (HI.out.1.next (below_call HW.out q.b)) (HI.out.2.1.next (below_call HW.out q.b)) (HI.out.2.2.1.next (below_call HW.out q.b)) (I1.next q.b) (HI.out.2.2.2.2.next (below_call HW.out q.b)) (by simp only; omega) (by simp only; omega) (by simp only; omega) I2 (by simp only; omega)))
      have HFK := Lib.hid (HFC.out.2.2 k (by rw [← HRL.out]; exact hlt))
      clear hcc d1 I1
      by_cases hg : okRow ls lo hi pss (rows.getD k [])
      · have HX2 := Lib.hid (HCL.out true (decide_eq_true ((armV_row HSS.out).2 hg)))
        have hne := HFK.out.1 hg
        have g1 : ((k : Int) == n) = false := by simpa using hne
        clear hg hne HCL HFK
        go_upto_region 12 with fail
        refine wp_region_kept (by kernel_rfl) (by kernel_rfl) ?_
        repeat (go_big_quiet_step ((first | (go_at_call 10; with_reducible exact HX2.out _))))
        refine wpQuiet_nil ?_
        rintro w6 ⟨⟨_, K6⟩, rfl⟩
        have HW6 := Lib.hid (below_call HW.out K6)
        clear u0 u1 u2 v0 K6 HX2
        go_wp2
        go_roundw
        case rel => exact ⟨k + 1, by omega, by congr 1, HW6⟩
        case measure => simp [intOf]; omega
      · have HX2 := Lib.hid (HCL.out false (decide_eq_false (fun q => hg ((armV_row HSS.out).1 q))))
        obtain ⟨n0, n1⟩ := HFK.out.2 hg
        have g1 : ¬ (n < 0) := by omega
        have g2 : ¬ ((k : Int) < n) := by omega
        have g3 : decide (n < 0) = false := decide_eq_false g1
        have g4 : decide ((k : Int) < n) = false := decide_eq_false g2
        clear hg HCL HFK n0 n1
        go_upto_region 12 with fail
        refine wp_region_kept (by kernel_rfl) (by kernel_rfl) ?_
        repeat (go_big_quiet_step ((first | (go_at_call 10; with_reducible exact HX2.out _))))
        refine wpQuiet_nil ?_
        rintro w6 ⟨⟨_, K6⟩, rfl⟩
        have HW6 := Lib.hid (below_call HW.out K6)
        clear u0 u1 u2 v0 K6 HX2
        go_wp2
        go_roundw
        case rel => exact ⟨k + 1, by omega, by congr 1, HW6⟩
        case measure => simp [intOf]; omega
    · obtain rfl : k = rl := by omega
      have h1 : -1 ≤ n := HFC.out.1
      have h2 : n < (k : Int) := by have := HFC.out.2.1; rw [← HRL.out] at this; exact this
      have g1 : decide (-1 ≤ n) = true := decide_eq_true h1
      have g2 : decide (n < (k : Int)) = true := decide_eq_true h2
      have g3 : decide (n ≥ -1) = true := g1
      go_wp2
      go_ret
      exact ⟨rfl, below_call HB.out HW.out⟩
end Go.Proofs.YtcifokihellcdaaDoor
