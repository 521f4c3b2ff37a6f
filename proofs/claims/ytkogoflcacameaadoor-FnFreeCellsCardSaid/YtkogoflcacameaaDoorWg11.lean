/- The walk of the law on free cells. -/
import Derived.Test.YtkogoflcacameaaDoorDs11
import Derived.Test.YtkogoflcacameaaDoorIf11
import Derived.Test.YtkogoflcacameaaDoorSk11
import Derived.Deep.RegionHeld3
namespace Go.Proofs.YtkogoflcacameaaDoor
set_option maxRecDepth 100000
open Go.RowKit
attribute [local go_sem ↓] Go.wp_at_zero Go.wp_at_succ
theorem GotF.said {ls lo hi : List Int} {step : Int} {pss : List (List P2)} {w w' : World} {e : Ending} (h : GotF ls lo hi step pss w e w') : SaidF (freeT ls lo hi step pss) w e w' := by
  obtain ⟨hb, ⟨hn, rfl⟩ | ⟨hk, g, vs, bk, rfl, hg, hM⟩⟩ := h
  · exact ⟨⟨none, 0, 0⟩, rfl, by rw [freeT_out hn]; exact ⟨rfl, .inl rfl⟩, hb⟩
  · exact ⟨⟨some ⟨g, 0, none⟩, _, _⟩, rfl, hM.rsa (freeT_len hk).symm (fun i hi => by
      rw [freeT_rl hk hi]
      have := grid_pos hk.1
      rw [gridX_in hk.1, gridY_in hk.1] at this
      omega), hb⟩
theorem freeT_arm {ls lo hi : List Int} {step : Int} {pss : List (List P2)} (h : okGrid ls lo hi step ∧ scnV pss) {i j : Nat} (hi2 : i < (cellsN lo hi step 0).toNat) (hj : j < (cellsN lo hi step 1).toNat) :
    decide (armV ls lo hi (jointsV ls lo hi step ((i : Int), (j : Int))) pss) = ((freeT ls lo hi step pss).getD i []).getD j false := by
  obtain ⟨hc, hd⟩ := freeT_dec h hi2 hj
  rw [← hd, jointsV_in hc]
  exact decide_eq_decide.2 (armV_row h.2)
theorem keepF7 {w u : World} {b f g p q m i j n : Nat} {x y z s t v v' : Value} (h : Below w.heap.size w u) (hb : b < w.heap.size) (hf : f < w.heap.size) (hg : g < w.heap.size) (hp : p < w.heap.size) (hq : q < w.heap.size)
    (h0 : w.cell? ⟨b, 0, none⟩ = some x) (h1 : w.cell? ⟨b, 1, none⟩ = some y) (h2 : w.cell? ⟨b, 2, none⟩ = some z) (h3 : w.cell? ⟨f, m, none⟩ = some s) (h4 : w.cell? ⟨g, n, none⟩ = some t) (h5 : w.cell? ⟨p, i, none⟩ = some v) (h6 : w.cell? ⟨q, j, none⟩ = some v') :
    u.cell? ⟨b, 0, none⟩ = some x ∧ u.cell? ⟨b, 1, none⟩ = some y ∧ u.cell? ⟨b, 2, none⟩ = some z ∧ u.cell? ⟨f, m, none⟩ = some s ∧ u.cell? ⟨g, n, none⟩ = some t ∧ u.cell? ⟨p, i, none⟩ = some v ∧ u.cell? ⟨q, j, none⟩ = some v' :=
  ⟨(h.cell (p := ⟨b, 0, none⟩) hb).trans h0, (h.cell (p := ⟨b, 1, none⟩) hb).trans h1, (h.cell (p := ⟨b, 2, none⟩) hb).trans h2, (h.cell (p := ⟨f, m, none⟩) hf).trans h3, (h.cell (p := ⟨g, n, none⟩) hg).trans h4, (h.cell (p := ⟨p, i, none⟩) hp).trans h5, (h.cell (p := ⟨q, j, none⟩) hq).trans h6⟩
set_option maxHeartbeats 8000000 in
theorem walkFnFreeCells (w : World) (tab : TabAt w) (a : Option Addr) (len cap : Nat) (zs : List Int) (h : Bytes w a len cap zs) :
    Calls Tryd.prog 3 #[.slice a len cap] w fun e w' => e = .returned (.bool true) ∧ Below w.heap.size w w' := by
  have hle := h.len_le
  obtain ⟨hl, hm⟩ := hle
  unfold maxLen at hm
  by_cases hbig : 1048576 < len
  · clear tab
    go_enter Tryd.func3, Tryd.ntmps3
    go_wp2
    go_ret
    exact ⟨rfl, Below.refl _ _⟩
  have HT := Lib.hid tab
  clear tab
  go_enter Tryd.func3, Tryd.ntmps3
  go_wp2_with fail
  refine (drawFreeCells w a len cap zs h).mono ?_
  rintro e w0 ⟨⟨xa, xl, xc⟩, ⟨ya, yl, yc⟩, ⟨za, zl, zc⟩, ⟨sa, sl, sc⟩, ls, lo, hi, st, pss, rfl, ⟨i1, i2, i3, i4⟩, ⟨lx, ly, lz, lsl⟩, ⟨s0, s1⟩, hb⟩
  simp only at i1 i2 i3 i4 lx ly lz lsl
  clear h hl hm hbig
  have Bx := below_box w0 (.cells #[.slice xa xl xc, .slice ya yl yc, .slice za zl zc] 25)
  have HB := Lib.hid (below_call hb Bx)
  have HX := Lib.hid (AtA.box w0 (.slice xa xl xc) (.slice ya yl yc) (.slice za zl zc) 25)
  have HI := Lib.hid (And.intro (i1.next Bx) (And.intro (i2.next Bx) (And.intro (i3.next Bx) (i4.next Bx))))
  clear i1 i2 i3 i4 hb Bx
  go_upto_region 4 with fail
  generalize w0.alloc (.cells #[.slice xa xl xc, .slice ya yl yc, .slice za zl zc] 25) = w1 at *
  generalize w0.heap.size = vp at *
  have HTB := Lib.hid (fun (u : World) (hu : Below w1.heap.size w1 u) => HT.out.below (below_call HB.out hu) HT.out.lt)
  have HIM := Lib.hid (implFreeCells ⟨xa, xl, xc⟩ ⟨ya, yl, yc⟩ ⟨za, zl, zc⟩ ⟨sa, sl, sc⟩ ls lo hi st pss w1 (HTB.out w1 (Below.refl _ _)) HI.out.1 HI.out.2.1 HI.out.2.2.1 HI.out.2.2.2 (by simp only; omega) (by simp only; omega) (by simp only; omega) (by simp only; omega))
  obtain ⟨_, c0, c1, c2, _, _, _⟩ := id HX.out
  go_wp2_with fail
  refine HIM.out.mono ?_
  intro e w2 hG
  obtain ⟨⟨fa, fl, fc⟩, rfl, R2, B2⟩ := hG.said
  simp only at R2
  have HR2 := Lib.hid R2
  have HW2 := Lib.hid B2
  clear c0 c1 c2 B2 R2 hG HIM
  obtain ⟨_, c0, c1, c2, _, _, _⟩ := HX.out.next HW2.out
  have HSP := Lib.hid (specFreeCells ⟨xa, xl, xc⟩ ⟨ya, yl, yc⟩ ⟨za, zl, zc⟩ ⟨sa, sl, sc⟩ ls lo hi st pss w2 (HI.out.1.next HW2.out) (HI.out.2.1.next HW2.out) (HI.out.2.2.1.next HW2.out) (HI.out.2.2.2.next HW2.out) (by simp only; omega) (by simp only; omega) (by simp only; omega) (by simp only; omega))
  go_wp2_with fail
  refine HSP.out.mono ?_
  rintro e w3 ⟨⟨wa, wl, wc⟩, rfl, R3, B3⟩
  simp only at R3
  have HR3 := Lib.hid (And.intro (HR2.out.next B3) R3)
  have HW3 := Lib.hid (below_call HW2.out B3)
  clear c0 c1 c2 B3 R3 HSP HR2
  obtain ⟨_, c0, c1, c2, _, _, _⟩ := HX.out.next HW3.out
  have HGS := Lib.hid (implGridSize ⟨xa, xl, xc⟩ ⟨ya, yl, yc⟩ ⟨za, zl, zc⟩ ls lo hi st w3 (HI.out.1.next HW3.out) (HI.out.2.1.next HW3.out) (HI.out.2.2.1.next HW3.out) (by simp only; omega) (by simp only; omega) (by simp only; omega))
  obtain ⟨gx, hgx⟩ : ∃ gx, gridX ls lo hi st = gx := ⟨_, rfl⟩
  obtain ⟨gy, hgy⟩ : ∃ gy, gridY ls lo hi st = gy := ⟨_, rfl⟩
  rw [hgx, hgy] at HGS
  have HGX := Lib.hid (And.intro hgx hgy)
  obtain rfl : wl = fl := by rw [HR3.out.1.1, HR3.out.2.1]
  have e0 : ((wl : Int) != (wl : Int)) = false := by simp
  clear hgx hgy
  go_wp2_with fail
  refine HGS.out.mono ?_
  rintro e w4 ⟨rfl, B4⟩
  have HR4 := Lib.hid (And.intro (HR3.out.1.next B4) (HR3.out.2.next B4))
  have HW4 := Lib.hid (below_call HW3.out B4)
  clear c0 c1 c2 B4 HR3 HGS
  by_cases h0 : wl = 0
  · subst h0
    clear e0
    go_wp2_with fail
    refine (alive _).mono ?_
    rintro e w' ⟨rfl, rfl⟩
    go_wp2
    go_ret
    exact ⟨rfl, below_call HB.out HW4.out⟩
  have hne : ¬ ((wl : Int) = 0) := by omega
  have hne2 : ((wl : Int) == 0) = false := by simp; omega
  have hk : okGrid ls lo hi st ∧ scnV pss := by
    refine Classical.byContradiction fun hn => h0 ?_
    have := HR4.out.1.1
    rw [freeT_out hn] at this
    exact this
  have HKK := Lib.hid hk
  have hpos := grid_pos hk.1
  rw [gridX_in hk.1, gridY_in hk.1] at hpos
  obtain ⟨Y, hY⟩ : ∃ Y : Nat, cellsN lo hi st 1 = (Y : Int) := ⟨(cellsN lo hi st 1).toNat, by omega⟩
  have hX : cellsN lo hi st 0 = (wl : Int) := by
    have := HR4.out.1.1
    rw [freeT_len hk] at this
    omega
  obtain rfl : gx = (wl : Int) := by rw [← HGX.out.1, gridX_in hk.1, hX]
  obtain rfl : gy = (Y : Int) := by rw [← HGX.out.2, gridY_in hk.1, hY]
  have HRL := Lib.hid (fun i (hi2 : i < wl) => show ((freeT ls lo hi st pss).getD i []).length = Y by rw [freeT_rl hk (by omega)]; omega)
  have HAR := Lib.hid (fun i j (hi2 : i < wl) (hj : j < Y) => freeT_arm hk (i := i) (j := j) (by omega) (by omega))
  have hY20 : Y ≤ 20 := by omega
  have hw20 : wl ≤ 20 := by omega
  clear hX hY hk hpos
  generalize freeT ls lo hi st pss = T at *
  have eY : ((Y : Int) != (Y : Int)) = false := by simp
  obtain ⟨bf, rfl, ltf, cf⟩ := HR4.out.1.some (by omega)
  obtain ⟨bw, rfl, ltw, cw⟩ := HR4.out.2.some (by omega)
  have HCF := Lib.hid cf
  have HCW := Lib.hid cw
  have HLT := Lib.hid (And.intro ltf ltw)
  clear cf cw ltf ltw
  go_wp2
  go_loopw [10] (fun iv wr => ∃ k : Nat, k ≤ wl ∧ iv = .int .i64 (k : Int) ∧ Hid (Below w4.heap.size w4 wr)) (fun iv _ => wl - (intOf iv).toNat)
  case atStart => exact ⟨0, Nat.zero_le _, rfl, Lib.hid (Below.refl _ _)⟩
  case round =>
    obtain ⟨k, hk, rfl, HV⟩ := hrel
    by_cases hlt : k < wl
    rotate_left
    · obtain rfl : k = wl := by omega
      go_wp2
      go_ret
      exact ⟨by simp, below_call HB.out (below_call HW4.out HV.out)⟩
    have hk0 : (0 : Int) ≤ (k : Int) := by omega
    have hk1 : (k : Int) < (wl : Int) := by omega
    obtain ⟨⟨ra, rl, rc⟩, d1, I1, I2⟩ := HCF.out k hlt
    obtain ⟨⟨ta, tl, tc⟩, d2, J1, J2⟩ := HCW.out k hlt
    simp only at d1 d2 I1 I2 J1 J2
    obtain rfl : rl = Y := by rw [I1.1, HRL.out k hlt]
    obtain rfl : tl = rl := by rw [J1.1, HRL.out k hlt]
    unfold Bol.slQ at d1 d2
    have d1' := (HV.out.cell (p := ⟨bf, k, none⟩) HLT.out.1).trans d1
    have d2' := (HV.out.cell (p := ⟨bw, k, none⟩) HLT.out.2).trans d2
    have HD := Lib.hid (And.intro d1 d2)
    have HIJ := Lib.hid (And.intro I1 J1)
    clear d1 d2 I1 J1
    go_wp2
    clear d1' d2'
    go_loopw [11] (fun jv wr => ∃ j : Nat, j ≤ tl ∧ jv = .int .i64 (j : Int) ∧ Hid (Below w4.heap.size w4 wr)) (fun jv _ => tl - (intOf jv).toNat)
    case atStart => exact ⟨0, Nat.zero_le _, rfl, HV⟩
    case round =>
      obtain ⟨j, hj, rfl, HU⟩ := hrel
      clear HV
      by_cases hjt : j < tl
      rotate_left
      · obtain rfl : j = tl := by omega
        go_wp2
        go_roundw
        case rel =>
          first
            | exact ⟨k + 1, by omega, by congr 1, HU⟩
            | ((repeat apply Exists.intro)
               refine ⟨?_, rfl⟩
               exact ⟨k + 1, by omega, by congr 1, HU⟩)
        case measure => simp [intOf]; omega
      have hj0 : (0 : Int) ≤ (j : Int) := by omega
      have hj1 : (j : Int) < (tl : Int) := by omega
      obtain ⟨rb, ro, rfl, ltr, cr⟩ := HIJ.out.1.some (by omega)
      obtain ⟨tb, to', rfl, ltt, ct⟩ := HIJ.out.2.some (by omega)
      have x1 := cr j hjt
      have x2 := ct j hjt
      obtain ⟨F, hF⟩ : ∃ F, (T.getD k []).getD j false = F := ⟨_, rfl⟩
      rw [hF] at x1 x2
      have HAV := HAR.out k j hlt hjt
      rw [hF] at HAV
      replace HAV := Lib.hid HAV
      have eF : (F != F) = false := by simp
      have HX4 := HX.out.next HW4.out
      have y0 := (HU.out.cell (p := ⟨vp, 0, none⟩) HX4.lt).trans HX4.c0
      have y1 := (HU.out.cell (p := ⟨vp, 1, none⟩) HX4.lt).trans HX4.c1
      have y2 := (HU.out.cell (p := ⟨vp, 2, none⟩) HX4.lt).trans HX4.c2
      have y3 := (HU.out.cell (p := ⟨bf, k, none⟩) HLT.out.1).trans HD.out.1
      have y4 := (HU.out.cell (p := ⟨bw, k, none⟩) HLT.out.2).trans HD.out.2
      have y5 := (HU.out.cell (p := ⟨rb, ro + j, none⟩) ltr).trans x1
      have y6 := (HU.out.cell (p := ⟨tb, to' + j, none⟩) ltt).trans x2
      have hsz := HU.out.size
      have z0 : vp < wr.heap.size := Nat.lt_of_lt_of_le HX4.lt hsz
      have z1 : bf < wr.heap.size := Nat.lt_of_lt_of_le HLT.out.1 hsz
      have z2 : bw < wr.heap.size := Nat.lt_of_lt_of_le HLT.out.2 hsz
      have z3 : rb < wr.heap.size := Nat.lt_of_lt_of_le ltr hsz
      have z4 : tb < wr.heap.size := Nat.lt_of_lt_of_le ltt hsz
      have HCJ := Lib.hid (fun (u : World) (hu : Below wr.heap.size wr u) => show Calls Tryd.prog 11 #[av ⟨xa, xl, xc⟩ ⟨ya, yl, yc⟩ ⟨za, zl, zc⟩, .int .i64 st, pt (k : Int) (j : Int)] u fun e u' => ∃ q : Sl, e = .returned (.slice q.a q.len q.cap) ∧ Hid (IntsAt u' q.a q.len (jointsV ls lo hi st ((k : Int), (j : Int))) ∧ q.len ≤ 9223372036854775807) ∧ Below wr.heap.size wr u' from
        have hv := below_call HW4.out (below_call HU.out hu)
        (implCellJoints ⟨xa, xl, xc⟩ ⟨ya, yl, yc⟩ ⟨za, zl, zc⟩ ls lo hi st ((k : Int), (j : Int)) u (HI.out.1.next hv) (HI.out.2.1.next hv) (HI.out.2.2.1.next hv) (by simp only; omega) (by simp only; omega) (by simp only; omega)).mono fun e u' ⟨q, he, hq, ho, hb⟩ => ⟨q, he, Lib.hid ⟨OwnI.ints ho, by
          have : (jointsV ls lo hi st ((k : Int), (j : Int))).length ≤ 2 := by
            unfold jointsV; split
            · exact Nat.le_refl _
            · exact Nat.zero_le _
          omega⟩, below_call hu hb⟩)
      have HAC := Lib.hid (fun (u : World) (hu : Below wr.heap.size wr u) (qa : Option Addr) (ql qc : Nat) (hq : Hid (IntsAt u qa ql (jointsV ls lo hi st ((k : Int), (j : Int))) ∧ ql ≤ 9223372036854775807)) => show Calls Tryd.prog 10 #[av ⟨xa, xl, xc⟩ ⟨ya, yl, yc⟩ ⟨za, zl, zc⟩, .slice qa ql qc, .slice sa sl sc] u fun e u' => e = .returned (.bool F) ∧ Below wr.heap.size wr u' from
        have hv := below_call HW4.out (below_call HU.out hu)
        HAV.out ▸ (implArmClear ⟨xa, xl, xc⟩ ⟨ya, yl, yc⟩ ⟨za, zl, zc⟩ ⟨qa, ql, qc⟩ ⟨sa, sl, sc⟩ ls lo hi (jointsV ls lo hi st ((k : Int), (j : Int))) pss u (HTB.out u hv) (HI.out.1.next hv) (HI.out.2.1.next hv) (HI.out.2.2.1.next hv) hq.out.1 (HI.out.2.2.2.next hv) (by simp only; omega) (by simp only; omega) (by simp only; omega) hq.out.2 (by simp only; omega)).mono fun e u' ⟨he, hb⟩ => ⟨he, below_call hu hb⟩)
      have g0 : Below wr.heap.size wr wr := Below.refl _ _
      clear cr ct x1 x2 hF HX4 hsz ltr ltt
      go_wp2
      go_region_held3 (fun u => u.cell? ⟨vp, 0, none⟩ = some (.slice xa xl xc) ∧ u.cell? ⟨vp, 1, none⟩ = some (.slice ya yl yc) ∧ u.cell? ⟨vp, 2, none⟩ = some (.slice za zl zc) ∧ u.cell? ⟨bf, k, none⟩ = some (.slice (some ⟨rb, ro, none⟩) tl rc) ∧ u.cell? ⟨bw, k, none⟩ = some (.slice (some ⟨tb, to', none⟩) tl tc) ∧ u.cell? ⟨rb, ro + j, none⟩ = some (.bool F) ∧ u.cell? ⟨tb, to' + j, none⟩ = some (.bool F)) (exact keepF7 (by repeat (first | (with_reducible assumption) | (with_reducible apply Below.drew))) z0 z1 z2 z3 z4 y0 y1 y2 y3 y4 y5 y6) (first
        | (go_at_call 11
           (with_reducible refine (HCJ.out _ (by repeat (first | (with_reducible assumption) | (with_reducible apply Below.drew)))).mono ?_)
           rintro e w9 ⟨⟨qa, ql, qc⟩, rfl, HT9, K9⟩)
        | (go_at_call 10
           refine (HAC.out w9 K9 qa ql qc HT9).mono ?_
           rintro e w10 ⟨rfl, K10⟩))
      have HNX := Lib.hid (below_call HU.out K10)
      clear K10 K9 HT9 g0 y0 y1 y2 y3 y4 y5 y6 z0 z1 z2 z3 z4 HCJ HAC
      go_wp2
      go_roundw
      case rel => exact ⟨j + 1, by omega, by congr 1, HNX⟩
      case measure => simp [intOf]; omega
end Go.Proofs.YtkogoflcacameaaDoor
