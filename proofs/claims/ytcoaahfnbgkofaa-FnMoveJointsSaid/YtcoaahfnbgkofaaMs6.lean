/- MoveJoints of the document. -/
import Derived.Test.YtcoaahfnbgkofaaMi6
import Derived.Test.YtcoaahfnbgkofaaDrawA
namespace Go.Proofs.Ytcoaahfnbgkofaa
set_option maxRecDepth 100000
open Go.RowKit
attribute [local go_sem ↓] Go.wp_at_zero Go.wp_at_succ
/-- A slice of numbers that lies in a block other than ob. -/
def RowIn (w : World) (s : Sl) (zs : List Int) (ob : Option Nat) : Prop :=
  s.len = zs.length ∧ ∃ b off, s.a = some ⟨b, off, none⟩ ∧ b < w.heap.size ∧ some b ≠ ob ∧ ∀ i, i < zs.length → w.cell? ⟨b, off + i, none⟩ = some (.int .i64 (zs.getD i 0))
theorem RowIn.ints {w : World} {s : Sl} {zs : List Int} {ob : Option Nat} (h : RowIn w s zs ob) : IntsAt w s.a s.len zs := by
  obtain ⟨h1, b, off, h2, h3, _, h5⟩ := h
  exact ⟨h1, .inr ⟨b, off, h2, h3, h5⟩⟩
theorem RowIn.next {w w' : World} {s : Sl} {zs : List Int} {ob : Option Nat} (h : RowIn w s zs ob) (hb : Below w.heap.size w w') : RowIn w' s zs ob := by
  obtain ⟨h1, b, off, h2, h3, h4, h5⟩ := h
  exact ⟨h1, b, off, h2, Nat.lt_of_lt_of_le h3 hb.size, h4, fun i hi => (hb.cell (p := ⟨b, off + i, none⟩) h3).trans (h5 i hi)⟩
theorem RowIn.app {w w' : World} {s : Sl} {zs : List Int} {ob : Option Nat} {g : Nat} (h : RowIn w s zs ob) (hg : w.grownBy w' ob) (hgb : ob = some g ∨ g = w.heap.size) : RowIn w' s zs (some g) := by
  obtain ⟨h1, b, off, h2, h3, h4, h5⟩ := h
  refine ⟨h1, b, off, h2, Nat.lt_of_lt_of_le h3 hg.size, ?_, fun i hi => (World.cell?_of_block (a := ⟨b, off + i, none⟩) (hg.block b h3 h4)).trans (h5 i hi)⟩
  rcases hgb with q | q
  · rw [← q]; exact h4
  · intro e; injection e with e; omega
/-- A slice as a value. -/
def slV (s : Sl) : Value := .slice s.a s.len s.cap
theorem ownSS_empty (w : World) (T : TypeId) (hT : T = 23) : (w.alloc (.cells #[] T)).ownsRow w.heap.size 23 1 (.slice (some ⟨w.heap.size, 0, none⟩) 0 0) 0 (([] : List Sl).map slV) := by
  subst hT
  have := World.ownsRow_lit (base := w.heap.size) (e := 23) (size := 1) w #[] 0 (Nat.le_refl _) (Nat.zero_le _) rfl
  simpa using this
theorem OwnI.rowIn {w : World} {B : Nat} {s : Sl} {zs : List Int} {ob : Option Nat} (h : OwnI w B (.slice s.a s.len s.cap) zs) (hl : 1 ≤ s.len) (hob : ∀ k, ob = some k → k < B) : RowIn w s zs ob := by
  have hi := h.ints
  obtain ⟨b, off, h1, h2, h3⟩ := hi.some hl
  refine ⟨hi.1, b, off, h1, h2, fun e => ?_, fun i hlt => h3 i (by rw [hi.1]; exact hlt)⟩
  have h4 := hob b e.symm
  rcases h.2 with ⟨hv, hn⟩ | ⟨g, c, cur, hv, hb, _⟩
  · simp only [Value.slice.injEq] at hv; omega
  · simp only [Value.slice.injEq] at hv
    rw [h1] at hv
    have : b = g := by have := hv.1; injection this with this; injection this
    omega
/-- k rows in a slice of the call's own, and the speeds beside it. -/
def OutR (B : Nat) (fs ts ps : List Int) (d : Int) (P : Sl) (k : Nat) (ov : Value) (wr : World) : Prop :=
  ∃ ss : List Sl, ss.length = k ∧ wr.ownsRow B 23 1 ov k (ss.map slV) ∧ (∀ i, i < k → RowIn wr (ss.getD i ⟨none, 0, 0⟩) (rowA fs ts (partS ps (i + 1)) d) ov.ownBlock) ∧ (1 ≤ P.len → RowIn wr P ps ov.ownBlock)
/-- What the document's MoveJoints says. -/
def MovedS (vs : List (List Int)) (w : World) (e : Ending) (w' : World) : Prop :=
  ∃ s : Sl, e = .returned (.slice s.a s.len s.cap) ∧ s.len = vs.length ∧ RowsAt w' s.a s.len vs ∧ Below w.heap.size w w'
theorem rowA_take (fs ts : List Int) (p d : Int) (j : Nat) (h : j < fs.length) : vals ((rowA fs ts p d).take (j + 1)) = vals ((rowA fs ts p d).take j) ++ [.int .i64 (angA (fs.getD j 0) (ts.getD j 0) p d)] := by
  have hl : j < (rowA fs ts p d).length := by rw [rowA_len]; exact h
  have e := rowA_at fs ts p d j h
  rw [List.getD_eq_getElem?_getD, List.getElem?_eq_getElem hl] at e
  simp only [Option.getD_some] at e
  rw [List.take_succ_eq_append_getElem hl, vals_snoc, e]
set_option maxHeartbeats 4000000 in
theorem specMoveIn (x y z a b : Sl) (ls lo hi fs ts : List Int) (t r : Int) (w : World) (hx : IntsAt w x.a x.len ls) (hy : IntsAt w y.a y.len lo) (hz : IntsAt w z.a z.len hi) (ha : IntsAt w a.a a.len fs) (hb : IntsAt w b.a b.len ts) (bx : x.len ≤ 9223372036854775807) (b_y : y.len ≤ 9223372036854775807) (bz : z.len ≤ 9223372036854775807) (ba : a.len ≤ 9223372036854775807) (bb : b.len ≤ 9223372036854775807) (h : okMv ls lo hi fs ts t r) :
    Calls Try.prog 12 #[av x y z, .slice a.a a.len a.cap, .slice b.a b.len b.cap, .int .i64 t, .int .i64 r] w (MovedS (rowsA fs ts (profV (mostV fs ts) t r) (mostV fs ts)) w) := by
  obtain ⟨i0, hi0, hz0, hz1, hz2⟩ := info_parts infoInt
  obtain ⟨i9, hi9, hy0, hy1, hy2⟩ := info_parts infoSl
  have SP := spd_of h
  have HLN := Lib.hid h.1.len
  have HH := Lib.hid (And.intro h.1.1.half h.1.2.half)
  have HMO := Lib.hid h.1.most
  have HGT := Lib.hid (fun (u : World) (hu : Below w.heap.size w u) => l6Most a b fs ts u (ha.next hu) (hb.next hu) (by have := HLN.out; omega) (by have := HLN.out; omega) (by have := HLN.out; omega) HH.out.1 HH.out.2)
  have HOK := Lib.hid (fun (u : World) (hu : Below w.heap.size w u) => l6Ok x y z a b ls lo hi fs ts t r u (hx.next hu) (hy.next hu) (hz.next hu) (ha.next hu) (hb.next hu) bx b_y bz ba bb)
  rw [decide_eq_true h] at HOK
  have HMP := Lib.hid (fun (u : World) => specMotionProfile (mostV fs ts) t r u)
  generalize mostV fs ts = d at *
  generalize profV d t r = ps at *
  have W2 := Lib.hid (below_box2 w (.cells #[.slice x.a x.len x.cap, .slice y.a y.len y.cap, .slice z.a z.len z.cap] 25) (.cells #[] 23))
  have P := (AtA.box w (.slice x.a x.len x.cap) (.slice y.a y.len y.cap) (.slice z.a z.len z.cap) 25).alloc (.cells #[] 23)
  have O := ownSS_empty (w.alloc (.cells #[.slice x.a x.len x.cap, .slice y.a y.len y.cap, .slice z.a z.len z.cap] 25)) 23 rfl
  rw [show (w.alloc (.cells #[.slice x.a x.len x.cap, .slice y.a y.len y.cap, .slice z.a z.len z.cap] 25)).heap.size = w.heap.size + 1 by simp] at O
  obtain ⟨aa, al, ac⟩ := a
  obtain ⟨ba', bl, bc⟩ := b
  simp only at *
  have m1 := ha.1
  have m2 := hb.1
  obtain ⟨b1, o1, rfl, lt1, c1⟩ := ha.some (by have := HLN.out; omega)
  obtain ⟨b2, o2, rfl, lt2, c2⟩ := hb.some (by have := HLN.out; omega)
  have HF := Lib.hid (fun i (hi : i < al) => HH.out.1 i (by omega))
  have HT := Lib.hid (fun i (hi : i < al) => HH.out.2 i (by have := HLN.out; omega))
  have HC1 := Lib.hid (fun i (hi : i < al) => c1 i (by omega))
  have HC2 := Lib.hid (fun i (hi : i < al) => c2 i (by have := HLN.out; omega))
  have HRT := Lib.hid (fun p j (hj : j < al) => rowA_take fs ts p d j (by omega))
  have HRL := Lib.hid (fun p => (rowA_len fs ts p d).trans m1.symm)
  have HRA := Lib.hid (fun k hk => rowsA_at fs ts ps d k hk)
  have HRN := Lib.hid (rowsA_len fs ts ps d)
  have HSP := Lib.hid SP
  have hm1 : 1 ≤ al := by have := HLN.out; omega
  have hm4 : al ≤ 4 := by have := HLN.out; omega
  have hd4 : d ≤ 360 := HMO.out.2
  obtain rfl : bl = al := by have := HLN.out; omega
  clear h ha hb hx hy hz c1 c2 m1 m2 SP HLN HH HMO
  obtain ⟨_, a0, a1, a2, _, _, _⟩ := id P
  go_enter Try.func12, Try.ntmps12
  go_wp2_with fail
  refine (HOK.out _ W2.out).mono ?_
  rintro e u1 ⟨rfl, B1⟩
  replace O := O.kept (row := none) ⟨B1.os, B1.tape, B1.output, B1.size, fun k hk _ => B1.block k hk⟩ (by simp [Value.ownBlock])
  replace W2 := Lib.hid (below_call W2.out B1)
  clear B1 a0 a1 a2 P HOK
  go_wp2_with fail
  refine (HGT.out _ W2.out).mono ?_
  rintro e u2 ⟨rfl, B2⟩
  replace O := O.kept (row := none) ⟨B2.os, B2.tape, B2.output, B2.size, fun k hk _ => B2.block k hk⟩ (by simp [Value.ownBlock])
  replace W2 := Lib.hid (below_call W2.out B2)
  clear B2 HGT
  have HOB := Lib.hid (World.ownsRow.lt O (w.heap.size + 1) rfl).2
  go_wp2_with fail
  refine (HMP.out _).mono ?_
  rintro e u3 ⟨⟨pa, pl, pc⟩, rfl, l3, O3, B3⟩
  replace O := O.kept (row := none) ⟨B3.os, B3.tape, B3.output, B3.size, fun k hk _ => B3.block k hk⟩ (by simp [Value.ownBlock])
  replace W2 := Lib.hid (below_call W2.out B3)
  simp only at l3 O3
  have HPR : Hid (1 ≤ pl → RowIn u3 ⟨pa, pl, pc⟩ ps (some (w.heap.size + 1))) := Lib.hid fun q => OwnI.rowIn (s := ⟨pa, pl, pc⟩) O3 q (fun k hk => by injection hk with hk; have := HOB.out; omega)
  have HPN := Lib.hid (show pl = ps.length from l3)
  have hpl : pl ≤ 360 := by have := HSP.out.len; omega
  clear B3 O3 l3 HMP
  go_wp2
  go_loopw [11, 14, 15] (fun ov pv iv wr => ∃ k : Nat, k ≤ pl ∧ pv = .int .i64 (partS ps k) ∧ iv = .int .i64 (k : Int) ∧ Hid (OutR (w.heap.size + 1) fs ts ps d ⟨pa, pl, pc⟩ k ov wr) ∧ Hid (Below w.heap.size w wr)) (fun _ _ iv _ => pl - (intOf iv).toNat)
  case atStart => exact ⟨0, Nat.zero_le _, by rw [partS_zero], rfl, Lib.hid ⟨[], rfl, O, fun i hi => by omega, HPR.out⟩, W2⟩
  case round =>
    obtain ⟨k, hk, rfl, rfl, HOR, HW⟩ := hrel
    obtain ⟨ss, hsl0, ho0, hrs0, hp0⟩ := HOR.out
    have HSL := Lib.hid hsl0
    have HO := Lib.hid ho0
    have HRS := Lib.hid hrs0
    have HP := Lib.hid hp0
    clear HOR hsl0 ho0 hrs0 hp0
    clear O HPR W2
    by_cases hlt : k < pl
    · obtain ⟨hz, b3, o3, hpa, lt3, ne3, c3⟩ := HP.out (by simp only; omega)
      simp only at hpa
      subst hpa
      clear hz
      have d3 := c3 k (by have := HPN.out; omega)
      have HPK := Lib.hid (partS_succ ps k (by have := HPN.out; omega))
      obtain ⟨x1, x2⟩ := HSP.out.one k (by have := HPN.out; omega)
      obtain ⟨p1, p2⟩ := HSP.out.sum k (by have := HPN.out; omega)
      obtain ⟨p3, p4⟩ := HSP.out.sum (k + 1) (by have := HPN.out; omega)
      rw [HPK.out] at p3 p4
      have d0 := HSP.out.pos (by have := HPN.out; omega)
      have j1 : (0 : Int) ≤ (k : Int) := by omega
      have j2 : (k : Int) < (pl : Int) := by omega
      generalize hpk : partS ps k = pk at *
      generalize ps.getD k 0 = x at *
      replace hpk := Lib.hid hpk
      clear c3
      have OI := ownI_empty wr 3 rfl
      have BI := below_box wr (.cells #[] 3)
      go_upto_region 13 with fail
      clear d3
      generalize hpx : pk + x = px at *
      replace hpx := Lib.hid hpx
      generalize hwo : wr = wo at *
      clear hwo
      have OI2 : (wo.alloc (.cells #[] 3)).ownsRow wo.heap.size 3 1 (.slice (some ⟨wo.heap.size, 0, none⟩) 0 0) 0 (vals ((rowA fs ts px d).take 0)) := OI
      clear OI
      go_loopw [16, 17] (fun rv iv wr => ∃ j : Nat, j ≤ bl ∧ iv = .int .i64 (j : Int) ∧ Hid (wr.ownsRow wo.heap.size 3 1 rv j (vals ((rowA fs ts px d).take j))) ∧ Hid (Below wo.heap.size wo wr)) (fun _ iv _ => bl - (intOf iv).toNat)
      case atStart => exact ⟨0, Nat.zero_le _, rfl, Lib.hid OI2, Lib.hid BI⟩
      case round =>
        obtain ⟨j, hj, rfl, HI, HV⟩ := hrel
        clear OI2 BI
        have HWV := Lib.hid (below_call HW.out HV.out)
        by_cases hj2 : j < bl
        · have e1 := keptCell (Nat.lt_of_lt_of_le lt1 HWV.out.size) ((HWV.out.cell (p := ⟨b1, o1 + j, none⟩) lt1).trans (HC1.out j hj2))
          have e2 := keptCell (Nat.lt_of_lt_of_le lt2 HWV.out.size) ((HWV.out.cell (p := ⟨b2, o2 + j, none⟩) lt2).trans (HC2.out j hj2))
          have HTK := Lib.hid (HRT.out px j hj2)
          obtain ⟨f1, f2⟩ := HF.out j hj2
          obtain ⟨t1, t2⟩ := HT.out j hj2
          generalize fs.getD j 0 = xf at *
          generalize ts.getD j 0 = xt at *
          obtain ⟨g1, g2⟩ := angA_in (f := xf) (t := xt) (p := px) (d := d) p3 p4 d0
          have HSH := Lib.hid (fun (q : Kept wr) => keptSame (l6Share (xt - xf) px d q.u (by omega) ⟨p3, p4⟩ ⟨d0, hd4⟩))
          have hsh := shV_ang xf xt px d
          generalize shV (xt - xf) px d = sh at *
          generalize angA xf xt px d = an at *
          have o3' : IntKind.i64.wrap (xt - xf) = xt - xf := IntWalk.i64_in _ (by omega)
          have o4' : IntKind.i64.wrap (xf + sh) = an := by rw [hsh]; exact IntWalk.i64_in _ (by omega)
          replace hsh := Lib.hid hsh
          have k1 : (0 : Int) ≤ (j : Int) := by omega
          have k2 : (j : Int) < (bl : Int) := by omega
          go_upto_region 15 with fail
          refine wp_region_app 17 (by kernel_rfl) rfl rfl (by kernel_rfl) ?_
          simp only [List.take_succ_cons, List.take_zero, List.drop_succ_cons, List.drop_zero]
          repeat (go_big_quiet_step ((go_at_call 52; with_reducible exact HSH.out _)))
          refine wpQuiet_nil ?_
          rintro w6 ⟨⟨_, K6⟩, rfl⟩
          clear e1 e2 HSH
          have HI6 := Lib.hid ((World.ownsRow.kept (row := none) HI.out ⟨K6.os, K6.tape, K6.output, K6.size, fun k hk _ => K6.block k hk⟩ (by cases Value.ownBlock _ <;> simp)).alloc (.cells #[.int .i64 an] 3))
          have HN := Lib.hid (cell_one_new' w6 (.int .i64 an) 3)
          have HV6 := Lib.hid (below_call (below_call HV.out K6) (below_box w6 (.cells #[.int .i64 an] 3)))
          have HRB := Lib.hid (fun q hq => (World.ownsRow.lt HI6.out q hq).1)
          clear K6
          go_wp2_with (at_builtin; refine wpList_append_lies _ rfl (.tmp 53) (.tmp 71) 23 rfl wo.heap.size 3 i0 (.int .i64 0) 1 8 Try.underlying23 hi0 hz0 hz1 hz2 rfl (by decide) _ j (vals ((rowA fs ts px d).take j)) rfl HI6.out ⟨w6.heap.size, 0, none⟩ 1 1 [.int .i64 an] rfl rfl HN.out (by intro u hu; simp at hu; subst hu; rfl) (by omega) (by unfold maxLen; omega) (by omega) HV6.out.size _ rfl ?_; intro g7 cap7 w7 own7 grow7 at7 ltg7; have HA7 := Lib.hid (And.intro own7 grow7); clear own7 grow7 at7 ltg7)
          have HI7 := Lib.hid HA7.out.1
          rw [← HTK.out] at HI7
          have HV7 := Lib.hid (HV6.out.grown HA7.out.2 HV6.out.size HRB.out)
          refine NoPanic.normal ?_
          go_wp2
          go_roundw
          case rel => exact ⟨j + 1, by omega, by congr 1, HI7, HV7⟩
          case measure => simp [intOf]; omega
        · obtain rfl : j = bl := by omega
          have k2 : ¬ ((j : Int) < (j : Int)) := by omega
          have hrl := HRL.out px
          have o := HI.out
          rw [List.take_of_length_le (by omega)] at o
          have OR : OwnI wr wo.heap.size u16 (rowA fs ts px d) := by unfold OwnI; rw [hrl]; exact o
          obtain ⟨⟨ra, rl, rc⟩, rfl, e1, e2⟩ := OR.slv
          simp only at e1 OR
          have HOW := Lib.hid (fun q hq => (World.ownsRow.lt HO.out q hq).2)
          have HRN2 := Lib.hid (OwnI.rowIn (s := ⟨ra, rl, rc⟩) (ob := Value.ownBlock u11) OR (by simp only; omega) (fun q hq => HOW.out q hq))
          have Bb := below_box wr (.cells #[.slice ra rl rc] 23)
          have HB2 := Lib.hid (below_call HV.out Bb)
          have HOa := Lib.hid (HO.out.kept (row := none) ⟨HB2.out.os, HB2.out.tape, HB2.out.output, HB2.out.size, fun k hk _ => HB2.out.block k hk⟩ (by cases Value.ownBlock _ <;> simp))
          have HRSa := Lib.hid (fun i hi => (HRS.out i hi).next HB2.out)
          have HPa := Lib.hid (fun q => (HP.out q).next HB2.out)
          have HRN3 := Lib.hid (HRN2.out.next Bb)
          have HWa := Lib.hid (below_call HW.out HB2.out)
          have HN := Lib.hid (cell_one_new' wr (.slice ra rl rc) 23)
          have HH := Lib.hid (show w.heap.size + 1 ≤ (wr.alloc (.cells #[.slice ra rl rc] 23)).heap.size by have h1 := HWV.out.size; simp; omega)
          have HRB := Lib.hid (fun q hq => (World.ownsRow.lt HOa.out q hq).1)
          clear OR o hrl e1 e2 Bb HRN2
          go_wp2_with (at_builtin; refine wpList_append_lies _ rfl (.tmp 73) (.tmp 75) 28 rfl (w.heap.size + 1) 23 i9 (.slice none 0 0) 1 24 Try.underlying28 hi9 hy0 hy1 hy2 rfl (by decide) _ k (ss.map slV) rfl HOa.out ⟨wr.heap.size, 0, none⟩ 1 1 [.slice ra rl rc] rfl rfl HN.out (by intro u hu; simp at hu; subst hu; rfl) (by omega) (by unfold maxLen; omega) (by omega) HH.out _ rfl ?_; intro g7 cap7 w7 own7 grow7 at7 ltg7; have HA7 := Lib.hid (And.intro own7 (And.intro grow7 at7)); clear own7 grow7 at7 ltg7)
          have HW7 := Lib.hid (HWa.out.grown HA7.out.2.1 HWa.out.size (fun q hq => by have := HRB.out q hq; omega))
          have HO7 := Lib.hid (show w7.ownsRow (w.heap.size + 1) 23 1 (.slice (some ⟨g7, 0, none⟩) (k + 1) cap7) (k + 1) ((ss ++ [(⟨ra, rl, rc⟩ : Sl)]).map slV) by rw [List.map_append]; exact HA7.out.1)
          have HRS7 : Hid (∀ i, i < k + 1 → RowIn w7 ((ss ++ [(⟨ra, rl, rc⟩ : Sl)]).getD i ⟨none, 0, 0⟩) (rowA fs ts (partS ps (i + 1)) d) (some g7)) := Lib.hid (fun i hi => by
            have hsl := HSL.out
            by_cases q : i < k
            · rw [List.getD_eq_getElem?_getD, List.getElem?_append_left (by omega), ← List.getD_eq_getElem?_getD]
              exact (HRSa.out i q).app HA7.out.2.1 HA7.out.2.2
            · obtain rfl : i = k := by omega
              rw [List.getD_eq_getElem?_getD, List.getElem?_append_right (by omega), hsl, Nat.sub_self, HPK.out]
              exact HRN3.out.app HA7.out.2.1 HA7.out.2.2)
          have HP7 := Lib.hid (fun q => (HPa.out q).app HA7.out.2.1 HA7.out.2.2)
          go_roundw
          case rel => exact ⟨k + 1, by omega, by rw [HPK.out], by congr 1, Lib.hid ⟨ss ++ [(⟨ra, rl, rc⟩ : Sl)], by rw [List.length_append, HSL.out]; rfl, HO7.out, HRS7.out, HP7.out⟩, HW7⟩
          case measure => simp [intOf]; omega
    · obtain rfl : k = pl := by omega
      have j2 : ¬ ((k : Int) < (k : Int)) := by omega
      have HFIN : Hid (MovedS (rowsA fs ts ps d) w (.returned u11) wr) := Lib.hid (by
        have hpn := HPN.out
        rcases HO.out.2 with ⟨h1, h2⟩ | ⟨b, cap, cur, h1, h2, _⟩
        · exact ⟨⟨none, 0, 0⟩, by rw [h1], by rw [HRN.out, ← hpn, h2], ⟨by rw [HRN.out, ← hpn, h2], .inl (List.eq_nil_of_length_eq_zero (by rw [HRN.out, ← hpn, h2]))⟩, HW.out⟩
        · have o := HO.out
          rw [h1] at o
          have hrs := HRS.out
          refine ⟨⟨some ⟨b, 0, none⟩, k, cap⟩, by rw [h1], by rw [HRN.out, ← hpn], ⟨by rw [HRN.out, ← hpn], .inr ⟨b, rfl, (World.ownsRow.lt o b rfl).2, fun i hi => ?_⟩⟩, HW.out⟩
          rw [HRN.out, ← hpn] at hi
          have c := o.cellAt i (by omega)
          have hsl := HSL.out
          have hss : i < ss.length := by omega
          rw [List.getElem?_map, List.getElem?_eq_getElem hss] at c
          refine ⟨ss[i], c, ?_⟩
          rw [HRA.out i (by omega)]
          have r := (hrs i hi).ints
          rw [List.getD_eq_getElem?_getD, List.getElem?_eq_getElem hss] at r
          exact r)
      clear HO HRS HP HSL
      go_wp2
      go_ret
      exact HFIN.out
theorem specMoveJoints (x y z a b : Sl) (ls lo hi fs ts : List Int) (t r : Int) (w : World) (hx : IntsAt w x.a x.len ls) (hy : IntsAt w y.a y.len lo) (hz : IntsAt w z.a z.len hi) (ha : IntsAt w a.a a.len fs) (hb : IntsAt w b.a b.len ts) (bx : x.len ≤ 9223372036854775807) (b_y : y.len ≤ 9223372036854775807) (bz : z.len ≤ 9223372036854775807) (ba : a.len ≤ 9223372036854775807) (bb : b.len ≤ 9223372036854775807) :
    Calls Try.prog 12 #[av x y z, .slice a.a a.len a.cap, .slice b.a b.len b.cap, .int .i64 t, .int .i64 r] w (MovedS (moveV ls lo hi fs ts t r) w) := by
  by_cases h : okMv ls lo hi fs ts t r
  · rw [moveV_in h]; exact specMoveIn x y z a b ls lo hi fs ts t r w hx hy hz ha hb bx b_y bz ba bb h
  · rw [moveV_out h]
    have W2 := Lib.hid (below_box2 w (.cells #[.slice x.a x.len x.cap, .slice y.a y.len y.cap, .slice z.a z.len z.cap] 25) (.cells #[] 23))
    have P := (AtA.box w (.slice x.a x.len x.cap) (.slice y.a y.len y.cap) (.slice z.a z.len z.cap) 25).alloc (.cells #[] 23)
    obtain ⟨_, a0, a1, a2, _, _, _⟩ := id P
    have HOK := Lib.hid (l6Ok x y z a b ls lo hi fs ts t r _ (hx.next W2.out) (hy.next W2.out) (hz.next W2.out) (ha.next W2.out) (hb.next W2.out) bx b_y bz ba bb)
    rw [decide_eq_false h] at HOK
    clear h hx hy hz ha hb P
    go_enter Try.func12, Try.ntmps12
    go_wp2_with fail
    refine HOK.out.mono ?_
    rintro e u1 ⟨rfl, B1⟩
    replace W2 := Lib.hid (below_call W2.out B1)
    clear B1 a0 a1 a2 HOK
    go_wp2
    go_ret
    exact ⟨⟨some ⟨w.heap.size + 1, 0, none⟩, 0, 0⟩, rfl, rfl, ⟨rfl, .inl rfl⟩, W2.out⟩
end Go.Proofs.Ytcoaahfnbgkofaa
