/- The rows of a motion, as the program makes them: cut from one backing slice. -/
import Derived.Test.YtcoaahfnbgkofaaAn6
import Derived.Test.YtcoaahfnbgkofaaRw6
import Derived.Test.YtcoaahfnbgkofaaMt6
namespace Go.Proofs.Ytcoaahfnbgkofaa
set_option maxRecDepth 100000
open Go.RowKit
attribute [local go_sem ↓] Go.wp_at_zero Go.wp_at_succ
/-- A cell of the backing slice. -/
def flatC (fs ts ps : List Int) (d : Int) (wd j : Nat) : Int := angA (fs.getD (j % wd) 0) (ts.getD (j % wd) 0) (partS ps (j / wd + 1)) d
theorem flatC_at (fs ts ps : List Int) (d : Int) (wd k i : Nat) (h : i < wd) : flatC fs ts ps d wd (k * wd + i) = angA (fs.getD i 0) (ts.getD i 0) (partS ps (k + 1)) d := by
  unfold flatC
  rw [show (k * wd + i) % wd = i by rw [Nat.mul_comm, Nat.mul_add_mod]; exact Nat.mod_eq_of_lt h, show (k * wd + i) / wd = k by rw [Nat.mul_comm, Nat.mul_add_div (by omega), Nat.div_eq_of_lt h]; omega]
/-- The rows as values: n slices of width wd, one behind the other in block g. -/
def rowVs (g wd n : Nat) : List Value := (List.range n).map fun (k : Nat) => Value.slice (some ⟨g, k * wd, none⟩) wd wd
theorem rowVs_len (g wd n : Nat) : (rowVs g wd n).length = n := by simp [rowVs]
theorem rowVs_snoc (g wd n : Nat) : rowVs g wd (n + 1) = rowVs g wd n ++ [.slice (some ⟨g, n * wd, none⟩) wd wd] := by simp [rowVs, List.range_succ]
theorem rowVs_at (g wd n k : Nat) (h : k < n) : (rowVs g wd n)[k]? = some (.slice (some ⟨g, k * wd, none⟩) wd wd) := by
  unfold rowVs; rw [List.getElem?_map, List.getElem?_range h]; rfl
/-- Rows of the call's own, all in one backing block. -/
def OwnRows (w : World) (B : Nat) (v : Value) (wd n : Nat) (c : Nat → Int) : Prop :=
  (n = 0 ∧ v = .slice none 0 0) ∨ ∃ g b cap, v = .slice (some ⟨b, 0, none⟩) n cap ∧ g ≠ b ∧ w.ownsRow B 3 1 (.slice (some ⟨g, 0, none⟩) (n * wd) (n * wd)) (n * wd) (cpart c (fun _ => 0) (n * wd) (n * wd)) ∧ w.ownsRow B 23 1 v n (rowVs g wd n)
theorem OwnRows.next {w w' : World} {B : Nat} {v : Value} {wd n : Nat} {c : Nat → Int} (h : OwnRows w B v wd n c) (hb : Below w.heap.size w w') : OwnRows w' B v wd n c := by
  rcases h with h | ⟨g, b, cap, h1, h2, h3, h4⟩
  · exact .inl h
  · have hg : w.grownBy w' none := ⟨hb.os, hb.tape, hb.output, hb.size, fun k hk _ => hb.block k hk⟩
    exact .inr ⟨g, b, cap, h1, h2, h3.kept hg (by cases Value.ownBlock _ <;> simp), h4.kept hg (by cases Value.ownBlock _ <;> simp)⟩
theorem infoSl : (Try.prog.info? 23).map (fun i => (i.zero, i.size, i.bytes)) = some (some (.slice none 0 0), 1, 24) := by kernel_rfl
theorem madeI6 (f : Nat → Int) (n : Nat) : (madeCells (Value.int .i64 0).cells (n * 1)).toList = cpart f (fun _ => 0) n 0 := by
  unfold cpart madeCells
  show (Array.map _ (Array.range (n * 1))).toList = _
  rw [Array.toList_map, Array.toList_range, Nat.mul_one]
  apply List.map_congr_left
  intro j _
  show (#[Value.int .i64 0] : Array Value)[j % 1]! = _
  rw [Nat.mod_one]
  simp
set_option maxHeartbeats 4000000 in
theorem moveRows (a b s : Sl) (fs ts ps : List Int) (d : Int) (w : World) (ha : IntsAt w a.a a.len fs) (hb : IntsAt w b.a b.len ts) (hs : IntsAt w s.a s.len ps) (hl : fs.length = ts.length) (hn : 1 ≤ fs.length) (hn4 : fs.length ≤ 4) (hf : half fs) (ht : half ts)
    (hm : mostV fs ts = d) (hone : ∀ k, k < ps.length → 1 ≤ ps.getD k 0 ∧ ps.getD k 0 ≤ 200) (hsum : ∀ k, k ≤ ps.length → 0 ≤ partS ps k ∧ partS ps k ≤ d) (hpos : 1 ≤ ps.length → 0 < d) (hd : d ≤ 360) (hlen : ps.length ≤ 360) :
    Calls Try.prog 46 #[.slice a.a a.len a.cap, .slice b.a b.len b.cap, .slice s.a s.len s.cap] w fun e w' => ∃ v, e = .returned v ∧ OwnRows w' w.heap.size v fs.length ps.length (flatC fs ts ps d fs.length) ∧ Below w.heap.size w w' := by
  obtain ⟨i0, hi0, hz0, hz1, hz2⟩ := info_parts infoInt
  obtain ⟨i9, hi9, hy0, hy1, hy2⟩ := info_parts infoSl
  have HGT := Lib.hid (greatestTurn a b fs ts w ha hb hl hn hn4 hf ht)
  obtain ⟨aa, al, ac⟩ := a
  obtain ⟨ba, bl, bc⟩ := b
  obtain ⟨sa, sl, sc⟩ := s
  simp only at *
  rw [hm] at HGT
  have m1 := ha.1
  have m2 := hb.1
  have m3 := hs.1
  obtain ⟨b1, o1, rfl, lt1, c1⟩ := ha.some (by omega)
  obtain ⟨b2, o2, rfl, lt2, c2⟩ := hb.some (by omega)
  have HF := Lib.hid (fun i (hi : i < al) => hf i (by omega))
  have HT := Lib.hid (fun i (hi : i < al) => ht i (by omega))
  have HC1 := Lib.hid (fun i (hi : i < al) => c1 i (by omega))
  have HC2 := Lib.hid (fun i (hi : i < al) => c2 i (by omega))
  have HPS := Lib.hid (fun k (hk : k < sl) => partS_succ ps k (by omega))
  have HON := Lib.hid (fun k (hk : k < sl) => hone k (by omega))
  have HSU := Lib.hid (fun k (hk : k ≤ sl) => hsum k (by omega))
  have HP0 := Lib.hid (partS_zero ps)
  have HPO := Lib.hid (fun (q : 1 ≤ sl) => hpos (by omega))
  have HFL := Lib.hid (fun k i (h : i < al) => flatC_at fs ts ps d al k i h)
  rw [← m1, ← m3]
  obtain rfl : bl = al := by omega
  have w4 : bl ≤ 4 := by omega
  have n4 : sl ≤ 360 := by omega
  have w1' : 1 ≤ bl := by omega
  have hbig : sl * bl ≤ 1440 := Nat.le_trans (Nat.mul_le_mul n4 w4) (by decide)
  obtain ⟨N, hN⟩ : ∃ N, sl * bl = N := ⟨_, rfl⟩
  have oN : IntKind.i64.wrap ((bl : Int) * (sl : Int)) = (N : Int) := by
    rw [show (bl : Int) * (sl : Int) = (N : Int) by rw [← hN, Int.natCast_mul, Int.mul_comm]]
    exact IntWalk.i64_in _ (by omega)
  rw [hN] at hbig
  have HNN := Lib.hid hN
  have HM := Lib.hid (madeI6 (flatC fs ts ps d bl) N)
  have HCS := Lib.hid (fun q => cpart_set (flatC fs ts ps d bl) (fun _ => 0) N q)
  generalize flatC fs ts ps d bl = C at *
  have HS3 := Lib.hid hs
  clear ha hb hs hl hn hn4 hf ht hm hone hsum hpos hlen c1 c2 m1 m2 m3 hN
  go_enter Try.func46, Try.ntmps46
  go_wp2_with fail
  refine HGT.out.mono ?_
  rintro e w1 ⟨rfl, B1⟩
  have HW1 := Lib.hid B1
  clear B1 HGT
  go_wp2_with (first
    | (at_make; refine wpList_make_full _ rfl _ _ 23 rfl w1.heap.size 3 i0 (.int .i64 0) 1 Try.underlying23 hi0 hz0 hz1 .i64 .i64 _ _ N rfl rfl (by omega) (by omega) (by rw [hz2]; omega) (by unfold maxLen; omega) (Nat.le_refl _) ?_; intro w2 own2 grow2))
  have OB : w2.ownsRow w1.heap.size 3 1 (.slice (some ⟨w1.heap.size, 0, none⟩) N N) N (cpart C (fun _ => 0) N (0 * bl)) := by rw [Nat.zero_mul, ← HM.out]; exact own2
  have HG2 : Below w1.heap.size w1 w2 := (Below.refl _ _).grown grow2 (Nat.le_refl _) (fun k hk => by cases hk)
  have HW2 := Lib.hid (below_call HW1.out HG2)
  have hg2 : w1.heap.size < w2.heap.size := (World.ownsRow.lt OB _ rfl).2
  have hgw : w.heap.size ≤ w1.heap.size := HW1.out.size
  clear own2 grow2 HG2
  generalize w1.heap.size = g at *
  clear HW1 HM
  go_loopw [9, 10, 11, 28] (fun pv bk rv iv wr => ∃ k : Nat, k ≤ sl ∧ pv = .int .i64 (partS ps k) ∧ iv = .int .i64 (k : Int) ∧ (k < sl → bk = .slice (some ⟨g, k * bl, none⟩) (N - k * bl) (N - k * bl)) ∧ (k = 0 → rv = .slice none 0 0) ∧ Hid (wr.ownsRow g 3 1 (.slice (some ⟨g, 0, none⟩) N N) N (cpart C (fun _ => 0) N (k * bl))) ∧ Hid (wr.ownsRow (g + 1) 23 1 rv k (rowVs g bl k)) ∧ Hid (Below w.heap.size w wr)) (fun _ _ _ iv _ => sl - (intOf iv).toNat)
  case atStart => exact ⟨0, Nat.zero_le _, by rw [HP0.out], rfl, fun _ => by simp, fun _ => rfl, Lib.hid OB, Lib.hid (World.ownsRow_nil _ _ _ _), HW2⟩
  case round =>
    obtain ⟨k, hk, rfl, rfl, hbk, hrv, HO, HR, HW⟩ := hrel
    clear OB HW2
    by_cases hlt : k < sl
    · obtain rfl := hbk hlt
      obtain ⟨b3, o3, rfl, lt3, c3⟩ := HS3.out.some (by omega)
      have d3 : wr.cell? ⟨b3, o3 + k, none⟩ = _ := (HW.out.cell (p := ⟨b3, o3 + k, none⟩) lt3).trans (c3 k (by omega))
      have HPK := Lib.hid (HPS.out k hlt)
      obtain ⟨x1, x2⟩ := HON.out k hlt
      obtain ⟨p1, p2⟩ := HSU.out k hk
      obtain ⟨p3, p4⟩ := HSU.out (k + 1) (by omega)
      rw [HPK.out] at p3 p4
      have d0 := HPO.out (by omega)
      have hrow : k * bl + bl ≤ N := by have := HNN.out; have h2 := Nat.mul_le_mul_right bl (show k + 1 ≤ sl by omega); rw [Nat.add_mul, Nat.one_mul] at h2; omega
      obtain ⟨rem, hrem⟩ : ∃ rem, N - k * bl = rem := ⟨_, rfl⟩
      have hrem2 : bl ≤ rem := by omega
      rw [hrem]
      have HREM := Lib.hid (show k * bl + rem = N by omega)
      have HLAST := Lib.hid (show k + 1 < sl → bl < rem from fun q => by have := HNN.out; have h2 := Nat.mul_le_mul_right bl (show k + 1 + 1 ≤ sl by omega); rw [Nat.add_mul, Nat.add_mul, Nat.one_mul] at h2; omega)
      have HNEXT := Lib.hid (show k + 1 < sl → N - (k + 1) * bl = rem - bl from fun q => by rw [Nat.add_mul, Nat.one_mul]; omega)
      have j1 : (0 : Int) ≤ (k : Int) := by omega
      have j2 : (k : Int) < (sl : Int) := by omega
      have j3 : (bl : Int) ≤ (rem : Int) := by omega
      clear hbk hrem c3
      generalize hpk : partS ps k = pk at *
      generalize ps.getD k 0 = x at *
      replace hpk := Lib.hid hpk
      clear hrow
      go_upto_region 11 with fail
      all_goals
        clear d3 x1 x2
        generalize hpx : pk + x = px at *
        replace hpx := Lib.hid hpx
        go_loopw [44] (fun iv wr => ∃ j : Nat, j ≤ bl ∧ iv = .int .i64 (j : Int) ∧ Hid (wr.ownsRow g 3 1 (.slice (some ⟨g, 0, none⟩) N N) N (cpart C (fun _ => 0) N (k * bl + j))) ∧ Hid (wr.ownsRow (g + 1) 23 1 u11 k (rowVs g bl k)) ∧ Hid (Below w.heap.size w wr)) (fun iv _ => bl - (intOf iv).toNat)
        case atStart => exact ⟨0, Nat.zero_le _, rfl, HO, HR, HW⟩
        case round =>
          clear HO HR HW
          obtain ⟨j, hj, rfl, HO, HR, HW⟩ := hrel
          by_cases hj2 : j < bl
          · have e1 := keptCell (Nat.lt_of_lt_of_le lt1 HW.out.size) ((HW.out.cell (p := ⟨b1, o1 + j, none⟩) lt1).trans (HC1.out j hj2))
            have e2 := keptCell (Nat.lt_of_lt_of_le lt2 HW.out.size) ((HW.out.cell (p := ⟨b2, o2 + j, none⟩) lt2).trans (HC2.out j hj2))
            have HA := Lib.hid (fun (q : Kept wr) => keptSame (angleAfter (fs.getD j 0) (ts.getD j 0) px d q.u (HF.out j hj2) (HT.out j hj2) ⟨p3, p4⟩ ⟨d0, hd⟩))
            have HV := Lib.hid (show C (k * bl + j) = angA (fs.getD j 0) (ts.getD j 0) px d by rw [HFL.out k j hj2, HPK.out])
            generalize fs.getD j 0 = xf at *
            generalize ts.getD j 0 = xt at *
            have k1 : (0 : Int) ≤ (j : Int) := by omega
            have k2 : (j : Int) < (bl : Int) := by omega
            have hjn : k * bl + j < N := by have := HREM.out; omega
            go_upto_region 13 with fail
            refine wp_region_ktail 14 (by kernel_rfl) (by kernel_rfl) ?_
            simp only [List.take_succ_cons, List.take_zero, List.drop_succ_cons, List.drop_zero]
            repeat (go_big_quiet_step ((go_at_call 70; with_reducible exact HA.out _)))
            refine wpQuiet_nil ?_
            rintro w6 ⟨⟨_, K6⟩, rfl⟩
            have HO6 := Lib.hid (World.ownsRow.kept (row := none) HO.out ⟨K6.os, K6.tape, K6.output, K6.size, fun k hk _ => K6.block k hk⟩ (.inr (by simp [Value.ownBlock])))
            have HR6 := Lib.hid (World.ownsRow.kept (row := none) HR.out ⟨K6.os, K6.tape, K6.output, K6.size, fun k hk _ => K6.block k hk⟩ (by cases Value.ownBlock _ <;> simp))
            have r1 := HO6.out.cellAt (k * bl + j) (by omega)
            rw [cpart_at _ _ _ _ _ hjn] at r1
            have r2 := HO6.out.frozenAt (k * bl + j)
            have s5 := HO6.out.stored (k * bl + j) (.int .i64 (C (k * bl + j)))
            have HS5 := Lib.hid s5
            rw [HCS.out, HV.out] at HS5
            have HW6 := Lib.hid (below_call HW.out K6)
            clear e1 e2 HA K6 s5
            go_wp2
            go_roundw
            case rel => exact ⟨j + 1, by omega, by congr 1, Lib.hid HS5.out.1, Lib.hid (HR6.out.kept HS5.out.2 (by
              rcases hv : Value.ownBlock u11 with _ | q
              · exact .inl rfl
              · refine .inr fun e => ?_
                injection e with e
                have := (World.ownsRow.lt HR6.out q hv).1
                omega)), Lib.hid (HW6.out.grown HS5.out.2 HW6.out.size (fun q hq => by injection hq with hq; omega))⟩
            case measure => simp [intOf]; omega
          · obtain rfl : j = bl := by omega
            have k2 : ¬ ((j : Int) < (j : Int)) := by omega
            have HRa := Lib.hid (HR.out.alloc (.cells #[.slice (some ⟨g, k * j, none⟩) j j] 23))
            have HOa := Lib.hid (HO.out.alloc (.cells #[.slice (some ⟨g, k * j, none⟩) j j] 23))
            have HN := Lib.hid (cell_one_new' wr (.slice (some ⟨g, k * j, none⟩) j j) 23)
            have HWa := Lib.hid (below_call HW.out (below_box wr (.cells #[.slice (some ⟨g, k * j, none⟩) j j] 23)))
            have hgr : g < wr.heap.size := (World.ownsRow.lt HO.out g rfl).2
            have HH := Lib.hid (show g + 1 ≤ (wr.alloc (.cells #[.slice (some ⟨g, k * j, none⟩) j j] 23)).heap.size by simp; omega)
            go_wp2_with (at_builtin; refine wpList_append_lies _ rfl (.tmp 62) (.tmp 64) 28 rfl (g + 1) 23 i9 (.slice none 0 0) 1 24 Try.underlying28 hi9 hy0 hy1 hy2 rfl (by decide) _ k (rowVs g j k) rfl HRa.out ⟨wr.heap.size, 0, none⟩ 1 1 [.slice (some ⟨g, k * j, none⟩) j j] rfl rfl HN.out (by intro u hu; simp at hu; subst hu; rfl) (by omega) (by unfold maxLen; omega) (by omega) HH.out _ rfl ?_; intro gb cap7 w7 own7 grow7 at7 ltg7; have HA7 := Lib.hid (And.intro own7 grow7); clear own7 grow7 at7 ltg7)
            have HR7 := Lib.hid HA7.out.1
            rw [← rowVs_snoc] at HR7
            have HRB := Lib.hid (fun q hq => (World.ownsRow.lt HRa.out q hq).1)
            have HO7 := Lib.hid (HOa.out.kept HA7.out.2 (.inr (fun e => by have := HRB.out g e.symm; omega)))
            have HW7 := Lib.hid (HWa.out.grown HA7.out.2 HWa.out.size (fun q hq => by have := HRB.out q hq; omega))
            go_roundw
            case rel => exact ⟨k + 1, by omega, by rw [HPK.out], by congr 1, fun q => by
              have h1 := HLAST.out q
              first
                | omega
                | (rw [HNEXT.out q, Nat.add_mul, Nat.one_mul]), fun q => by omega, Lib.hid (by rw [Nat.add_mul, Nat.one_mul]; exact HO7.out), HR7, HW7⟩
            case measure => simp [intOf]; omega
    · obtain rfl : k = sl := by omega
      have j2 : ¬ ((k : Int) < (k : Int)) := by omega
      have HFIN : Hid (OwnRows wr w.heap.size u11 bl k C) := Lib.hid (by
        by_cases hk0 : k = 0
        · exact .inl ⟨hk0, hrv hk0⟩
        · rcases HR.out.2 with ⟨_, h2⟩ | ⟨b, cap, cur, h1, h2, _⟩
          · omega
          · refine .inr ⟨g, b, cap, h1, by omega, ?_, World.ownsRow_down HR.out (by omega)⟩
            have o := World.ownsRow_down HO.out hgw
            rw [← HNN.out] at o
            exact o)
      clear HO HR hrv hbk
      go_wp2
      go_ret
      exact ⟨_, rfl, HFIN.out, HW.out⟩
end Go.Proofs.Ytcoaahfnbgkofaa
