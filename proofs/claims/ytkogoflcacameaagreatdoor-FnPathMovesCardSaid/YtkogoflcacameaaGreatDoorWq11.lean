/- The walk of the law on moves along planned paths. -/
import Derived.Test.YtkogoflcacameaaGreatDoorDs11
import Derived.Test.YtkogoflcacameaaGreatDoorIf11
import Derived.Test.YtkogoflcacameaaGreatDoorSk11
import Derived.Test.YtkogoflcacameaaGreatDoorZc11j
import Derived.Test.YtkogoflcacameaaGreatDoorZb10f
import Derived.Deep.RegionHeld3
import Derived.Deep.AppendLies
import Derived.Maps.AppendAt
namespace Go.Proofs.YtkogoflcacameaaGreatDoor
set_option maxRecDepth 100000
open Go.RowKit
attribute [local go_sem ↓] Go.wp_at_zero Go.wp_at_succ
theorem GotF.said11 {ls lo hi : List Int} {step : Int} {pss : List (List P2)} {w w' : World} {e : Ending} (h : GotF ls lo hi step pss w e w') : SaidF (freeT ls lo hi step pss) w e w' := by
  obtain ⟨hb, ⟨hn, rfl⟩ | ⟨hk, g, vs, bk, rfl, hg, hM⟩⟩ := h
  · exact ⟨⟨none, 0, 0⟩, rfl, by rw [freeT_out hn]; exact ⟨rfl, .inl rfl⟩, hb⟩
  · exact ⟨⟨some ⟨g, 0, none⟩, _, _⟩, rfl, hM.rsa (freeT_len hk).symm (fun i hi => by
      rw [freeT_rl hk hi]
      have := grid_pos hk.1
      rw [gridX_in hk.1, gridY_in hk.1] at this
      omega), hb⟩
theorem infoSlQ : (Tryz.prog.info? 23).map (fun i => (i.zero, i.size, i.bytes)) = some (some (.slice none 0 0), 1, 24) := by kernel_rfl
/-- Rows of numbers of the loop's own. -/
structure ISt (B : Nat) (L : List (List Int)) (k : Nat) (rv : Value) (u : World) : Prop where
  ex : ∃ vs : List Value, u.ownsRow B 23 1 rv k vs ∧ ∀ i, i < k → ∃ s : Sl, vs[i]? = some (.slice s.a s.len s.cap) ∧ OwnI u B (.slice s.a s.len s.cap) (L.getD i []) ∧ ∀ q, (Value.slice s.a s.len s.cap).ownBlock = some q → rv.ownBlock ≠ some q
theorem ISt.next {B k : Nat} {L : List (List Int)} {rv : Value} {u u' : World} (h : ISt B L k rv u) (hb : Below u.heap.size u u') : ISt B L k rv u' := by
  obtain ⟨vs, h1, h2⟩ := h.ex
  exact ⟨⟨vs, rowAway h1 (Below.grownN hb) (fun k e => by cases e), fun i hi => by
    obtain ⟨s, e1, e2, e3⟩ := h2 i hi
    exact ⟨s, e1, OwnI.next e2 hb, e3⟩⟩⟩
theorem ISt.push {B k g7 cap7 : Nat} {L : List (List Int)} {rv : Value} {qa : Option Addr} {ql qc : Nat} {vs : List Value} {u u' : World}
    (h2 : ∀ i, i < k → ∃ s : Sl, vs[i]? = some (.slice s.a s.len s.cap) ∧ OwnI u B (.slice s.a s.len s.cap) (L.getD i []) ∧ ∀ q, (Value.slice s.a s.len s.cap).ownBlock = some q → rv.ownBlock ≠ some q) (hvl : vs.length = k)
    (hq : OwnI u B (.slice qa ql qc) (L.getD k [])) (hd : ∀ q, (Value.slice qa ql qc).ownBlock = some q → rv.ownBlock ≠ some q)
    (own : u'.ownsRow B 23 1 (.slice (some ⟨g7, 0, none⟩) (k + 1) cap7) (k + 1) (vs ++ [.slice qa ql qc])) (grow : u.grownBy u' rv.ownBlock) (at7 : rv.ownBlock = some g7 ∨ g7 = u.heap.size) :
    ISt B L (k + 1) (.slice (some ⟨g7, 0, none⟩) (k + 1) cap7) u' := by
  refine ⟨⟨vs ++ [.slice qa ql qc], own, fun i hi => ?_⟩⟩
  by_cases e : i < k
  · obtain ⟨s, e1, e2, e3⟩ := h2 i e
    refine ⟨s, by rw [List.getElem?_append_left (by omega)]; exact e1, rowAway e2 grow (fun q hq e => (e3 q e) hq), fun q hq e => ?_⟩
    have e4 : g7 = q := Option.some.inj e
    subst e4
    rcases at7 with c | c
    · exact e3 g7 hq c
    · have := (World.ownsRow.lt e2 g7 hq).2; omega
  · obtain rfl : i = k := by omega
    refine ⟨⟨qa, ql, qc⟩, by rw [List.getElem?_append_right (by omega), hvl, Nat.sub_self]; rfl, rowAway hq grow (fun q hq e => hd q e hq), fun q hq2 e => ?_⟩
    have e4 : g7 = q := Option.some.inj e
    subst e4
    rcases at7 with c | c
    · exact hd g7 hq2 c
    · have := (World.ownsRow.lt hq g7 hq2).2; omega
theorem ISt.start (u : World) (L : List (List Int)) (t1 : TypeId) (ht : t1 = 23) : ISt u.heap.size L 0 (.slice (some ⟨u.heap.size, 0, none⟩) 0 0) (u.alloc (.cells #[] t1)) := by
  subst ht
  exact ⟨⟨[], World.ownsRow_lit (base := u.heap.size) (e := 23) (size := 1) u #[] 0 (Nat.le_refl _) (Nat.zero_le _) rfl, fun i hi => by omega⟩⟩
theorem ISt.rsa {B k : Nat} {L : List (List Int)} {rv : Value} {u : World} (h : ISt B L k rv u) (hk : k = L.length) (hr : ∀ i, i < k → (L.getD i []).length ≤ 2) : ∃ s : Sl, rv = .slice s.a s.len s.cap ∧ RSA u s.a s.len L ∧ s.len = k := by
  obtain ⟨vs, h1, h2⟩ := h.ex
  rcases h1.2 with ⟨rfl, e0⟩ | ⟨g, c, cur, rfl, hB, hg, _⟩
  · exact ⟨⟨none, 0, 0⟩, rfl, ⟨by simp only; omega, .inl (List.eq_nil_of_length_eq_zero (by omega))⟩, e0.symm⟩
  · refine ⟨⟨some ⟨g, 0, none⟩, k, c⟩, rfl, ⟨hk, .inr ⟨g, rfl, (Array.getElem?_eq_some_iff.1 hg).1, fun i hi => ?_⟩⟩, rfl⟩
    obtain ⟨s, e1, e2, e3⟩ := h2 i (by omega)
    refine ⟨s, (World.ownsRow.cellAt h1 i (by omega)).trans e1, OwnI.ints e2, ?_⟩
    have := (OwnI.ints e2).1
    have := hr i (by omega)
    omega
theorem jointsV_len11 (ls lo hi : List Int) (step : Int) (c : C2) : (jointsV ls lo hi step c).length ≤ 2 := by
  unfold jointsV; split
  · exact Nat.le_refl _
  · exact Nat.zero_le _
theorem keepB4 {w u : World} {b o : Nat} {v0 v1 v2 v3 : Value} (h : Below w.heap.size w u) (hb : b < w.heap.size) (h0 : w.cell? ⟨b, o, none⟩ = some v0) (h1 : w.cell? ⟨b, o + 1, none⟩ = some v1) (h2 : w.cell? ⟨b, o + 2, none⟩ = some v2) (h3 : w.cell? ⟨b, o + 3, none⟩ = some v3) :
    u.cell? ⟨b, o, none⟩ = some v0 ∧ u.cell? ⟨b, o + 1, none⟩ = some v1 ∧ u.cell? ⟨b, o + 2, none⟩ = some v2 ∧ u.cell? ⟨b, o + 3, none⟩ = some v3 :=
  ⟨(h.cell (p := ⟨b, o, none⟩) hb).trans h0, (h.cell (p := ⟨b, o + 1, none⟩) hb).trans h1, (h.cell (p := ⟨b, o + 2, none⟩) hb).trans h2, (h.cell (p := ⟨b, o + 3, none⟩) hb).trans h3⟩
set_option maxHeartbeats 8000000 in
theorem walkFnPathMoves (w : World) (tab : TabAt w) (a : Option Addr) (len cap : Nat) (zs : List Int) (h : Bytes w a len cap zs) (a' : Option Addr) (len' cap' : Nat) (zs' : List Int) (h' : Bytes w a' len' cap' zs') :
    Calls Tryz.prog 3 #[.slice a len cap, .slice a' len' cap'] w fun e w' => e = .returned (.bool true) ∧ Below w.heap.size w w' := by
  obtain ⟨j0, hj0, hy0, hy1, hy2⟩ := info_parts infoSlQ
  have hle := h.len_le
  obtain ⟨hl, hm⟩ := hle
  have hle' := h'.len_le
  obtain ⟨hl', hm'⟩ := hle'
  unfold maxLen at hm hm'
  by_cases hbig : 1048576 < len
  · clear tab
    go_enter Tryz.func3, Tryz.ntmps3
    go_wp2
    go_ret
    exact ⟨rfl, Below.refl _ _⟩
  by_cases hbig' : 1048576 < len'
  · clear tab
    go_enter Tryz.func3, Tryz.ntmps3
    go_wp2
    go_ret
    exact ⟨rfl, Below.refl _ _⟩
  have HT := Lib.hid tab
  have HCO := Lib.hid (h'.code len' (Nat.le_refl _))
  clear tab h'
  go_enter Tryz.func3, Tryz.ntmps3
  go_wp2_with fail
  refine (drawFreeCells w a len cap zs h).mono ?_
  rintro e w0 ⟨⟨xa, xl, xc⟩, ⟨ya, yl, yc⟩, ⟨za, zl, zc⟩, ⟨sa, sl, sc⟩, ls, lo, hi, st, pss, rfl, ⟨i1, i2, i3, i4⟩, ⟨lx, ly, lz, lsl⟩, ⟨s0, s1⟩, hb⟩
  simp only at i1 i2 i3 i4 lx ly lz lsl
  have Bx := below_box w0 (.cells #[.slice xa xl xc, .slice ya yl yc, .slice za zl zc] 25)
  have HB := Lib.hid (below_call hb Bx)
  have HX := Lib.hid (AtA.box w0 (.slice xa xl xc) (.slice ya yl yc) (.slice za zl zc) 25)
  have HI := Lib.hid (And.intro (i1.next Bx) (And.intro (i2.next Bx) (And.intro (i3.next Bx) (i4.next Bx))))
  clear i1 i2 i3 i4 hb Bx h hl hm hbig hl'
  go_upto_region 4 with fail
  generalize w0.alloc (.cells #[.slice xa xl xc, .slice ya yl yc, .slice za zl zc] 25) = w1 at *
  generalize w0.heap.size = vp at *
  have HTB := Lib.hid (fun (u : World) (hu : Below w1.heap.size w1 u) => HT.out.below (below_call HB.out hu) HT.out.lt)
  have HIM := Lib.hid (implFreeCells ⟨xa, xl, xc⟩ ⟨ya, yl, yc⟩ ⟨za, zl, zc⟩ ⟨sa, sl, sc⟩ ls lo hi st pss w1 (HTB.out w1 (Below.refl _ _)) HI.out.1 HI.out.2.1 HI.out.2.2.1 HI.out.2.2.2 (by simp only; omega) (by simp only; omega) (by simp only; omega) (by simp only; omega))
  obtain ⟨_, c0, c1, c2, _, _, _⟩ := id HX.out
  go_wp2_with fail
  refine HIM.out.mono ?_
  intro e w2 hG
  obtain ⟨⟨fa, fl, fc⟩, rfl, R2, B2⟩ := hG.said11
  simp only at R2
  have HR2 := Lib.hid R2
  have HW2 := Lib.hid B2
  clear c0 c1 c2 B2 R2 hG HIM
  obtain ⟨_, c0, c1, c2, _, _, _⟩ := HX.out.next HW2.out
  have HSP := Lib.hid (specFreeCells ⟨xa, xl, xc⟩ ⟨ya, yl, yc⟩ ⟨za, zl, zc⟩ ⟨sa, sl, sc⟩ ls lo hi st pss w2 (HI.out.1.next HW2.out) (HI.out.2.1.next HW2.out) (HI.out.2.2.1.next HW2.out) (HI.out.2.2.2.next HW2.out) (by simp only; omega) (by simp only; omega) (by simp only; omega) (by simp only; omega))
  go_wp2_with fail
  refine HSP.out.mono ?_
  rintro e w3 ⟨⟨wa, wl, wc⟩, rfl, R3, B3⟩
  simp only at R3
  obtain rfl : wl = fl := by rw [HR2.out.1, R3.1]
  have HR3 := Lib.hid (HR2.out.next B3)
  have HW3 := Lib.hid (below_call HW2.out B3)
  clear c0 c1 c2 B3 R3 HSP HR2
  have e0 : ((wl : Int) != (wl : Int)) = false := by simp
  obtain ⟨_, c0, c1, c2, _, _, _⟩ := HX.out.next HW3.out
  have HGS := Lib.hid (implGridSize ⟨xa, xl, xc⟩ ⟨ya, yl, yc⟩ ⟨za, zl, zc⟩ ls lo hi st w3 (HI.out.1.next HW3.out) (HI.out.2.1.next HW3.out) (HI.out.2.2.1.next HW3.out) (by simp only; omega) (by simp only; omega) (by simp only; omega))
  obtain ⟨gx, hgx⟩ : ∃ gx, gridX ls lo hi st = gx := ⟨_, rfl⟩
  obtain ⟨gy, hgy⟩ : ∃ gy, gridY ls lo hi st = gy := ⟨_, rfl⟩
  rw [hgx, hgy] at HGS
  have HGX := Lib.hid (And.intro hgx hgy)
  clear hgx hgy
  go_wp2_with fail
  refine HGS.out.mono ?_
  rintro e w4 ⟨rfl, B4⟩
  have HR4 := Lib.hid (HR3.out.next B4)
  have HW4 := Lib.hid (below_call HW3.out B4)
  clear c0 c1 c2 B4 HR3 HGS e0
  by_cases h0 : wl = 0
  · subst h0
    go_wp2_with fail
    refine (alive _).mono ?_
    rintro e w' ⟨rfl, rfl⟩
    go_wp2
    go_ret
    exact ⟨rfl, below_call HB.out HW4.out⟩
  have hne : ¬ ((wl : Int) = 0) := by omega
  have hne2 : ((wl : Int) == 0) = false := by simp; omega
  by_cases h4 : len' < 4
  · have h41 : (len' : Int) < 4 := by omega
    go_wp2_with fail
    refine (alive _).mono ?_
    rintro e w' ⟨rfl, rfl⟩
    go_wp2
    go_ret
    exact ⟨rfl, below_call HB.out HW4.out⟩
  have h41 : ¬ ((len' : Int) < 4) := by omega
  have hk : okGrid ls lo hi st ∧ scnV pss := by
    refine Classical.byContradiction fun hn => h0 ?_
    have := HR4.out.1
    rw [freeT_out hn] at this
    exact this
  have HKK := Lib.hid hk
  have hpos := grid_pos hk.1
  rw [HGX.out.1, HGX.out.2] at hpos
  have hgx : gx = (wl : Int) := by
    have := HR4.out.1
    rw [freeT_len hk] at this
    rw [← HGX.out.1, gridX_in hk.1] at hpos
    rw [← HGX.out.1, gridX_in hk.1]
    omega
  subst hgx
  have hgy0 : ¬ (gy = 0) := by omega
  have HPC := Lib.hid (fun (a b : C2) => path_clear (ls := ls) (lo := lo) (hi := hi) (step := st) (pss := pss) (a := a) (b := b) hk)
  have hw20 : wl ≤ 20 := by omega
  have HPN := Lib.hid (fun (a b : C2) => show (planV (freeT ls lo hi st pss) a b).length ≤ 400 by
    by_cases e : planV (freeT ls lo hi st pss) a b = []
    · rw [e]; exact Nat.zero_le _
    · exact (plan_valid e).2.2.1)
  clear hk hpos
  generalize freeT ls lo hi st pss = T at *
  rcases HCO.out with hz | ⟨cb, co, rfl, ltc, hc⟩
  · omega
  obtain ⟨z0, a0, b0, d0⟩ := hc 0 (by omega)
  obtain ⟨z1, a1, b1, d1⟩ := hc 1 (by omega)
  obtain ⟨z2, a2, b2, d2⟩ := hc 2 (by omega)
  obtain ⟨z3, a3, b3, d3⟩ := hc 3 (by omega)
  have HBW := Lib.hid (below_call HB.out HW4.out)
  have ltc4 : cb < w4.heap.size := Nat.lt_of_lt_of_le ltc HBW.out.size
  have y0 := (HBW.out.cell (p := ⟨cb, co + 0, none⟩) ltc).trans d0
  have y1 := (HBW.out.cell (p := ⟨cb, co + 1, none⟩) ltc).trans d1
  have y2 := (HBW.out.cell (p := ⟨cb, co + 2, none⟩) ltc).trans d2
  have y3 := (HBW.out.cell (p := ⟨cb, co + 3, none⟩) ltc).trans d3
  rw [Nat.add_zero] at y0
  have v0 : IntKind.i64.wrap z0 = z0 := wrap_in (by omega) (by omega)
  have v1 : IntKind.i64.wrap z1 = z1 := wrap_in (by omega) (by omega)
  have v2 : IntKind.i64.wrap z2 = z2 := wrap_in (by omega) (by omega)
  have v3 : IntKind.i64.wrap z3 = z3 := wrap_in (by omega) (by omega)
  have j0' : (0 : Int) < (len' : Int) := by omega
  have j0n : 0 < len' := by omega
  have j1' : (1 : Int) < (len' : Int) := by omega
  have j2' : (2 : Int) < (len' : Int) := by omega
  have j3' : (3 : Int) < (len' : Int) := by omega
  have HPP := Lib.hid (fun (u : World) (hu : Below w4.heap.size w4 u) => show Calls Tryz.prog 9 #[.slice fa wl fc, pt (z0.tmod (wl : Int)) (z1.tmod gy), pt (z2.tmod (wl : Int)) (z3.tmod gy)] u fun e u' => ∃ q : Sl, e = .returned (.slice q.a q.len q.cap) ∧ Hid (Cel.PtsAt u' q.a q.len (planV T (z0.tmod (wl : Int), z1.tmod gy) (z2.tmod (wl : Int), z3.tmod gy))) ∧ Below w4.heap.size w4 u' from
    (implPlanPath fa wl fc T (z0.tmod (wl : Int), z1.tmod gy) (z2.tmod (wl : Int), z3.tmod gy) u (HR4.out.next hu) (by omega)).mono fun e u' ⟨q, he, hq, ho, hb⟩ => ⟨q, he, Lib.hid ho.ints, below_call hu hb⟩)
  have g0 : Below w4.heap.size w4 w4 := Below.refl _ _
  obtain ⟨PL, hPL⟩ : ∃ PL, planV T (z0.tmod (wl : Int), z1.tmod gy) (z2.tmod (wl : Int), z3.tmod gy) = PL := ⟨_, rfl⟩
  have HFC := Lib.hid (HPC.out (z0.tmod (wl : Int), z1.tmod gy) (z2.tmod (wl : Int), z3.tmod gy))
  have HPL4 := Lib.hid (HPN.out (z0.tmod (wl : Int), z1.tmod gy) (z2.tmod (wl : Int), z3.tmod gy))
  rw [hPL] at HPP HFC HPL4
  clear hPL HPC HPN d0 d1 d2 d3 hc a0 b0 a1 b1 a2 b2 a3 b3 HCO
  go_upto_region 10 with fail
  go_region_held3 (fun u => u.cell? ⟨cb, co, none⟩ = some (.int .u8 z0) ∧ u.cell? ⟨cb, co + 1, none⟩ = some (.int .u8 z1) ∧ u.cell? ⟨cb, co + 2, none⟩ = some (.int .u8 z2) ∧ u.cell? ⟨cb, co + 3, none⟩ = some (.int .u8 z3)) (exact keepB4 (by repeat (first | (with_reducible assumption) | (with_reducible apply Below.drew))) ltc4 y0 y1 y2 y3) (first
    | (go_at_call 9
       (with_reducible refine (HPP.out _ (by repeat (first | (with_reducible assumption) | (with_reducible apply Below.drew)))).mono ?_)
       rintro e w5 ⟨⟨pa, pl, pc⟩, rfl, HP5, K5⟩))
  have HW5 := Lib.hid (below_call HW4.out K5)
  have HPT := Lib.hid HP5.out
  clear y0 y1 y2 y3 v0 v1 v2 v3 j0n j0' j1' j2' j3' K5 HP5 HPP g0
  have HN := Lib.hid (show pl = PL.length from HPT.out.1)
  have hpl : pl ≤ 400 := by rw [HN.out]; exact HPL4.out
  obtain ⟨L, hL⟩ : ∃ L, (PL.map fun c => jointsV ls lo hi st c) = L := ⟨_, rfl⟩
  rw [hL] at HFC
  have HLL := Lib.hid (show L.length = pl by rw [← hL, List.length_map, HN.out])
  have HLK := Lib.hid (fun k (hk : k < pl) => show L.getD k [] = jointsV ls lo hi st (PL.getD k (0, 0)) by
    rw [← hL, List.getD_eq_getElem?_getD, List.getElem?_map, List.getD_eq_getElem?_getD, List.getElem?_eq_getElem (by rw [← HN.out]; exact hk)]; rfl)
  have HLR := Lib.hid (fun i (hi2 : i < pl) => show (L.getD i []).length ≤ 2 by rw [HLK.out i hi2]; exact jointsV_len11 _ _ _ _ _)
  clear hL
  have HS0 := Lib.hid (ISt.start w5 L _ rfl)
  have HB6 := Lib.hid (below_box w5 (.cells #[] 23))
  go_upto_region 12 with fail
  generalize hR : Value.slice (some ⟨w5.heap.size, 0, none⟩) 0 0 = R at *
  generalize w5.alloc (.cells #[] 23) = w6 at *
  clear hR
  go_wp2
  go_loopw [12, 13] (fun rv iv wr => ∃ k : Nat, k ≤ pl ∧ iv = .int .i64 (k : Int) ∧ Hid (ISt w5.heap.size L k rv wr) ∧ Hid (Below w5.heap.size w5 wr)) (fun _ iv _ => pl - (intOf iv).toNat)
  case atStart => exact ⟨0, Nat.zero_le _, rfl, HS0, HB6⟩
  case round =>
    obtain ⟨k, hk, rfl, HS, HV⟩ := hrel
    clear HS0 HB6
    by_cases hlt : k < pl
    rotate_left
    · obtain rfl : k = pl := by omega
      obtain ⟨⟨ra, rl, rc⟩, rfl, hR, hrl⟩ := HS.out.rsa HLL.out.symm HLR.out
      simp only at hrl hR
      subst hrl
      have hW := below_call HW5.out HV.out
      obtain ⟨_, c0, c1, c2, _, _, _⟩ := HX.out.next hW
      have HFCC := Lib.hid (implFirstContact ⟨xa, xl, xc⟩ ⟨ya, yl, yc⟩ ⟨za, zl, zc⟩ ⟨ra, rl, rc⟩ ⟨sa, sl, sc⟩ ls lo hi L pss wr (HTB.out wr hW) (HI.out.1.next hW) (HI.out.2.1.next hW) (HI.out.2.2.1.next hW) hR (HI.out.2.2.2.next hW) (by simp only; omega) (by simp only; omega) (by simp only; omega) (by simp only; omega) (by simp only; omega))
      rw [HFC.out] at HFCC
      have HWW := Lib.hid hW
      clear hR hW
      go_wp2_with fail
      refine HFCC.out.mono ?_
      rintro e w8 ⟨rfl, B8⟩
      have HE := Lib.hid (below_call HB.out (below_call HWW.out B8))
      clear B8 c0 c1 c2
      go_wp2
      go_ret
      exact ⟨rfl, HE.out⟩
    have hk0 : (0 : Int) ≤ (k : Int) := by omega
    have hk1 : (k : Int) < (pl : Int) := by omega
    obtain ⟨pb, rfl, ltp, hc⟩ := HPT.out.some (by omega)
    obtain ⟨x3, x4⟩ := hc k hlt
    have HCE := Lib.hid (HLK.out k hlt)
    obtain ⟨c, hcc⟩ : ∃ c, PL.getD k (0, 0) = c := ⟨_, rfl⟩
    rw [hcc] at x3 x4 HCE
    clear hcc hc
    obtain ⟨_, x0, x1, x2, _, _, _⟩ := HX.out.next HW5.out
    have HK0 := Lib.hid (fun (u : World) (hu : Below w5.heap.size w5 u) => keepA11 hu (HX.out.next HW5.out).lt ltp x0 x1 x2 x3 x4)
    obtain ⟨vs, h1, h2⟩ := HS.out.ex
    have HVL := Lib.hid (show vs.length = k by have := h1.1; simpa using this)
    have HVS := Lib.hid (And.intro h1 h2)
    have HLT := Lib.hid (fun q hq => (World.ownsRow.lt h1 q hq).2)
    have HBw := Lib.hid HV.out.drew
    have HCJ := Lib.hid (fun (u : World) (hu : Below wr.heap.size wr u) => show Calls Tryz.prog 10 #[av ⟨xa, xl, xc⟩ ⟨ya, yl, yc⟩ ⟨za, zl, zc⟩, .int .i64 st, pt c.1 c.2] u fun e u' => ∃ q : Sl, e = .returned (.slice q.a q.len q.cap) ∧ Hid (OwnI u' wr.heap.size (.slice q.a q.len q.cap) (L.getD k [])) ∧ Below wr.heap.size wr u' from
      have hv := below_call HW5.out (below_call HV.out hu)
      (implCellJoints ⟨xa, xl, xc⟩ ⟨ya, yl, yc⟩ ⟨za, zl, zc⟩ ls lo hi st c u (HI.out.1.next hv) (HI.out.2.1.next hv) (HI.out.2.2.1.next hv) (by simp only; omega) (by simp only; omega) (by simp only; omega)).mono fun e u' ⟨q, he, hq, ho, hb⟩ => ⟨q, he, Lib.hid (by rw [HCE.out]; exact OwnI.mono ho hu.size), below_call hu hb⟩)
    have g0 : Below wr.heap.size wr wr := Below.refl _ _
    clear h1 h2 x0 x1 x2 x3 x4 ltp
    go_upto_region 15 with fail
    go_region_held3 (fun u => u.cell? ⟨vp, 0, none⟩ = some (.slice xa xl xc) ∧ u.cell? ⟨vp, 1, none⟩ = some (.slice ya yl yc) ∧ u.cell? ⟨vp, 2, none⟩ = some (.slice za zl zc) ∧ u.cell? ⟨pb, k * 2, none⟩ = some (.int .i64 c.1) ∧ u.cell? ⟨pb, k * 2 + 1, none⟩ = some (.int .i64 c.2)) (first | exact HK0.out _ HBw.out | exact HK0.out _ HB9.out | exact HK0.out _ HB10.out | exact HK0.out _ HB11.out) (first
      | (go_at_call 10
         (with_reducible refine (HCJ.out _ (by repeat (first | (with_reducible assumption) | (with_reducible apply Below.drew)))).mono ?_)
         rintro e w9 ⟨⟨qa, ql, qc⟩, rfl, HQ9, K9⟩
         have HB9 := Lib.hid (below_call HV.out K9)
         have HB10 := Lib.hid (HB9.out.alloc HB9.out.size (.cells #[.slice qa ql qc] 23))
         have Kb := below_call K9 (below_box w9 (.cells #[.slice qa ql qc] 23))
         have HO10 := Lib.hid (rowAway HVS.out.1 (Below.grownN Kb) (fun k e => by cases e))
         have HV10 := Lib.hid (fun i (hi2 : i < k) => show ∃ s : Sl, vs[i]? = some (.slice s.a s.len s.cap) ∧ OwnI (w9.alloc (.cells #[.slice qa ql qc] 23)) w5.heap.size (.slice s.a s.len s.cap) (L.getD i []) ∧ ∀ q, (Value.slice s.a s.len s.cap).ownBlock = some q → u12.ownBlock ≠ some q from by
           obtain ⟨s, e1, e2, e3⟩ := HVS.out.2 i hi2
           exact ⟨s, e1, OwnI.next e2 Kb, e3⟩)
         have HQ10 := Lib.hid (OwnI.mono (OwnI.next HQ9.out (below_box w9 (.cells #[.slice qa ql qc] 23))) HV.out.size)
         have HD10 := Lib.hid (fun q (hq : (Value.slice qa ql qc).ownBlock = some q) => show u12.ownBlock ≠ some q from fun e => by
           have h1 := (World.ownsRow.lt HQ9.out q hq).1
           have h2 := HLT.out q e
           omega)
         have HN10 := Lib.hid (cell_one_new w9 (.slice qa ql qc) 23)
         clear Kb)
      | (refine step_append_lies _ rfl (.tmp 90) (.tmp 98) 38 rfl w5.heap.size 23 j0 (.slice none 0 0) 1 24 Tryz.underlying38 hj0 hy0 hy1 hy2 rfl (by decide) u12 k vs rfl HO10.out ⟨w9.heap.size, 0, none⟩ 1 1 [.slice qa ql qc] rfl rfl HN10.out (by intro u hu; simp at hu; subst hu; rfl) (by omega) (by unfold maxLen; omega) (by omega) HB10.out.size _ rfl ?_
         intro g7 cap7 w7 own7 grow7 at7 ltg7
         have HB11 := Lib.hid (HB10.out.grown grow7 HB10.out.size (fun q hq => (World.ownsRow.lt HO10.out q hq).1))
         have HF11 := Lib.hid (ISt.push HV10.out HVL.out HQ10.out HD10.out own7 grow7 at7)
         clear own7 grow7 at7 ltg7))
    have HNX := Lib.hid (And.intro HF11.out HB11.out)
    clear HF11 HB11 HB10 HN10 HD10 HQ10 HV10 HO10 HB9 HQ9 K9 HCJ HBw HK0 HVS HLT HVL g0
    go_wp2
    go_roundw
    case rel => exact ⟨k + 1, by omega, by congr 1, Lib.hid HNX.out.1, Lib.hid HNX.out.2⟩
    case measure => simp [intOf]; omega
end Go.Proofs.YtkogoflcacameaaGreatDoor
