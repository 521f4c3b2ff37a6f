/- The program's iterator over the steps from one posture. -/
import Derived.Test.YtolkihibjabmhaaDoorIm6b
import Derived.Test.YtolkihibjabmhaaDoorIm8
namespace Go.Proofs.YtolkihibjabmhaaDoor
set_option maxRecDepth 100000
open Go.RowKit Go.Shelf
attribute [local go_sem] Oper.semAt_some
theorem turnIx0 (u : World) : (Instr.index 118 (.agg #[.int .i64 (-1), .int .i64 1]) (.int .i64 0)).run Tryd.prog u = .ok (.int .i64 (-1)) u := by kernel_rfl
theorem turnIx1 (u : World) : (Instr.index 118 (.agg #[.int .i64 (-1), .int .i64 1]) (.int .i64 1)).run Tryd.prog u = .ok (.int .i64 1) u := by kernel_rfl
theorem turnIx (q : Nat) (h : q < 2) (u : World) : (Instr.index 118 (.agg #[.int .i64 (-1), .int .i64 1]) (.int .i64 (q : Int))).run Tryd.prog u = .ok (.int .i64 (2 * (q : Int) - 1)) u := by
  have h2 : q = 0 ∨ q = 1 := by omega
  rcases h2 with rfl | rfl
  · exact turnIx0 u
  · exact turnIx1 u
theorem try_cells {w : World} {b : Nat} {js : List Int} {p q r s : Int} {k : Nat} {t : TypeId} (d : Int) (C : Cells w b ([.int .i64 p, .int .i64 q, .int .i64 r, .int .i64 s].set k (.int .i64 (js.getD k 0 + d))).toArray t) (e : Is4 js p q r s) (hk : k < 4) (hkl : k < js.length) :
    ∃ p' q' r' s', Is4 (tryL js k d) p' q' r' s' ∧ At4 w b p' q' r' s' ∧ w.cell? ⟨b, k, none⟩ = some (.int .i64 (js.getD k 0 + d)) := by
  obtain ⟨e0, e1, e2, e3⟩ := e
  have h4 : k = 0 ∨ k = 1 ∨ k = 2 ∨ k = 3 := by omega
  rcases h4 with rfl | rfl | rfl | rfl
  · exact ⟨_, q, r, s, ⟨by rw [tryL_at _ _ _ _ hkl, if_pos rfl], by rw [tryL_at _ _ _ _ hkl, if_neg (by omega), e1], by rw [tryL_at _ _ _ _ hkl, if_neg (by omega), e2], by rw [tryL_at _ _ _ _ hkl, if_neg (by omega), e3]⟩, ⟨C.lt, C.cell rfl, C.cell rfl, C.cell rfl, C.cell rfl⟩, C.cell rfl⟩
  · exact ⟨p, _, r, s, ⟨by rw [tryL_at _ _ _ _ hkl, if_neg (by omega), e0], by rw [tryL_at _ _ _ _ hkl, if_pos rfl], by rw [tryL_at _ _ _ _ hkl, if_neg (by omega), e2], by rw [tryL_at _ _ _ _ hkl, if_neg (by omega), e3]⟩, ⟨C.lt, C.cell rfl, C.cell rfl, C.cell rfl, C.cell rfl⟩, C.cell rfl⟩
  · exact ⟨p, q, _, s, ⟨by rw [tryL_at _ _ _ _ hkl, if_neg (by omega), e0], by rw [tryL_at _ _ _ _ hkl, if_neg (by omega), e1], by rw [tryL_at _ _ _ _ hkl, if_pos rfl], by rw [tryL_at _ _ _ _ hkl, if_neg (by omega), e3]⟩, ⟨C.lt, C.cell rfl, C.cell rfl, C.cell rfl, C.cell rfl⟩, C.cell rfl⟩
  · exact ⟨p, q, r, _, ⟨by rw [tryL_at _ _ _ _ hkl, if_neg (by omega), e0], by rw [tryL_at _ _ _ _ hkl, if_neg (by omega), e1], by rw [tryL_at _ _ _ _ hkl, if_neg (by omega), e2], by rw [tryL_at _ _ _ _ hkl, if_pos rfl]⟩, ⟨C.lt, C.cell rfl, C.cell rfl, C.cell rfl, C.cell rfl⟩, C.cell rfl⟩
theorem at_list4 {js : List Int} {p q r s : Int} (e : Is4 js p q r s) (k : Nat) (hk : k < 4) : ([.int .i64 p, .int .i64 q, .int .i64 r, .int .i64 s] : List Value)[k]? = some (.int .i64 (js.getD k 0)) := by
  obtain ⟨e0, e1, e2, e3⟩ := e
  have h4 : k = 0 ∨ k = 1 ∨ k = 2 ∨ k = 3 := by omega
  rcases h4 with rfl | rfl | rfl | rfl
  · rw [e0]; rfl
  · rw [e1]; rfl
  · rw [e2]; rfl
  · rw [e3]; rfl
theorem try_ok {ls lo hi js : List Int} {k : Nat} {d : Int} (h : okJoints ls lo hi js) (hk : k < ls.length) : okJoints ls lo hi (tryL js k d) ↔ (lo.getD k 0 ≤ js.getD k 0 + d ∧ js.getD k 0 + d ≤ hi.getD k 0) := by
  have hl := h.2.1
  have hkl : k < js.length := by omega
  constructor
  · intro g
    have := g.2.2 k (by first | exact hk | (rw [tryL_len]; exact hkl))
    rw [tryL_at _ _ _ _ hkl, if_pos rfl] at this
    exact this
  · intro g
    refine ⟨h.1, by rw [tryL_len]; exact hl, fun i hi' => ?_⟩
    rw [tryL_at _ _ _ _ hkl]
    by_cases he : i = k
    · subst he; rw [if_pos rfl]; exact g
    · rw [if_neg he]; exact h.2.2 i (by first | exact hi' | (rw [tryL_len] at hi'; exact hi'))
theorem candsM_mono (ok : List Int → Prop) [DecidablePred ok] (D : List Int → Int) (js : List Int) (m n : Nat) : (candsM ok D js m).length ≤ (candsM ok D js (m + n)).length := by
  induction n with
  | zero => exact Nat.le_refl _
  | succ n ih => rw [Nat.add_succ]; simp only [candsM, List.length_append]; omega
theorem candsM_lt (ok : List Int → Prop) [DecidablePred ok] (D : List Int → Int) (js : List Int) {m n : Nat} (h : m < n) (hc : ok (candM js m)) : (candsM ok D js m).length < (candsM ok D js n).length := by
  obtain ⟨i, rfl⟩ : ∃ i, n = (m + 1) + i := ⟨n - (m + 1), by omega⟩
  have h1 := candsM_mono ok D js (m + 1) i
  have h2 : (candsM ok D js (m + 1)).length = (candsM ok D js m).length + 1 := by simp [candsM, hc]
  omega
/-- A round's answer under one name, with what it keeps. -/
def SaidK (J Jx : List Cand → World → Prop) (xs : List Cand) (Kp : World → World → Prop) (W : World) (b : Bool) (W' : World) : Prop := (b = true ∧ J xs W' ∧ Kp W W') ∨ (b = false ∧ Jx xs W')
theorem saidK {F : Fence} {n : Nat} {P : Program} {l : Nat} {f : FuncId} {tmps : Array Value} {assign body : Code} {W : World} {J Jx : List Cand → World → Prop} {xs : List Cand} {Kp : World → World → Prop}
    (h : RoundIn F n P l f tmps assign body W fun e W' => (e = .returned (.bool true) ∧ J xs W' ∧ Kp W W') ∨ (e = .returned (.bool false) ∧ Jx xs W')) :
    RoundIn F n P l f tmps assign body W fun e W' => ∃ b : Bool, e = .returned (.bool b) ∧ Hid (SaidK J Jx xs Kp W b W') :=
  h.mono fun e W' hh => by
    rcases hh with ⟨rfl, h1, h2⟩ | ⟨rfl, h1⟩
    · exact ⟨true, rfl, Lib.hid (.inl ⟨rfl, h1, h2⟩)⟩
    · exact ⟨false, rfl, Lib.hid (.inr ⟨rfl, h1⟩)⟩
/-- What the iterator over the steps reads. -/
structure StepsAt (w : World) (Pn Sn b n cap : Nat) (tx ty p q r s : Int) : Prop where
  at4 : At4 w Pn p q r s
  ata : AtA w Sn (.slice (some ⟨b, 0, none⟩) n cap) (.int .i64 tx) (.int .i64 ty)
theorem StepsAt.next {w w' : World} {Pn Sn b n cap : Nat} {tx ty p q r s : Int} (h : StepsAt w Pn Sn b n cap tx ty p q r s) (hb : Below w.heap.size w w') : StepsAt w' Pn Sn b n cap tx ty p q r s := ⟨h.at4.next hb, h.ata.next hb⟩
set_option maxHeartbeats 8000000 in
theorem stepsStops (Pn Sn b cap : Nat) (ls lo hi js : List Int) (tx ty p q r s : Int) (w W0 : World) (hW0 : Below w.heap.size w W0) (hT : W0.heap.size = w.heap.size + 4) (h4j : Is4 js p q r s) (ht : TabAt w) (hA : StepsAt w Pn Sn b ls.length cap tx ty p q r s) (hc : ChainAt w b ls.length ls lo hi) (hok : okJoints ls lo hi js) (n : Nat) :
    SeqStopsK Fence.wide n Tryd.prog 113 #[.pointer (some ⟨Pn, 0, none⟩), .pointer (some ⟨Sn, 0, none⟩)] (fun c : Cand => #[cv c]) (KeepC w.heap.size (w.heap.size + 4)) (fun ys => ys = candsM (okJoints ls lo hi) (distV ls tx ty) js (2 * js.length)) (fun _ => True) (candsM (okJoints ls lo hi) (distV ls tx ty) js (2 * js.length)).length W0 := by
  intro l J Jx W hW hJ _ hY h0
  have HT := Lib.hid (show w.heap.size + 4 ≤ W.heap.size by have := hW.size; omega)
  have HW0 := Lib.hid (show Below w.heap.size w W from hW0.trans (hW.mono hW0.size))
  have HP := Lib.hid hA
  have HC := Lib.hid hc
  have HOK := Lib.hid hok
  have H4J := Lib.hid h4j
  have HLJ := Lib.hid (show js.length = ls.length from hok.2.1)
  have hn4 : ls.length ≤ 4 := hok.1.2.1
  have HDI := Lib.hid (fun (zs : List Int) (p' q' r' s' : Int) (h4 : Is4 zs p' q' r' s') (hz : okJoints ls lo hi zs) (u : World) (hu : Below w.heap.size w u) => distanceC b cap ls lo hi zs tx ty p' q' r' s' u h4 (ht.below hu ht.lt) (hc.next hu) hz)
  have HMK := Lib.hid (fun (zs : List Int) (p' q' r' s' : Int) (h4 : Is4 zs p' q' r' s') => show candOf (distV ls tx ty) zs = ⟨p', q', r', s', distV ls tx ty zs, 0⟩ by
    obtain ⟨e0, e1, e2, e3⟩ := h4; unfold candOf; rw [e0, e1, e2, e3])
  have HY := Lib.hid hY
  have HJ := Lib.hid (fun s A B (hs : J s A) (hb : Below A.heap.size A B) => abides hJ hs hb)
  have H00 := Lib.hid h0
  have HL0 := Lib.hid (show ([] : List Cand).length < (candsM (okJoints ls lo hi) (distV ls tx ty) js (2 * js.length)).length by
    have := candsM_mono (okJoints ls lo hi) (distV ls tx ty) js 0 (2 * js.length)
    rw [Nat.zero_add] at this
    exact Nat.lt_of_lt_of_le (by simp [candsM]) this)
  have HM0 := Lib.hid (HMK.out js p q r s h4j)
  have HOA := Lib.hid (fun k (hk : k < ls.length) => And.intro (hok.1.2.2.2.2 k hk) (hok.2.2 k (by first | exact hk | (rw [hok.2.1]; exact hk))))
  clear hY hJ hA hc ht hok hW hW0 hT h0 h4j
  refine callsIn_of_wp Tryd.func113 rfl trivial ?_ rfl
  simp only [Tryd.ntmps113, List.size_toArray, List.length_cons, List.length_nil, Nat.reduceAdd, Nat.reduceSub, Array.replicate_succ, Array.replicate_zero, List.push_toArray, List.append_toArray, List.nil_append, List.cons_append]
  have HPW := Lib.hid (HP.out.next HW0.out)
  obtain ⟨v0, v1, v2, v3⟩ := HPW.out.at4.kepts
  obtain ⟨u0, u1, u2⟩ := HPW.out.ata.kepts
  have HDK := Lib.hid (fun (n : Kept W) => keptCall (HDI.out js p q r s H4J.out HOK.out n.u (below_call HW0.out n.b)))
  generalize hdj : distV ls tx ty js = dj at HDK HM0
  clear hdj
  refine wpIn_seq ?_
  refine wpIn_seq ?_
  refine wpIn_region_tail 6 (by kernel_rfl) (by kernel_rfl) ?_
  simp only [List.take_succ_cons, List.take_zero, List.drop_succ_cons, List.drop_zero]
  repeat (go_big_quiet_step ((go_at_call 95; exact HDK.out _)))
  refine wpQuiet_nil ?_
  rintro w5 ⟨⟨_, K5⟩, rfl⟩
  obtain ⟨fn, tmps, assign, body, hy, hR⟩ := HY.out _ (candOf (distV ls tx ty) js) w5 (HJ.out _ _ _ H00.out K5) HL0.out
  rw [HM0.out] at hy
  clear u0 u1 u2 v0 v1 v2 v3 HDK
  gi_wp2
  refine ⟨(by intro h; cases h), ?_⟩
  refine (saidK hR).mono ?_
  rintro e w6 ⟨bb, rfl, S6⟩
  cases bb with
  | false =>
    have HS6 : Hid (Jx ([] ++ [candOf (distV ls tx ty) js]) w6) := Lib.hid (by
      rcases S6.out with ⟨h1, _⟩ | ⟨_, h1⟩
      · cases h1
      · exact h1)
    clear S6 hy hR
    gi_wp2
    refine bodyPost_ret (results_none rfl _ _ _) rfl ?_
    exact ⟨⟨_, rfl⟩, .inr ⟨_, trivial, HS6.out⟩⟩
  | true =>
    have HS6 : Hid (J (candsM (okJoints ls lo hi) (distV ls tx ty) js 0) w6 ∧ KeepC w.heap.size (w.heap.size + 4) w5 w6) := Lib.hid (by
      rcases S6.out with ⟨_, h1, h2⟩ | ⟨h1, _⟩
      · exact ⟨h1, h2⟩
      · cases h1)
    have HW6 := Lib.hid (show Below w.heap.size w w6 from (below_call HW0.out K5).trans HS6.out.2.low)
    have HT6 := Lib.hid (show w.heap.size + 4 ≤ w6.heap.size by have h1 := HS6.out.2.low.size; have h2 := K5.size; have h3 := HT.out; omega)
    have HJ6 := Lib.hid HS6.out.1
    clear S6 hy hR HW0 HT K5 H00 HPW HS6
    have HPW := Lib.hid (HP.out.next HW6.out)
    obtain ⟨_, s0, s1, s2, _, _, _⟩ := HPW.out.ata
    gi_wp2
    clear s0 s1 s2 HPW
    gi_loopw [20] (fun i wr => ∃ k : Nat, k ≤ ls.length ∧ i = .int .i64 (k : Int) ∧ Hid (J (candsM (okJoints ls lo hi) (distV ls tx ty) js (2 * k)) wr) ∧ Hid (Below w.heap.size w wr) ∧ Hid (w.heap.size + 4 ≤ wr.heap.size)) (fun i _ => ls.length - (intOf i).toNat)
    case atStart => exact ⟨0, Nat.zero_le _, rfl, HJ6, HW6, HT6⟩
    case round =>
      obtain ⟨k, hk, rfl, HJ1, HW1, HT1⟩ := hrel
      clear HJ6 HW6 HT6
      by_cases hlt : k < ls.length
      · have j1 : (k : Int) < (ls.length : Int) := by omega
        have HK4 := Lib.hid (And.intro hlt (show k < 4 by omega))
        obtain ⟨c0, c1, c2⟩ := (HC.out.next HW1.out).c k hlt
        have HOK1 := Lib.hid (HOA.out k hlt)
        generalize hlk : ls.getD k 0 = lk' at *
        generalize hlo : lo.getD k 0 = ok' at *
        generalize hhi : hi.getD k 0 = hk' at *
        have HLO := Lib.hid hlo
        have HHI := Lib.hid hhi
        clear hlk hlo hhi hlt
        have HCL := Lib.hid (Cells.new wr #[.int .i64 lk', .int .i64 ok', .int .i64 hk'] 82)
        have BL := below_box wr (.cells #[.int .i64 lk', .int .i64 ok', .int .i64 hk'] 82)
        have HWL := Lib.hid (below_call HW1.out BL)
        have HJL := Lib.hid (HJ.out _ _ _ HJ1.out BL)
        have HTL := Lib.hid (Nat.le_trans HT1.out BL.size)
        clear BL
        gi_wp2
        generalize wr.alloc (.cells #[.int .i64 lk', .int .i64 ok', .int .i64 hk'] 82) = wl at *
        clear c0 c1 c2
        obtain ⟨Lb, hLb⟩ : ∃ Lb, wr.heap.size = Lb := ⟨_, rfl⟩
        rw [hLb] at HCL ⊢
        have HTb := Lib.hid (show w.heap.size + 4 ≤ Lb by have := HT1.out; omega)
        clear hLb HJ1 HW1 HT1
        gi_loopw [26] (fun i wr => ∃ q : Nat, q ≤ 2 ∧ i = .int .i64 (q : Int) ∧ Hid (J (candsM (okJoints ls lo hi) (distV ls tx ty) js (2 * k + q)) wr) ∧ Hid (Below w.heap.size w wr) ∧ Hid (w.heap.size + 4 ≤ wr.heap.size) ∧ Hid (Cells wr Lb #[.int .i64 lk', .int .i64 ok', .int .i64 hk'] 82)) (fun i _ => 2 - (intOf i).toNat)
        case atStart => exact ⟨0, by omega, rfl, HJL, HWL, HTL, HCL⟩
        case round =>
          obtain ⟨qn, hq, rfl, HJ2, HW2, HT2, HC2⟩ := hrel
          clear HJL HWL HTL HCL
          by_cases hq2 : qn < 2
          · have j2 : (qn : Int) < 2 := by omega
            have hix := fun u => turnIx qn hq2 u
            obtain ⟨a0, a1, a2, a3, a4⟩ := (HP.out.next HW2.out).at4
            have HKA := Lib.hid (at_list4 H4J.out k HK4.out.2)
            obtain ⟨x, hx⟩ : ∃ x, js.getD k 0 = x := ⟨_, rfl⟩
            have x1 : -180 ≤ x := by have h1 := HOK1.out.1; have h2 := HOK1.out.2.1; unfold okLink at h1; rw [hx] at h2; omega
            have x2 : x ≤ 180 := by have h1 := HOK1.out.1; have h2 := HOK1.out.2.2; unfold okLink at h1; rw [hx] at h2; omega
            have hkx := HKA.out
            rw [hx] at hkx
            have HC3 := Lib.hid (Cells.new wr ([.int .i64 p, .int .i64 q, .int .i64 r, .int .i64 s].set k (.int .i64 (x + (2 * (qn : Int) - 1)))).toArray 91)
            have B4 := below_box wr (.cells ([.int .i64 p, .int .i64 q, .int .i64 r, .int .i64 s].set k (.int .i64 (x + (2 * (qn : Int) - 1)))).toArray 91)
            obtain ⟨p', q', r', s', I4, A4, ck⟩ := try_cells (js := js) (2 * (qn : Int) - 1) (by rw [hx]; exact HC3.out) H4J.out HK4.out.2 (by rw [HLJ.out]; exact HK4.out.1)
            rw [hx] at ck
            have HI4 := Lib.hid I4
            have HW4 := Lib.hid (below_call HW2.out B4)
            have HJ4 := Lib.hid (HJ.out _ _ _ HJ2.out B4)
            have HT4 := Lib.hid (Nat.le_trans HT2.out B4.size)
            have HC4 := Lib.hid (HC2.out.next B4)
            have HKR := Lib.hid (try_ok (d := 2 * (qn : Int) - 1) HOK.out HK4.out.1)
            rw [HLO.out, HHI.out, hx] at HKR
            have HX := Lib.hid hx
            have HCM := Lib.hid (candM_q (js := js) (k := k) hq2)
            have HSU := Lib.hid (show candsM (okJoints ls lo hi) (distV ls tx ty) js (2 * k + (qn + 1)) = candsM (okJoints ls lo hi) (distV ls tx ty) js (2 * k + qn) ++ (if okJoints ls lo hi (tryL js k (2 * (qn : Int) - 1)) then [candOf (distV ls tx ty) (tryL js k (2 * (qn : Int) - 1))] else []) by rw [← HCM.out]; rfl)
            have k4 : (k : Int) < 4 := by have := HK4.out.2; omega
            have l4 : wr.heap.size < (wr.alloc (.cells ([.int .i64 p, .int .i64 q, .int .i64 r, .int .i64 s].set k (.int .i64 (x + (2 * (qn : Int) - 1)))).toArray 91)).heap.size := A4.lt
            clear hx I4 B4 HC3 HKA
            gi_wp2
            generalize wr.alloc (.cells ([.int .i64 p, .int .i64 q, .int .i64 r, .int .i64 s].set k (.int .i64 (x + (2 * (qn : Int) - 1)))).toArray 91) = w4 at *
            generalize hzs : tryL js k (2 * (qn : Int) - 1) = zs at *
            clear hzs
            obtain ⟨v0, v1, v2, v3⟩ := A4.kepts
            obtain ⟨u0, u1, u2⟩ := (HP.out.next HW4.out).ata.kepts
            have ckk := keptCell l4 ck
            have f0 := keptCell (o := 0) HC4.out.lt (HC4.out.cell (i := 0) rfl)
            have f1 := keptCell (o := 1) HC4.out.lt (HC4.out.cell (i := 1) rfl)
            have f2 := keptCell (o := 2) HC4.out.lt (HC4.out.cell (i := 2) rfl)
            have HOL := Lib.hid (show ok' ≤ hk' by have h1 := HOK1.out.1; unfold okLink at h1; omega)
            clear a0 a1 a2 a3 a4 ck A4
            generalize hxd : x + (2 * (qn : Int) - 1) = xd at *
            clear hxd hkx
            by_cases ha : ok' ≤ xd ∧ xd ≤ hk'
            · have HZ := Lib.hid (HKR.out.2 ha)
              have HAL := Lib.hid (fun (n : Kept w4) => keptCall (linkAllowsY lk' ok' hk' xd n.u ha.1 ha.2))
              have HDK := Lib.hid (fun (n : Kept w4) => keptCall (HDI.out zs p' q' r' s' HI4.out HZ.out n.u (below_call HW4.out n.b)))
              have HNX := Lib.hid (show candsM (okJoints ls lo hi) (distV ls tx ty) js (2 * k + (qn + 1)) = candsM (okJoints ls lo hi) (distV ls tx ty) js (2 * k + qn) ++ [candOf (distV ls tx ty) zs] by rw [HSU.out, if_pos HZ.out])
              have HLT := Lib.hid (candsM_lt (okJoints ls lo hi) (distV ls tx ty) js (m := 2 * k + qn) (n := 2 * js.length) (by have h1 := HK4.out.1; have h2 := HLJ.out; omega) (by rw [HCM.out]; exact HZ.out))
              have HM2 := Lib.hid (HMK.out zs p' q' r' s' HI4.out)
              generalize distV ls tx ty zs = dz at HDK HM2
              clear ha
              refine wpIn_region_tail 12 (by kernel_rfl) (by kernel_rfl) ?_
              simp only [List.take_succ_cons, List.take_zero, List.drop_succ_cons, List.drop_zero]
              repeat (go_big_quiet_step ((first | (go_at_call 95; exact HDK.out _) | (go_at_call 87; exact HAL.out _))))
              refine wpQuiet_nil ?_
              rintro w5 ⟨⟨_, K5⟩, rfl⟩
              obtain ⟨fn, tmps, assign, body, hy, hR⟩ := HY.out _ (candOf (distV ls tx ty) zs) w5 (HJ.out _ _ _ HJ4.out K5) HLT.out
              rw [HM2.out] at hy
              clear u0 u1 u2 v0 v1 v2 v3 ckk f0 f1 f2
              gi_wp2
              refine ⟨(by intro h; cases h), ?_⟩
              refine (saidK hR).mono ?_
              rintro e w6 ⟨bb, rfl, S6⟩
              cases bb with
              | true =>
                have HS6 : Hid (J (candsM (okJoints ls lo hi) (distV ls tx ty) js (2 * k + (qn + 1))) w6 ∧ KeepC w.heap.size (w.heap.size + 4) w5 w6) := Lib.hid (by
                  rw [HNX.out]
                  rcases S6.out with ⟨_, h1, h2⟩ | ⟨h1, _⟩
                  · exact ⟨h1, h2⟩
                  · cases h1)
                have HW6 := Lib.hid (show Below w.heap.size w w6 from (below_call HW4.out K5).trans HS6.out.2.low)
                have HT6 := Lib.hid (show w.heap.size + 4 ≤ w6.heap.size by have h1 := HS6.out.2.low.size; have h2 := K5.size; have h3 := HT4.out; omega)
                have HC6 := Lib.hid (show Cells w6 Lb #[.int .i64 lk', .int .i64 ok', .int .i64 hk'] 82 from HS6.out.2.cells Lb _ HTb.out (HC4.out.next K5) rfl)
                clear S6 hy hR
                gi_wp2
                go_roundw
                case rel => exact ⟨qn + 1, by omega, by congr 1, Lib.hid HS6.out.1, HW6, HT6, HC6⟩
                case measure => simp [intOf]; omega
              | false =>
                have HS6 : Hid (Jx (candsM (okJoints ls lo hi) (distV ls tx ty) js (2 * k + qn) ++ [candOf (distV ls tx ty) zs]) w6) := Lib.hid (by
                  rcases S6.out with ⟨h1, _⟩ | ⟨_, h1⟩
                  · cases h1
                  · exact h1)
                clear S6 hy hR
                gi_wp2
                refine bodyPost_ret (results_none rfl _ _ _) rfl ?_
                exact ⟨⟨_, rfl⟩, .inr ⟨_, trivial, HS6.out⟩⟩
            · have HZ := Lib.hid (fun h => ha (HKR.out.1 h))
              have HAL := Lib.hid (fun (n : Kept w4) => keptCall (linkAllowsN lk' ok' hk' xd n.u HOL.out ha))
              have HNX := Lib.hid (show candsM (okJoints ls lo hi) (distV ls tx ty) js (2 * k + (qn + 1)) = candsM (okJoints ls lo hi) (distV ls tx ty) js (2 * k + qn) by rw [HSU.out, if_neg HZ.out, List.append_nil])
              clear ha
              refine wpIn_region_tail 12 (by kernel_rfl) (by kernel_rfl) ?_
              simp only [List.take_succ_cons, List.take_zero, List.drop_succ_cons, List.drop_zero]
              repeat (go_big_quiet_step ((first | (go_at_call 87; exact HAL.out _))))
              refine wpQuiet_nil ?_
              rintro w5 ⟨⟨_, K5⟩, rfl⟩
              clear u0 u1 u2 v0 v1 v2 v3 ckk f0 f1 f2
              have HJ5 := Lib.hid (show J (candsM (okJoints ls lo hi) (distV ls tx ty) js (2 * k + (qn + 1))) w5 by rw [HNX.out]; exact HJ.out _ _ _ HJ4.out K5)
              have HW5 := Lib.hid (below_call HW4.out K5)
              have HT5 := Lib.hid (Nat.le_trans HT4.out K5.size)
              have HC5 := Lib.hid (HC4.out.next K5)
              gi_wp2
              refine ⟨fun _ h => (by cases h), ?_⟩
              gi_wp2
              go_roundw
              case rel => exact ⟨qn + 1, by omega, by congr 1, HJ5, HW5, HT5, HC5⟩
              case measure => simp [intOf]; omega
          · obtain rfl : qn = 2 := by omega
            have j2 : ¬ ((2 : Nat) : Int) < 2 := by omega
            gi_wp2
            go_roundw
            case rel => exact ⟨k + 1, by have := HK4.out.1; omega, by congr 1, Lib.hid HJ2.out, HW2, HT2⟩
            case measure => have := HK4.out.1; simp [intOf]; omega
      · obtain rfl : k = ls.length := by omega
        have j1 : ¬ (ls.length : Int) < (ls.length : Int) := by omega
        gi_wp2
        go_end0
        exact ⟨⟨_, rfl⟩, .inl (by rw [HLJ.out]; exact HJ1.out)⟩
end Go.Proofs.YtolkihibjabmhaaDoor
