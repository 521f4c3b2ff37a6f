/- The program's queue: add. -/
import Derived.Test.YtkogoflcacameaaIm11c
namespace Go.Proofs.Ytkogoflcacameaa
set_option maxRecDepth 100000
open Go.RowKit
attribute [local go_sem ↓] Go.wp_at_zero Go.wp_at_succ
/-- What add leaves. -/
def Added (v : Nat) (cs : Array Value) (L : List C2) (c : C2) (g : Nat) (w : World) (e : Ending) (w' : World) : Prop :=
  e = .returned (.tuple #[]) ∧ ∃ (cs' : Array Value) (g' : Nat) (rs' : Array Value) (m' fi' : Nat), RQ w' v cs' (L ++ [c]) g' rs' m' fi' ∧ (∀ i, i = 0 ∨ 4 ≤ i → cs'[i]? = cs[i]?) ∧ Frm v g w w' ∧ (g' = g ∨ w.heap.size ≤ g')
theorem RQ.half {u : World} {v g m fi n : Nat} {cs rs : Array Value} {L : List C2} (h : RQ u v cs L g rs m fi) (hlt : L.length < m) (hn : L.length = n) :
    m ≠ 0 ∧ Hid (Blk u g rs 33) ∧ Hid (g ≠ v) ∧ Hid (cs[1]? = some (.slice (some ⟨g, 0, none⟩) m m)) ∧ Hid (cs[2]? = some (.int .i64 (fi : Int))) ∧ Hid (cs[3]? = some (.int .i64 (n : Int))) ∧ fi < m ∧ m ≤ 3000 ∧ n < m ∧ ∃ p, Hid ((fi + n) % m = p) ∧ p < m ∧ ((fi : Int) + (n : Int)) % (m : Int) = (p : Int) ∧ ((fi : Int) + (n : Int)).tmod (m : Int) = (p : Int) ∧ ∃ x y, Hid (rs[p * 2]? = some x) ∧ Hid (rs[p * 2 + 1]? = some y) := by
  have hm0 : m ≠ 0 := by omega
  obtain ⟨r1, r2, r3⟩ := h.ring hm0
  have hrng := h.rng
  rw [if_neg hm0] at hrng
  have hcnt := h.cnt
  rw [hn] at hcnt
  have hpm : (fi + n) % m < m := Nat.mod_lt _ (by omega)
  have e1 : ((fi : Int) + (n : Int)) % (m : Int) = (((fi + n) % m : Nat) : Int) := by rw [Int.natCast_emod]; rfl
  exact ⟨hm0, Lib.hid r1, Lib.hid r3, Lib.hid hrng, Lib.hid h.fst, Lib.hid hcnt, h.f1 hm0, h.top, by omega, _, Lib.hid rfl, hpm, e1, by rw [Int.tmod_eq_emod_of_nonneg (by omega)]; exact e1, _, _, Lib.hid (Array.getElem?_eq_getElem (by omega)), Lib.hid (Array.getElem?_eq_getElem (by omega))⟩
theorem Grown.any {v g m : Nat} {cs : Array Value} {L : List C2} {w w' : World} {e : Ending} (h : Grown v cs L g m w e w') (hL : L.length = m) :
    e = .returned (.tuple #[]) ∧ ∃ (cs' : Array Value) (g' : Nat) (rs' : Array Value) (m' fi' : Nat), Hid (RQ w' v cs' L g' rs' m' fi') ∧ L.length < m' ∧ Hid (∀ i, i = 0 ∨ 4 ≤ i → cs'[i]? = cs[i]?) ∧ Frm v g w w' ∧ w.heap.size ≤ g' := by
  obtain ⟨h1, rs2, h2, h3⟩ := h
  exact ⟨h1, _, _, _, _, _, Lib.hid h2, by omega, Lib.hid (fun i hi => by rw [Array.getElem?_setIfInBounds_ne (by omega), Array.getElem?_setIfInBounds_ne (by omega)]), h3, Nat.le_refl _⟩
set_option maxHeartbeats 4000000 in
theorem queueAdd (v : Nat) (cs : Array Value) (L : List C2) (c : C2) (g : Nat) (rs : Array Value) (m fi : Nat) (w : World) (h : RQ w v cs L g rs m fi) (hL : L.length ≤ 400) :
    Calls Try.prog 68 #[.pointer (some ⟨v, 1, none⟩), pt c.1 c.2] w (Added v cs L c g w) := by
  unfold Added
  obtain ⟨c1, c2⟩ := c
  have B0 := below_box w (.cells #[.int .i64 c1, .int .i64 c2] 33)
  have HB := Lib.hid B0
  have HQ := Lib.hid (h.frm B0)
  have HX := Lib.hid (Blk.new w #[.int .i64 c1, .int .i64 c2] 33)
  have HF := Lib.hid (Frm.of_below B0 : Frm v g w _)
  have HGL := Lib.hid (show v < w.heap.size ∧ g < w.heap.size from ⟨h.blk.lt, h.glt⟩)
  have htop := h.top
  have hfit := h.fit
  have HCN := Lib.hid h.cnt
  have HRN := Lib.hid h.rng
  clear B0 h
  by_cases hlt : L.length < m
  · have hne : ¬ ((L.length : Int) = (m : Int)) := by omega
    have hm1 : m ≠ 0 := by omega
    rw [if_neg hm1] at HRN
    go_enter Try.func68, Try.ntmps68
    have u0 := HQ.out.blk.kept 1 HRN.out
    have u1 := HQ.out.blk.kept 3 HCN.out
    go_upto_region 1 with fail
    generalize w.alloc (.cells #[.int .i64 c1, .int .i64 c2] 33) = w1 at *
    refine wp_region_kept (by kernel_rfl) (by kernel_rfl) ?_
    repeat (go_big_quiet_step (fail))
    refine wpQuiet_nil ?_
    rintro w2 ⟨⟨_, K2⟩, rfl⟩
    have HQ2 := Lib.hid (HQ.out.frm K2)
    have HX2 := Lib.hid (HX.out.next K2)
    have HF2 := Lib.hid (HF.out.trans (Frm.of_below K2 : Frm v g _ _) (.inl rfl))
    clear K2 u0 u1
    go_upto_region 3 with fail
    obtain ⟨hm0, HR1, HR3, HRG, HFS, HCT, hfi, hmt, hnm, p, HP, hpm, e1, e2, x0, y0, HX0, HY0⟩ := HQ2.out.half hlt rfl
    have HU := Lib.hid (And.intro HQ2.out.blk (And.intro HR1.out HX2.out))
    have z0 : ¬ (m : Int) = 0 := by omega
    have z1 : ((m : Int) == 0) = false := by simp; omega
    have p0 : (0 : Int) ≤ (p : Int) := by omega
    have p1 : (p : Int) < (m : Int) := by omega
    obtain ⟨n, hn⟩ : ∃ n, L.length = n := ⟨_, rfl⟩
    have HLN := Lib.hid hn
    rw [hn] at e1 e2 HP HCT
    have hn4 : n ≤ 400 := by omega
    have u0 := HU.out.1.kept 1 HRG.out
    have u1 := HU.out.1.kept 2 HFS.out
    have u2 := HU.out.1.kept 3 HCT.out
    have u3 := HU.out.2.2.kept 0 rfl
    have u4 := HU.out.2.2.kept 1 rfl
    clear hn hlt
    refine wp_region_ktail 20 (by kernel_rfl) (by kernel_rfl) ?_
    simp only [List.take_succ_cons, List.take_zero, List.drop_succ_cons, List.drop_zero]
    repeat (go_big_quiet_step (fail))
    refine wpQuiet_nil ?_
    rintro w5 ⟨⟨_, K5⟩, rfl⟩
    have HV6 := Lib.hid (((HU.out.1.next K5).other (fun e => HR3.out e.symm) (i := p * 2) (.int .i64 c1)).other (fun e => HR3.out e.symm) (i := p * 2 + 1) (.int .i64 c2))
    have HG5 := Lib.hid (HU.out.2.1.next K5)
    have HF5 := Lib.hid (HF2.out.trans (Frm.of_below K5 : Frm v g _ _) (.inl rfl))
    clear K5 u0 u1 u2 u3 u4
    have d0 := HG5.out.cell (p * 2) HX0.out
    have d1 := HG5.out.frozen (p * 2)
    have d2 := HG5.out.cell (p * 2 + 1) HY0.out
    have d3 := HG5.out.frozen (p * 2 + 1)
    have HG6 := Lib.hid ((HG5.out.set (p * 2) (.int .i64 c1)).set (p * 2 + 1) (.int .i64 c2))
    have HF6 := Lib.hid ((HF5.out.set g (.inr (.inl rfl)) (p * 2) (.int .i64 c1)).set g (.inr (.inl rfl)) (p * 2 + 1) (.int .i64 c2))
    go_upto_region 4 with fail
    clear d0 d1 d2 d3
    generalize (w5.setCell ⟨g, p * 2, none⟩ (.int .i64 c1)).setCell ⟨g, p * 2 + 1, none⟩ (.int .i64 c2) = w6 at *
    have d0 := HV6.out.cell 3 HCT.out
    have d1 := HV6.out.frozen 3
    go_wp2
    go_end0
    refine ⟨rfl, _, _, _, _, _, RQ.push HQ2.out (by have := HLN.out; omega) (by rw [HLN.out]; exact HP.out) (c1, c2) (by rw [HLN.out]; exact HV6.out.set 3 _) (HG6.out.other (HR3.out) (i := 3) _), ?_, HF6.out.set v (.inl rfl) 3 _, .inl rfl⟩
    intro i hi
    exact Array.getElem?_setIfInBounds_ne (by omega)
  · have hLm : L.length = m := by omega
    by_cases hm0 : m = 0
    · subst hm0
      replace HCN := Lib.hid (show cs[3]? = some (.int .i64 0) from by have q := HCN.out; rw [hLm] at q; exact q)
      replace HRN := Lib.hid (show cs[1]? = some (.slice none 0 0) from by have q := HRN.out; rw [if_pos rfl] at q; exact q)
      have HGR : Hid (∀ u, RQ u v cs L g rs 0 fi → Calls Try.prog 71 #[.pointer (some ⟨v, 1, none⟩)] u (Grown v cs L g 0 u)) := Lib.hid fun u hu => queueGrow0 v cs L g rs fi u hu
      have HLM := Lib.hid hLm
      clear hLm
      go_enter Try.func68, Try.ntmps68
      have u0 := HQ.out.blk.kept 1 HRN.out
      have u1 := HQ.out.blk.kept 3 HCN.out
      go_upto_region 1 with fail
      generalize w.alloc (.cells #[.int .i64 c1, .int .i64 c2] 33) = w1 at *
      refine wp_region_kept (by kernel_rfl) (by kernel_rfl) ?_
      repeat (go_big_quiet_step (fail))
      refine wpQuiet_nil ?_
      rintro w2 ⟨⟨_, K2⟩, rfl⟩
      have HQ2 := Lib.hid (HQ.out.frm K2)
      have HX2 := Lib.hid (HX.out.next K2)
      have HF2 := Lib.hid (HF.out.trans (Frm.of_below K2 : Frm v g _ _) (.inl rfl))
      clear K2 u0 u1
      go_wp2_with fail
      refine (HGR.out _ HQ2.out).mono ?_
      rintro e w3 hG
      obtain ⟨rfl, cs3, g3, rs3, m3, fi3, HQ3, hlt, HC3, F3, hg3⟩ := hG.any HLM.out
      have HF3 := Lib.hid (HF2.out.trans F3 (.inl rfl))
      have HX3 := Lib.hid (HX2.out.frm F3 (by have := HGL.out.1; omega) (by have := HGL.out.2; omega))
      have HG3 := Lib.hid (Nat.le_trans HF2.out.size hg3)
      clear F3 hg3 HF2 HX2
      go_upto_region 3 with fail
      obtain ⟨hm03, HR1, HR3, HRG, HFS, HCT, hfi, hmt, hnm, p, HP, hpm, e1, e2, x0, y0, HX0, HY0⟩ := HQ3.out.half hlt rfl
      have HU := Lib.hid (And.intro HQ3.out.blk (And.intro HR1.out HX3.out))
      have z0 : ¬ (m3 : Int) = 0 := by omega
      have z1 : ((m3 : Int) == 0) = false := by simp; omega
      have p0 : (0 : Int) ≤ (p : Int) := by omega
      have p1 : (p : Int) < (m3 : Int) := by omega
      obtain ⟨n, hn⟩ : ∃ n, L.length = n := ⟨_, rfl⟩
      have HLN := Lib.hid hn
      rw [hn] at e1 e2 HP HCT
      have hn4 : n ≤ 400 := by omega
      have u0 := HU.out.1.kept 1 HRG.out
      have u1 := HU.out.1.kept 2 HFS.out
      have u2 := HU.out.1.kept 3 HCT.out
      have u3 := HU.out.2.2.kept 0 rfl
      have u4 := HU.out.2.2.kept 1 rfl
      clear hn hlt
      refine wp_region_ktail 20 (by kernel_rfl) (by kernel_rfl) ?_
      simp only [List.take_succ_cons, List.take_zero, List.drop_succ_cons, List.drop_zero]
      repeat (go_big_quiet_step (fail))
      refine wpQuiet_nil ?_
      rintro w5 ⟨⟨_, K5⟩, rfl⟩
      have HV6 := Lib.hid (((HU.out.1.next K5).other (fun e => HR3.out e.symm) (i := p * 2) (.int .i64 c1)).other (fun e => HR3.out e.symm) (i := p * 2 + 1) (.int .i64 c2))
      have HG5 := Lib.hid (HU.out.2.1.next K5)
      have HF5 := Lib.hid (HF3.out.trans (Frm.of_below K5 : Frm v g _ _) (.inl rfl))
      clear K5 u0 u1 u2 u3 u4
      have d0 := HG5.out.cell (p * 2) HX0.out
      have d1 := HG5.out.frozen (p * 2)
      have d2 := HG5.out.cell (p * 2 + 1) HY0.out
      have d3 := HG5.out.frozen (p * 2 + 1)
      have HG6 := Lib.hid ((HG5.out.set (p * 2) (.int .i64 c1)).set (p * 2 + 1) (.int .i64 c2))
      have HF6 := Lib.hid ((HF5.out.set g3 (.inr (.inr HG3.out)) (p * 2) (.int .i64 c1)).set g3 (.inr (.inr HG3.out)) (p * 2 + 1) (.int .i64 c2))
      go_upto_region 4 with fail
      clear d0 d1 d2 d3
      generalize (w5.setCell ⟨g3, p * 2, none⟩ (.int .i64 c1)).setCell ⟨g3, p * 2 + 1, none⟩ (.int .i64 c2) = w6 at *
      have d0 := HV6.out.cell 3 HCT.out
      have d1 := HV6.out.frozen 3
      go_wp2
      go_end0
      refine ⟨rfl, _, _, _, _, _, RQ.push HQ3.out (by have := HLN.out; omega) (by rw [HLN.out]; exact HP.out) (c1, c2) (by rw [HLN.out]; exact HV6.out.set 3 _) (HG6.out.other (HR3.out) (i := 3) _), ?_, HF6.out.set v (.inl rfl) 3 _, .inr HG3.out⟩
      intro i hi
      rw [Array.getElem?_setIfInBounds_ne (by omega)]
      exact HC3.out i hi
    · skip
      replace HCN := Lib.hid (show cs[3]? = some (.int .i64 (m : Int)) from by have q := HCN.out; rw [hLm] at q; exact q)
      replace HRN := Lib.hid (show cs[1]? = some (.slice (some ⟨g, 0, none⟩) m m) from by have q := HRN.out; rw [if_neg hm0] at q; exact q)
      have HGR : Hid (∀ u, RQ u v cs L g rs m fi → Calls Try.prog 71 #[.pointer (some ⟨v, 1, none⟩)] u (Grown v cs L g m u)) := Lib.hid fun u hu => queueGrow v cs L g rs m fi u hu (by omega) hm0
      have HLM := Lib.hid hLm
      clear hLm
      go_enter Try.func68, Try.ntmps68
      have u0 := HQ.out.blk.kept 1 HRN.out
      have u1 := HQ.out.blk.kept 3 HCN.out
      go_upto_region 1 with fail
      generalize w.alloc (.cells #[.int .i64 c1, .int .i64 c2] 33) = w1 at *
      refine wp_region_kept (by kernel_rfl) (by kernel_rfl) ?_
      repeat (go_big_quiet_step (fail))
      refine wpQuiet_nil ?_
      rintro w2 ⟨⟨_, K2⟩, rfl⟩
      have HQ2 := Lib.hid (HQ.out.frm K2)
      have HX2 := Lib.hid (HX.out.next K2)
      have HF2 := Lib.hid (HF.out.trans (Frm.of_below K2 : Frm v g _ _) (.inl rfl))
      clear K2 u0 u1
      go_wp2_with fail
      refine (HGR.out _ HQ2.out).mono ?_
      rintro e w3 hG
      obtain ⟨rfl, cs3, g3, rs3, m3, fi3, HQ3, hlt, HC3, F3, hg3⟩ := hG.any HLM.out
      have HF3 := Lib.hid (HF2.out.trans F3 (.inl rfl))
      have HX3 := Lib.hid (HX2.out.frm F3 (by have := HGL.out.1; omega) (by have := HGL.out.2; omega))
      have HG3 := Lib.hid (Nat.le_trans HF2.out.size hg3)
      clear F3 hg3 HF2 HX2
      go_upto_region 3 with fail
      obtain ⟨hm03, HR1, HR3, HRG, HFS, HCT, hfi, hmt, hnm, p, HP, hpm, e1, e2, x0, y0, HX0, HY0⟩ := HQ3.out.half hlt rfl
      have HU := Lib.hid (And.intro HQ3.out.blk (And.intro HR1.out HX3.out))
      have z0 : ¬ (m3 : Int) = 0 := by omega
      have z1 : ((m3 : Int) == 0) = false := by simp; omega
      have p0 : (0 : Int) ≤ (p : Int) := by omega
      have p1 : (p : Int) < (m3 : Int) := by omega
      obtain ⟨n, hn⟩ : ∃ n, L.length = n := ⟨_, rfl⟩
      have HLN := Lib.hid hn
      rw [hn] at e1 e2 HP HCT
      have hn4 : n ≤ 400 := by omega
      have u0 := HU.out.1.kept 1 HRG.out
      have u1 := HU.out.1.kept 2 HFS.out
      have u2 := HU.out.1.kept 3 HCT.out
      have u3 := HU.out.2.2.kept 0 rfl
      have u4 := HU.out.2.2.kept 1 rfl
      clear hn hlt
      refine wp_region_ktail 20 (by kernel_rfl) (by kernel_rfl) ?_
      simp only [List.take_succ_cons, List.take_zero, List.drop_succ_cons, List.drop_zero]
      repeat (go_big_quiet_step (fail))
      refine wpQuiet_nil ?_
      rintro w5 ⟨⟨_, K5⟩, rfl⟩
      have HV6 := Lib.hid (((HU.out.1.next K5).other (fun e => HR3.out e.symm) (i := p * 2) (.int .i64 c1)).other (fun e => HR3.out e.symm) (i := p * 2 + 1) (.int .i64 c2))
      have HG5 := Lib.hid (HU.out.2.1.next K5)
      have HF5 := Lib.hid (HF3.out.trans (Frm.of_below K5 : Frm v g _ _) (.inl rfl))
      clear K5 u0 u1 u2 u3 u4
      have d0 := HG5.out.cell (p * 2) HX0.out
      have d1 := HG5.out.frozen (p * 2)
      have d2 := HG5.out.cell (p * 2 + 1) HY0.out
      have d3 := HG5.out.frozen (p * 2 + 1)
      have HG6 := Lib.hid ((HG5.out.set (p * 2) (.int .i64 c1)).set (p * 2 + 1) (.int .i64 c2))
      have HF6 := Lib.hid ((HF5.out.set g3 (.inr (.inr HG3.out)) (p * 2) (.int .i64 c1)).set g3 (.inr (.inr HG3.out)) (p * 2 + 1) (.int .i64 c2))
      go_upto_region 4 with fail
      clear d0 d1 d2 d3
      generalize (w5.setCell ⟨g3, p * 2, none⟩ (.int .i64 c1)).setCell ⟨g3, p * 2 + 1, none⟩ (.int .i64 c2) = w6 at *
      have d0 := HV6.out.cell 3 HCT.out
      have d1 := HV6.out.frozen 3
      go_wp2
      go_end0
      refine ⟨rfl, _, _, _, _, _, RQ.push HQ3.out (by have := HLN.out; omega) (by rw [HLN.out]; exact HP.out) (c1, c2) (by rw [HLN.out]; exact HV6.out.set 3 _) (HG6.out.other (HR3.out) (i := 3) _), ?_, HF6.out.set v (.inl rfl) 3 _, .inr HG3.out⟩
      intro i hi
      rw [Array.getElem?_setIfInBounds_ne (by omega)]
      exact HC3.out i hi
end Go.Proofs.Ytkogoflcacameaa
