/- Valid paths: the program's PathValid and the document's. -/
import Derived.Test.YtkogoflcacameaaPv11
namespace Go.Proofs.Ytkogoflcacameaa
set_option maxRecDepth 100000
open Go.RowKit
attribute [local go_sem ↓] Go.wp_at_zero Go.wp_at_succ
/-- The first k cells are a path. -/
def validTo (T : List (List Bool)) (L : List C2) (k : Nat) : Prop := (∀ j, j < k → freeV T (L.getD j (0, 0)) = true) ∧ ∀ j, j + 1 < k → gap (L.getD (j + 1) (0, 0)) (L.getD j (0, 0)) = 1
theorem validTo.more {T : List (List Bool)} {L : List C2} {k : Nat} (h : validTo T L k) (h1 : freeV T (L.getD k (0, 0)) = true) (h2 : ∀ j, k = j + 1 → gap (L.getD k (0, 0)) (L.getD j (0, 0)) = 1) : validTo T L (k + 1) := by
  refine ⟨fun j hj => ?_, fun j hj => ?_⟩
  · by_cases e : j = k
    · subst e; exact h1
    · exact h.1 j (by omega)
  · by_cases e : j + 1 = k
    · subst e; exact h2 j rfl
    · exact h.2 j (by omega)
theorem validTo.all {T : List (List Bool)} {L : List C2} (hs : squV T) (h1 : 1 ≤ L.length) (h2 : L.length ≤ 400) (h : validTo T L L.length) : true = decide (validV T L) :=
  (decide_eq_true (p := validV T L) ⟨hs, h1, h2, h.1, h.2⟩).symm
theorem notV (T : List (List Bool)) (L : List C2) (h : ¬ validV T L) : false = decide (validV T L) := (decide_eq_false h).symm
set_option maxHeartbeats 4000000 in
theorem implPathValid (a : Option Addr) (len cap : Nat) (T : List (List Bool)) (pa : Option Addr) (pl pc : Nat) (L : List C2) (w : World) (h : Bol.RSA w a len T) (hl : len ≤ 9223372036854775807) (hp : Cel.PtsAt w pa pl L) (hpl : pl ≤ 9223372036854775807) :
    Calls Try.prog 21 #[.slice a len cap, .slice pa pl pc] w fun e w' => e = .returned (.bool (decide (validV T L))) ∧ Below w.heap.size w w' := by
  have HTV := Lib.hid (tableValid a len cap T w h hl)
  have HR := Lib.hid h
  have HP := Lib.hid hp
  have HN := Lib.hid hp.1
  clear h hp
  by_cases hs : squV T
  rotate_left
  · rw [decide_eq_false hs] at HTV
    have HV := Lib.hid (notV T L (fun q => hs q.1))
    clear hs
    go_enter Try.func21, Try.ntmps21
    go_wp2_with fail
    refine HTV.out.mono ?_
    rintro e w1 ⟨rfl, B1⟩
    have HB1 := Lib.hid B1
    clear B1 HTV
    go_wp2
    go_ret
    exact ⟨ret_bool HV.out, HB1.out⟩
  rw [decide_eq_true hs] at HTV
  have HS := Lib.hid hs
  clear hs
  by_cases h0 : pl = 0
  · subst h0
    have HV := Lib.hid (notV T L (fun q => by have := q.2.1; have := HN.out; omega))
    go_enter Try.func21, Try.ntmps21
    go_wp2_with fail
    refine HTV.out.mono ?_
    rintro e w1 ⟨rfl, B1⟩
    have HB1 := Lib.hid B1
    clear B1 HTV
    go_wp2
    go_ret
    exact ⟨ret_bool HV.out, HB1.out⟩
  have e0 : ((pl : Int) == 0) = false := by simp; omega
  by_cases h4 : 400 < pl
  · have HV := Lib.hid (notV T L (fun q => by have := q.2.2.1; have := HN.out; omega))
    have q4 : (400 : Int) < (pl : Int) := by omega
    clear h0 h4
    go_enter Try.func21, Try.ntmps21
    go_wp2_with fail
    refine HTV.out.mono ?_
    rintro e w1 ⟨rfl, B1⟩
    have HB1 := Lib.hid B1
    clear B1 HTV
    go_wp2
    go_ret
    exact ⟨ret_bool HV.out, HB1.out⟩
  have q4 : ¬ ((400 : Int) < (pl : Int)) := by omega
  go_enter Try.func21, Try.ntmps21
  go_wp2_with fail
  refine HTV.out.mono ?_
  rintro e w1 ⟨rfl, B1⟩
  have HB1 := Lib.hid B1
  clear B1 HTV
  go_wp2
  go_loopw [24] (fun i wr => ∃ k : Nat, k ≤ pl ∧ i = .int .i64 (k : Int) ∧ Hid (validTo T L k) ∧ Hid (Below w.heap.size w wr)) (fun i _ => pl - (intOf i).toNat)
  case atStart => exact ⟨0, Nat.zero_le _, rfl, Lib.hid ⟨fun j hj => by omega, fun j hj => by omega⟩, HB1⟩
  case round =>
    obtain ⟨k, hk, rfl, HJ, HW⟩ := hrel
    clear HB1
    by_cases hlt : k < pl
    · obtain ⟨b, rfl, ltb, hc⟩ := (HP.out.next HW.out).some (by omega)
      have HC := Lib.hid hc
      have HLB := Lib.hid ltb
      obtain ⟨d0, d1⟩ := hc k hlt
      have j1 : (0 : Int) ≤ (k : Int) := by omega
      have j2 : (k : Int) < (pl : Int) := by omega
      clear hc ltb
      obtain ⟨c, hc⟩ : ∃ c, L.getD k (0, 0) = c := ⟨_, rfl⟩
      rw [hc] at d0 d1
      have HCE := Lib.hid hc
      clear hc
      have Bx := below_box wr (.cells #[.int .i64 c.1, .int .i64 c.2] 33)
      have HW2 := Lib.hid (below_call HW.out Bx)
      have HQ := Lib.hid (AtP.box wr c.1 c.2 33)
      have HLB2 := Lib.hid (Nat.lt_of_lt_of_le HLB.out Bx.size)
      have HC2 := Lib.hid (fun i (hi : i < pl) => show (wr.alloc (.cells #[.int .i64 c.1, .int .i64 c.2] 33)).cell? ⟨b, i * 2, none⟩ = some (.int .i64 (L.getD i (0, 0)).1) ∧ (wr.alloc (.cells #[.int .i64 c.1, .int .i64 c.2] 33)).cell? ⟨b, i * 2 + 1, none⟩ = some (.int .i64 (L.getD i (0, 0)).2) from ⟨(Bx.cell (p := ⟨b, i * 2, none⟩) HLB.out).trans (HC.out i hi).1, (Bx.cell (p := ⟨b, i * 2 + 1, none⟩) HLB.out).trans (HC.out i hi).2⟩)
      clear Bx
      go_upto_region 7 with fail
      generalize wr.alloc (.cells #[.int .i64 c.1, .int .i64 c.2] 33) = w2 at *
      clear d0 d1
      obtain ⟨e0', e1'⟩ := HQ.out.kepts
      have HF := Lib.hid (fun (q : Kept w2) => keptCall (isFreeC a len cap T c.1 c.2 q.u (HR.out.next (below_call HW2.out q.b)) hl))
      by_cases hf : freeV T c = true
      rotate_left
      · have hf' : freeV T (c.1, c.2) = false := by simpa using hf
        rw [hf'] at HF
        have HV := Lib.hid (notV T L (fun q => hf (by rw [← HCE.out]; exact q.2.2.2.1 k (by rw [← HN.out]; exact hlt))))
        clear hf hf'
        refine wp_region_kept (by kernel_rfl) (by kernel_rfl) ?_
        repeat (go_big_quiet_step ((go_at_call 44; with_reducible exact HF.out _)))
        refine wpQuiet_nil ?_
        rintro w5 ⟨⟨_, K2⟩, rfl⟩
        have HW5 := Lib.hid (below_call HW2.out K2)
        clear K2 e0' e1' HF
        go_wp2
        go_ret
        exact ⟨ret_bool HV.out, HW5.out⟩
      have hf' : freeV T (c.1, c.2) = true := hf
      rw [hf'] at HF
      have HFR := Lib.hid hf
      clear hf hf'
      by_cases hk0 : k = 0
      · subst hk0
        have HJ2 := Lib.hid (HJ.out.more (by rw [HCE.out]; exact HFR.out) (fun j hj => by omega))
        refine wp_region_kept (by kernel_rfl) (by kernel_rfl) ?_
        repeat (go_big_quiet_step ((go_at_call 44; with_reducible exact HF.out _)))
        refine wpQuiet_nil ?_
        rintro w5 ⟨⟨_, K2⟩, rfl⟩
        have HW5 := Lib.hid (below_call HW2.out K2)
        clear K2 e0' e1' HF
        go_wp2
        go_roundw
        case rel => exact ⟨0 + 1, by omega, by congr 1, HJ2, HW5⟩
        case measure => simp [intOf]; omega
      obtain ⟨j, hj⟩ : ∃ j, k = j + 1 := ⟨k - 1, by omega⟩
      have HKJ := Lib.hid hj
      have g1 : (0 : Int) < (k : Int) := by omega
      have g2 : 0 < k := by omega
      have o1 : IntKind.i64.wrap ((k : Int) - 1) = (j : Int) := by rw [show (k : Int) - 1 = (j : Int) by omega]; exact wrap_in (by omega) (by omega)
      have j3 : (0 : Int) ≤ (j : Int) := by omega
      have j4 : (j : Int) < (pl : Int) := by omega
      have u0 := keptCell HLB2.out (HC2.out j (by omega)).1
      have u1 := keptCell HLB2.out (HC2.out j (by omega)).2
      clear hj
      obtain ⟨d, hd⟩ : ∃ d, L.getD j (0, 0) = d := ⟨_, rfl⟩
      rw [hd] at u0 u1
      have HDE := Lib.hid hd
      clear hd
      have HG := Lib.hid (fun (q : Kept w2) => keptCall (isBesideC c d q.u (freeV_small HS.out HFR.out)))
      by_cases hg : gap c d = 1
      · rw [decide_eq_true hg] at HG
        have HJ2 := Lib.hid (HJ.out.more (by rw [HCE.out]; exact HFR.out) (fun i hi => by obtain rfl : i = j := (by have := HKJ.out; omega); rw [HCE.out, HDE.out]; exact hg))
        clear hg
        refine wp_region_kept (by kernel_rfl) (by kernel_rfl) ?_
        repeat (go_big_quiet_step (first | (go_at_call 44; with_reducible exact HF.out _) | (go_at_call 51; with_reducible exact HG.out _)))
        refine wpQuiet_nil ?_
        rintro w5 ⟨⟨_, K2⟩, rfl⟩
        have HW5 := Lib.hid (below_call HW2.out K2)
        clear K2 e0' e1' u0 u1 HF HG
        go_wp2
        go_roundw
        case rel => exact ⟨k + 1, by omega, by congr 1, HJ2, HW5⟩
        case measure => simp [intOf]; omega
      · rw [decide_eq_false hg] at HG
        have HV := Lib.hid (notV T L (fun q => hg (by rw [← HCE.out, ← HDE.out]; have h5 := q.2.2.2.2 j (by rw [← HN.out, ← HKJ.out]; exact hlt); rw [← HKJ.out] at h5; exact h5)))
        clear hg
        refine wp_region_kept (by kernel_rfl) (by kernel_rfl) ?_
        repeat (go_big_quiet_step (first | (go_at_call 44; with_reducible exact HF.out _) | (go_at_call 51; with_reducible exact HG.out _)))
        refine wpQuiet_nil ?_
        rintro w5 ⟨⟨_, K2⟩, rfl⟩
        have HW5 := Lib.hid (below_call HW2.out K2)
        clear K2 e0' e1' u0 u1 HF HG
        go_wp2
        go_ret
        exact ⟨ret_bool HV.out, HW5.out⟩
    · obtain rfl : k = pl := by omega
      have j2 : ¬ ((k : Int) < (k : Int)) := by omega
      have HV := Lib.hid (validTo.all (T := T) (L := L) HS.out (by have := HN.out; omega) (by have := HN.out; omega) (by rw [← HN.out]; exact HJ.out))
      go_wp2
      go_ret
      exact ⟨ret_bool HV.out, HW.out⟩
set_option maxHeartbeats 4000000 in
theorem specPathValid (a : Option Addr) (len cap : Nat) (T : List (List Bool)) (pa : Option Addr) (pl pc : Nat) (L : List C2) (w : World) (h : Bol.RSA w a len T) (hl : len ≤ 9223372036854775807) (hp : Cel.PtsAt w pa pl L) (hpl : pl ≤ 9223372036854775807) :
    Calls Try.prog 24 #[.slice a len cap, .slice pa pl pc] w fun e w' => e = .returned (.bool (decide (validV T L))) ∧ Below w.heap.size w w' := by
  have HTV := Lib.hid (l11SquareC a len cap T w h hl)
  have HR := Lib.hid h
  have HP := Lib.hid hp
  have HN := Lib.hid hp.1
  clear h hp
  by_cases hs : squV T
  rotate_left
  · rw [decide_eq_false hs] at HTV
    have HV := Lib.hid (notV T L (fun q => hs q.1))
    clear hs
    go_enter Try.func24, Try.ntmps24
    go_wp2_with fail
    refine HTV.out.mono ?_
    rintro e w1 ⟨rfl, B1⟩
    have HB1 := Lib.hid B1
    clear B1 HTV
    go_wp2
    go_ret
    exact ⟨ret_bool HV.out, HB1.out⟩
  rw [decide_eq_true hs] at HTV
  have HS := Lib.hid hs
  clear hs
  by_cases h0 : 1 ≤ pl ∧ pl ≤ 400
  rotate_left
  · have HV := Lib.hid (notV T L (fun q => h0 (by have := q.2.1; have := q.2.2.1; have := HN.out; omega)))
    have HI := Lib.hid (fun (u : World) => l1In_no (pl : Int) 1 400 u (by omega))
    clear h0
    go_enter Try.func24, Try.ntmps24
    go_wp2_with fail
    refine HTV.out.mono ?_
    rintro e w1 ⟨rfl, B1⟩
    have HB1 := Lib.hid B1
    clear B1 HTV
    go_wp2_with fail
    refine (HI.out _).mono ?_
    rintro e w' ⟨rfl, rfl⟩
    go_wp2
    go_ret
    exact ⟨ret_bool HV.out, HB1.out⟩
  have HI := Lib.hid (fun (u : World) => l1In_yes (pl : Int) 1 400 u (by omega) (by omega))
  go_enter Try.func24, Try.ntmps24
  go_wp2_with fail
  refine HTV.out.mono ?_
  rintro e w1 ⟨rfl, B1⟩
  have HB1 := Lib.hid B1
  clear B1 HTV
  go_wp2_with fail
  refine (HI.out _).mono ?_
  rintro e w' ⟨rfl, rfl⟩
  go_wp2
  go_loopw [5] (fun i wr => ∃ k : Nat, k ≤ pl ∧ i = .int .i64 (k : Int) ∧ Hid (validTo T L k) ∧ Hid (Below w.heap.size w wr)) (fun i _ => pl - (intOf i).toNat)
  case atStart => exact ⟨0, Nat.zero_le _, rfl, Lib.hid ⟨fun j hj => by omega, fun j hj => by omega⟩, HB1⟩
  case round =>
    obtain ⟨k, hk, rfl, HJ, HW⟩ := hrel
    clear HB1
    by_cases hlt : k < pl
    · obtain ⟨b, rfl, ltb, hc⟩ := (HP.out.next HW.out).some (by omega)
      have HC := Lib.hid hc
      have HLB := Lib.hid ltb
      obtain ⟨d0, d1⟩ := hc k hlt
      have j1 : (0 : Int) ≤ (k : Int) := by omega
      have j2 : (k : Int) < (pl : Int) := by omega
      clear hc ltb
      obtain ⟨c, hc⟩ : ∃ c, L.getD k (0, 0) = c := ⟨_, rfl⟩
      rw [hc] at d0 d1
      have HCE := Lib.hid hc
      clear hc
      have HF := Lib.hid (l11FreeC a len cap T c.1 c.2 wr (HR.out.next HW.out) hl)
      by_cases hf : freeV T c = true
      rotate_left
      · have hf' : freeV T (c.1, c.2) = false := by simpa using hf
        rw [hf'] at HF
        have HV := Lib.hid (notV T L (fun q => hf (by rw [← HCE.out]; exact q.2.2.2.1 k (by rw [← HN.out]; exact hlt))))
        clear hf hf'
        go_wp2_with fail
        refine HF.out.mono ?_
        rintro e w2 ⟨rfl, B2⟩
        have HW2 := Lib.hid (below_call HW.out B2)
        clear B2 d0 d1
        go_wp2
        go_ret
        exact ⟨ret_bool HV.out, HW2.out⟩
      have hf' : freeV T (c.1, c.2) = true := hf
      rw [hf'] at HF
      have HFR := Lib.hid hf
      clear hf hf'
      go_wp2_with fail
      refine HF.out.mono ?_
      rintro e w2 ⟨rfl, B2⟩
      have HW2 := Lib.hid (below_call HW.out B2)
      have HLB2 := Lib.hid (Nat.lt_of_lt_of_le HLB.out B2.size)
      have HC2 := Lib.hid (fun i (hi : i < pl) => show w2.cell? ⟨b, i * 2, none⟩ = some (.int .i64 (L.getD i (0, 0)).1) ∧ w2.cell? ⟨b, i * 2 + 1, none⟩ = some (.int .i64 (L.getD i (0, 0)).2) from ⟨(B2.cell (p := ⟨b, i * 2, none⟩) HLB.out).trans (HC.out i hi).1, (B2.cell (p := ⟨b, i * 2 + 1, none⟩) HLB.out).trans (HC.out i hi).2⟩)
      clear B2 d0 d1 HC HLB HF
      go_upto_region 8 with fail
      by_cases hk0 : k = 0
      · subst hk0
        have HJ2 := Lib.hid (HJ.out.more (by rw [HCE.out]; exact HFR.out) (fun j hj => by omega))
        refine wp_region_kept (by kernel_rfl) (by kernel_rfl) ?_
        repeat (go_big_quiet_step (fail))
        refine wpQuiet_nil ?_
        rintro w5 ⟨⟨_, K2⟩, rfl⟩
        have HW5 := Lib.hid (below_call HW2.out K2)
        clear K2 
        go_wp2
        go_roundw
        case rel => exact ⟨0 + 1, by omega, by congr 1, HJ2, HW5⟩
        case measure => simp [intOf]; omega
      obtain ⟨j, hj⟩ : ∃ j, k = j + 1 := ⟨k - 1, by omega⟩
      have HKJ := Lib.hid hj
      have g1 : (0 : Int) < (k : Int) := by omega
      have g2 : 0 < k := by omega
      have o1 : IntKind.i64.wrap ((k : Int) - 1) = (j : Int) := by rw [show (k : Int) - 1 = (j : Int) by omega]; exact wrap_in (by omega) (by omega)
      have j3 : (0 : Int) ≤ (j : Int) := by omega
      have j4 : (j : Int) < (pl : Int) := by omega
      have u0 := keptCell HLB2.out (HC2.out j (by omega)).1
      have u1 := keptCell HLB2.out (HC2.out j (by omega)).2
      have u2 := keptCell HLB2.out (HC2.out k (by omega)).1
      have u3 := keptCell HLB2.out (HC2.out k (by omega)).2
      rw [HCE.out] at u2 u3
      clear hj
      have HFD := Lib.hid (HJ.out.1 j (by have := HKJ.out; omega))
      obtain ⟨d, hd⟩ : ∃ d, L.getD j (0, 0) = d := ⟨_, rfl⟩
      rw [hd] at u0 u1 HFD
      have HDE := Lib.hid hd
      clear hd
      obtain ⟨x1, x2, x3, x4⟩ := freeV_small HS.out HFR.out
      obtain ⟨y1, y2, y3, y4⟩ := freeV_small HS.out HFD.out
      have HGP := Lib.hid (show gap c d = 1 ↔ (((c.1 - d.1).natAbs : Int) + ((c.2 - d.2).natAbs : Int) = 1) by unfold gap; omega)
      have m1 : (if c.1 - d.1 < d.1 - c.1 then d.1 - c.1 else c.1 - d.1) = ((c.1 - d.1).natAbs : Int) := by split <;> omega
      have m2 : (if c.2 - d.2 < d.2 - c.2 then d.2 - c.2 else c.2 - d.2) = ((c.2 - d.2).natAbs : Int) := by split <;> omega
      have hM1 : (c.1 - d.1).natAbs ≤ 100 := by omega
      have hM2 : (c.2 - d.2).natAbs ≤ 100 := by omega
      generalize (c.1 - d.1).natAbs = M1 at *
      generalize (c.2 - d.2).natAbs = M2 at *
      by_cases hg : (M1 : Int) + (M2 : Int) = 1
      · have b1 : ((M1 : Int) + (M2 : Int) != 1) = false := by simp [hg]
        have HJ2 := Lib.hid (HJ.out.more (by rw [HCE.out]; exact HFR.out) (fun i hi => by obtain rfl : i = j := (by have := HKJ.out; omega); rw [HCE.out, HDE.out]; exact HGP.out.2 hg))
        clear hg
        refine wp_region_kept (by kernel_rfl) (by kernel_rfl) ?_
        repeat (go_big_quiet_step (fail))
        refine wpQuiet_nil ?_
        rintro w5 ⟨⟨_, K2⟩, rfl⟩
        have HW5 := Lib.hid (below_call HW2.out K2)
        clear K2 u0 u1 u2 u3
        go_wp2
        go_roundw
        case rel => exact ⟨k + 1, by omega, by congr 1, HJ2, HW5⟩
        case measure => simp [intOf]; omega
      · have b1 : ((M1 : Int) + (M2 : Int) != 1) = true := by simp [hg]
        have HV := Lib.hid (notV T L (fun q => hg (HGP.out.1 (by rw [← HCE.out, ← HDE.out]; have h5 := q.2.2.2.2 j (by rw [← HN.out, ← HKJ.out]; exact hlt); rw [← HKJ.out] at h5; exact h5))))
        clear hg
        refine wp_region_kept (by kernel_rfl) (by kernel_rfl) ?_
        repeat (go_big_quiet_step (fail))
        refine wpQuiet_nil ?_
        rintro w5 ⟨⟨_, K2⟩, rfl⟩
        have HW5 := Lib.hid (below_call HW2.out K2)
        clear K2 u0 u1 u2 u3
        go_wp2
        go_ret
        exact ⟨ret_bool HV.out, HW5.out⟩
    · obtain rfl : k = pl := by omega
      have j2 : ¬ ((k : Int) < (k : Int)) := by omega
      have HV := Lib.hid (validTo.all (T := T) (L := L) HS.out (by have := HN.out; omega) (by have := HN.out; omega) (by rw [← HN.out]; exact HJ.out))
      go_wp2
      go_ret
      exact ⟨ret_bool HV.out, HW.out⟩
end Go.Proofs.Ytkogoflcacameaa
