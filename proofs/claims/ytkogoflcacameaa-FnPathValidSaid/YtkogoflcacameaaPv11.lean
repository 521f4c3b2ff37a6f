/- Neighbours and valid paths: what the program's and the document's functions answer. -/
import Derived.Test.YtkogoflcacameaaTf11
import Derived.Test.YtkogoflcacameaaCe11
import Derived.Test.YtkogoflcacameaaCl7
import Derived.Test.YtkogoflcacameaaBp11
namespace Go.Proofs.Ytkogoflcacameaa
set_option maxRecDepth 100000
open Go.RowKit
attribute [local go_sem ↓] Go.wp_at_zero Go.wp_at_succ
theorem Cel.PtsAt.next {w w' : World} {a : Option Addr} {len : Nat} {ps : List (Int × Int)} (h : Cel.PtsAt w a len ps) (hb : Below w.heap.size w w') : Cel.PtsAt w' a len ps :=
  ⟨h.1, h.2.imp id fun ⟨b, h1, h2, h3⟩ => ⟨b, h1, Nat.lt_of_lt_of_le h2 hb.size, fun i hi => ⟨(hb.cell (p := ⟨b, i * 2, none⟩) h2).trans (h3 i hi).1, (hb.cell (p := ⟨b, i * 2 + 1, none⟩) h2).trans (h3 i hi).2⟩⟩⟩
theorem eqT11 {a b : C2} (h : a = b) (u : World) : (if a.1 = b.1 then if a.2 = b.2 then Result.ok (Next.value (Value.bool true)) u else Result.ok (Next.value (Value.bool false)) u else Result.ok (Next.value (Value.bool false)) u) = Result.ok (Next.value (Value.bool true)) u := by
  rw [if_pos (by rw [h]), if_pos (by rw [h])]
theorem eqF11 {a b : C2} (h : a ≠ b) (u : World) : (if a.1 = b.1 then if a.2 = b.2 then Result.ok (Next.value (Value.bool true)) u else Result.ok (Next.value (Value.bool false)) u else Result.ok (Next.value (Value.bool false)) u) = Result.ok (Next.value (Value.bool false)) u := by
  by_cases h1 : a.1 = b.1
  · rw [if_pos h1, if_neg (fun h2 => h (Prod.ext h1 h2))]
  · rw [if_neg h1]
/-- A cell's neighbours as the value of an array. -/
abbrev nbv (x y : Int) : Value := .agg #[.int .i64 (x - 1), .int .i64 y, .int .i64 x, .int .i64 (y - 1), .int .i64 x, .int .i64 (y + 1), .int .i64 (x + 1), .int .i64 y]
set_option maxHeartbeats 2000000 in
theorem nbsC (x y : Int) (w : World) (h : smC (x, y)) :
    Calls Try.prog 62 #[pt x y] w fun e w' => e = .returned (nbv x y) ∧ Below w.heap.size w w' := by
  obtain ⟨h1, h2, h3, h4⟩ := h
  simp only at h1 h2 h3 h4
  have o1 : IntKind.i64.wrap (x - 1) = x - 1 := wrap_in (by omega) (by omega)
  have o2 : IntKind.i64.wrap (y - 1) = y - 1 := wrap_in (by omega) (by omega)
  have o3 : IntKind.i64.wrap (y + 1) = y + 1 := wrap_in (by omega) (by omega)
  have o4 : IntKind.i64.wrap (x + 1) = x + 1 := wrap_in (by omega) (by omega)
  have hne : w.heap.size ≤ w.heap.size + 1 := by omega
  have HB := Lib.hid (below_box2 w (.cells #[.int .i64 x, .int .i64 y] 33) (.cells #[.int .i64 (x - 1), .int .i64 y, .int .i64 x, .int .i64 (y - 1), .int .i64 x, .int .i64 (y + 1), .int .i64 (x + 1), .int .i64 y] 95))
  clear h1 h2 h3 h4
  go_enter Try.func62, Try.ntmps62
  go_wp2
  exact bodyPost_ret (v := nbv x y) (by simp [results, Try.results62, go_sem]) rfl ⟨rfl, HB.out⟩
set_option maxHeartbeats 2000000 in
theorem index11 (a : Option Addr) (len cap : Nat) (ps : List C2) (c : C2) (w : World) (h : Cel.PtsAt w a len ps) (hl : len ≤ 1048576) :
    Calls Try.prog 70 #[.slice a len cap, pt c.1 c.2] w fun e w' => ∃ i : Int, e = .returned (.int .i64 i) ∧ Hid (0 ≤ i ↔ c ∈ ps) ∧ Below w.heap.size w w' := by
  have HB := Lib.hid (below_box w (.cells #[.int .i64 c.1, .int .i64 c.2] 33))
  have HP := Lib.hid (AtP.box w c.1 c.2 33)
  have HN := Lib.hid h.1
  have HR := Lib.hid (h.next HB.out)
  clear h
  go_enter Try.func70, Try.ntmps70
  go_upto_region 1 with fail
  generalize w.alloc (.cells #[.int .i64 c.1, .int .i64 c.2] 33) = w0 at *
  go_wp2
  go_loopw [8] (fun i wr => ∃ k : Nat, k ≤ len ∧ i = .int .i64 (k : Int) ∧ Hid (∀ j, j < k → ps.getD j (0, 0) ≠ c) ∧ Hid (Below w0.heap.size w0 wr)) (fun i _ => len - (intOf i).toNat)
  case atStart => exact ⟨0, Nat.zero_le _, rfl, Lib.hid (fun j hj => by omega), Lib.hid (Below.refl _ _)⟩
  case round =>
    obtain ⟨k, hk, rfl, HJ, HW⟩ := hrel
    by_cases hlt : k < len
    · obtain ⟨b, rfl, ltb, hc⟩ := (show Cel.PtsAt wr a len ps from HR.out.next HW.out).some (by omega)
      have u0 := keptCell ltb (hc k hlt).1
      have u1 := keptCell ltb (hc k hlt).2
      obtain ⟨e0, e1⟩ := (HP.out.next HW.out).kepts
      have j1 : (0 : Int) ≤ (k : Int) := by omega
      have j2 : (k : Int) < (len : Int) := by omega
      have HMEM := Lib.hid (show ps.getD k (0, 0) ∈ ps from by rw [List.getD_eq_getElem?_getD, List.getElem?_eq_getElem (by rw [← HN.out]; exact hlt)]; exact List.getElem_mem _)
      clear hc ltb
      generalize hpe : ps.getD k (0, 0) = p at *
      have HPE := Lib.hid hpe
      clear hpe
      by_cases he : c = p
      · have hb := eqT11 he
        have HV := Lib.hid (show (0 : Int) ≤ (k : Int) ↔ c ∈ ps from ⟨fun _ => by rw [he]; exact HMEM.out, fun _ => by omega⟩)
        clear he
        go_upto_region 4 with fail
        refine wp_region_kept (by kernel_rfl) (by kernel_rfl) ?_
        repeat (go_big_quiet_step (fail))
        refine wpQuiet_nil ?_
        rintro w5 ⟨⟨_, K2⟩, rfl⟩
        have HW5 := Lib.hid (below_call HW.out K2)
        clear u0 u1 e0 e1 K2
        go_wp2
        go_ret
        exact ⟨_, rfl, HV, below_call HB.out HW5.out⟩
      · have hb := eqF11 he
        have HJ2 : Hid (∀ j, j < k + 1 → ps.getD j (0, 0) ≠ c) := Lib.hid fun j hj => by
          by_cases e : j = k
          · subst e; rw [HPE.out]; exact fun q => he q.symm
          · exact HJ.out j (by omega)
        clear he
        go_upto_region 4 with fail
        refine wp_region_kept (by kernel_rfl) (by kernel_rfl) ?_
        repeat (go_big_quiet_step (fail))
        refine wpQuiet_nil ?_
        rintro w5 ⟨⟨_, K2⟩, rfl⟩
        have HW5 := Lib.hid (below_call HW.out K2)
        clear u0 u1 e0 e1 K2
        go_wp2
        go_roundw
        case rel => exact ⟨k + 1, by omega, by congr 1, HJ2, HW5⟩
        case measure => simp [intOf]; omega
    · obtain rfl : k = len := by omega
      have j2 : ¬ ((k : Int) < (k : Int)) := by omega
      have HV := Lib.hid (show (0 : Int) ≤ -1 ↔ c ∈ ps from ⟨fun q => by omega, fun q => by
        obtain ⟨i, hi, e⟩ := List.getElem_of_mem q
        exact absurd (by rw [List.getD_eq_getElem?_getD, List.getElem?_eq_getElem hi]; exact e) (HJ.out i (by rw [HN.out]; exact hi))⟩)
      go_wp2
      go_ret
      exact ⟨_, rfl, HV, below_call HB.out HW.out⟩
theorem contains11 (a : Option Addr) (len cap : Nat) (ps : List C2) (c : C2) (w : World) (h : Cel.PtsAt w a len ps) (hl : len ≤ 1048576) :
    Calls Try.prog 64 #[.slice a len cap, pt c.1 c.2] w fun e w' => e = .returned (.bool (decide (c ∈ ps))) ∧ Below w.heap.size w w' := by
  have HB := Lib.hid (below_box w (.cells #[.int .i64 c.1, .int .i64 c.2] 33))
  have HI := Lib.hid (index11 a len cap ps c _ (h.next HB.out) hl)
  generalize hv : decide (c ∈ ps) = v
  replace hv := Lib.hid hv
  clear h
  go_enter Try.func64, Try.ntmps64
  go_wp2_with fail
  refine HI.out.mono ?_
  rintro e w1 ⟨i, rfl, hi, B1⟩
  have HB1 := Lib.hid (below_call HB.out B1)
  have HV := Lib.hid (show decide (0 ≤ i) = v by rw [← hv.out]; exact Bool.eq_iff_iff.2 (by simp only [decide_eq_true_eq]; exact hi.out))
  clear B1 HI hi
  go_wp2
  go_ret
  exact ⟨ret_bool HV.out, HB1.out⟩
theorem nbs_mem {c d : C2} : d ∈ nbs c ↔ gap c d = 1 := adj_gap (c := c) (d := d)
theorem nbs_at (w : World) (x y : Int) (T : TypeId) : Cel.PtsAt (w.alloc (.cells #[.int .i64 (x - 1), .int .i64 y, .int .i64 x, .int .i64 (y - 1), .int .i64 x, .int .i64 (y + 1), .int .i64 (x + 1), .int .i64 y] T)) (some ⟨w.heap.size, 0, none⟩) 4 (nbs (x, y)) := by
  refine ⟨rfl, .inr ⟨_, rfl, by simp, fun i hi => ?_⟩⟩
  have hi' : i < 4 := hi
  have : i = 0 ∨ i = 1 ∨ i = 2 ∨ i = 3 := by omega
  rcases this with rfl | rfl | rfl | rfl <;> simp [nbs]
set_option maxHeartbeats 2000000 in
theorem isBesideC (c d : C2) (w : World) (h : smC c) :
    Calls Try.prog 51 #[pt c.1 c.2, pt d.1 d.2] w fun e w' => e = .returned (.bool (decide (gap c d = 1))) ∧ Below w.heap.size w w' := by
  have HB := Lib.hid (below_box2 w (.cells #[.int .i64 c.1, .int .i64 c.2] 33) (.cells #[.int .i64 d.1, .int .i64 d.2] 33))
  obtain ⟨P, Q⟩ := at2 w c.1 c.2 d.1 d.2 33
  have HV := Lib.hid (show decide (d ∈ nbs c) = decide (gap c d = 1) from Bool.eq_iff_iff.2 (by simp only [decide_eq_true_eq]; exact nbs_mem))
  rw [← HV.out]
  obtain ⟨x, y⟩ := c
  simp only at *
  have HN := Lib.hid (nbsC x y ((w.alloc (.cells #[.int .i64 x, .int .i64 y] 33)).alloc (.cells #[.int .i64 d.1, .int .i64 d.2] 33)) h)
  clear h HV
  generalize hv : decide (d ∈ nbs (x, y)) = v
  replace hv := Lib.hid hv
  go_enter Try.func51, Try.ntmps51
  go_wp2_with fail
  refine HN.out.mono ?_
  generalize (w.alloc (.cells #[.int .i64 x, .int .i64 y] 33)).alloc (.cells #[.int .i64 d.1, .int .i64 d.2] 33) = w0 at *
  rintro e w1 ⟨rfl, B1⟩
  have HB1 := Lib.hid (below_call HB.out B1)
  have Bx := below_box w1 (.cells #[.int .i64 (x - 1), .int .i64 y, .int .i64 x, .int .i64 (y - 1), .int .i64 x, .int .i64 (y + 1), .int .i64 (x + 1), .int .i64 y] 95)
  have HQ := Lib.hid ((Q.next B1).next Bx)
  have HL := Lib.hid (nbs_at w1 x y 95)
  have HB2 := Lib.hid (below_call HB1.out Bx)
  clear B1 Bx P Q HN
  go_upto_region 2 with fail
  generalize w1.alloc (.cells #[.int .i64 (x - 1), .int .i64 y, .int .i64 x, .int .i64 (y - 1), .int .i64 x, .int .i64 (y + 1), .int .i64 (x + 1), .int .i64 y] 95) = w2 at *
  obtain ⟨e0, e1⟩ := HQ.out.kepts
  have HC := Lib.hid (fun (q : Kept w2) => keptCall (contains11 (some ⟨w1.heap.size, 0, none⟩) 4 4 (nbs (x, y)) d q.u (HL.out.next q.b) (by omega)))
  rw [hv.out] at HC
  refine wp_region_kept (by kernel_rfl) (by kernel_rfl) ?_
  repeat (go_big_quiet_step ((go_at_call 64; with_reducible exact HC.out _)))
  refine wpQuiet_nil ?_
  rintro w5 ⟨⟨_, K2⟩, rfl⟩
  have HB5 := Lib.hid (below_call HB2.out K2)
  clear e0 e1 K2 HC
  go_wp2
  go_ret
  exact ⟨rfl, HB5.out⟩
end Go.Proofs.Ytkogoflcacameaa
