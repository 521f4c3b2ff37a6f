/- The document's l7Value and l7Point: a point of a curve by rows of numbers. -/
import Derived.Test.YtlbheofomjakmaaCp7
import Derived.Test.YtlbheofomjakmaaKApp
import Derived.Test.YtlbheofomjakmaaDrawO
namespace Go.Proofs.Ytlbheofomjakmaa
set_option maxRecDepth 100000
open Go.RowKit
attribute [local go_sem ↓] Go.wp_at_zero Go.wp_at_succ
/-- m numbers of the l-th row of the scheme. -/
def casM (t : Int) (f : Nat → Int) (l m : Nat) : List Int := (List.range m).map fun (i : Nat) => cas t f l i
theorem casM_len (t : Int) (f : Nat → Int) (l m : Nat) : (casM t f l m).length = m := by simp [casM]
theorem casM_at (t : Int) (f : Nat → Int) (l m i : Nat) (h : i < m) : (casM t f l m)[i]? = some (cas t f l i) := by
  unfold casM; rw [List.getElem?_map, List.getElem?_range h]; rfl
theorem casM_zero (t : Int) (zs : List Int) : casM t (fun i => zs.getD i 0) 0 zs.length = zs := by
  apply List.ext_getElem?
  intro i
  by_cases h : i < zs.length
  · rw [casM_at _ _ _ _ _ h, List.getElem?_eq_getElem h, cas_zero, List.getD_eq_getElem?_getD, List.getElem?_eq_getElem h]; rfl
  · rw [List.getElem?_eq_none (by rw [casM_len]; omega), List.getElem?_eq_none (by omega)]
theorem OwnI.cell7 {w : World} {B g n cap : Nat} {zs : List Int} (h : OwnI w B (.slice (some ⟨g, 0, none⟩) n cap) zs) {i : Nat} {z : Int} (hz : zs[i]? = some z) : w.cell? ⟨g, i, none⟩ = some (.int .i64 z) := by
  have hi := (List.getElem?_eq_some_iff.1 hz).1
  obtain rfl : n = zs.length := h.ints.1
  rw [World.ownsRow.cellAt h i (by omega), List.getElem?_map, hz]; rfl
theorem ints_news {w : World} {b off len : Nat} {zs : List Int} (h : IntsAt w (some ⟨b, off, none⟩) len zs) : ∀ j v, (vals zs)[j]? = some v → w.cell? ((⟨b, off, none⟩ : Addr).add j) = some v := by
  intro j v hv
  have hj : j < zs.length := by have := (List.getElem?_eq_some_iff.1 hv).1; simpa [vals] using this
  rcases h.2 with h2 | ⟨b', off', e, _, hc⟩
  · rw [h2] at hj; simp at hj
  · simp only [Option.some.injEq, Addr.mk.injEq, and_true] at e
    obtain ⟨rfl, rfl⟩ := e
    have ha : (⟨b, off, none⟩ : Addr).add j = ⟨b, off + j, none⟩ := by unfold Addr.add; split <;> simp_all
    rw [ha, hc j hj, List.getD_eq_getElem?_getD, List.getElem?_eq_getElem hj]
    rw [vals, List.getElem?_map, List.getElem?_eq_getElem hj] at hv
    exact hv
theorem vals_one7 (zs : List Int) : ∀ v ∈ vals zs, v.oneCell' = true := by
  intro v hv
  obtain ⟨j, _, rfl⟩ := List.mem_map.1 hv
  rfl
theorem ownI_empty7 (w : World) (B : Nat) (hB : B ≤ w.heap.size) (T : TypeId) (hT : T = 3) : OwnI (w.alloc (.cells #[] T)) B (.slice (some ⟨w.heap.size, 0, none⟩) 0 0) [] := by
  subst hT
  have := World.ownsRow_lit (base := B) (e := 3) (size := 1) w #[] 0 hB (Nat.zero_le _) rfl
  unfold OwnI
  simpa using this
set_option maxHeartbeats 4000000 in
theorem l7Value (b off len cap : Nat) (zs : List Int) (t : Int) (w : World) (h : IntsAt w (some ⟨b, off, none⟩) len zs) (n1 : 1 ≤ len) (n4 : len ≤ 4) (t0 : 0 ≤ t) (t1 : t ≤ 64) (hz : ∀ i, -10000 ≤ zs.getD i 0 ∧ zs.getD i 0 ≤ 10000) :
    Calls Try.prog 58 #[.slice (some ⟨b, off, none⟩) len cap, .int .i64 t] w fun e w' => e = .returned (.int .i64 (cas t (fun i => zs.getD i 0) (len - 1) 0)) ∧ Below w.heap.size w w' := by
  obtain ⟨i0, hi0, hz0, hz1, hz2⟩ := info_parts infoInt
  have hle := h.1
  obtain ⟨f, hf⟩ : ∃ f : Nat → Int, f = (fun i => zs.getD i 0) := ⟨_, rfl⟩
  rw [← hf]
  have HB := Lib.hid (below_box w (.cells #[] 3))
  have HNc := Lib.hid (ints_news (h.next HB.out))
  have HNL := Lib.hid (show (vals zs).length = len * 1 by simp [vals]; omega)
  have HO0 := Lib.hid (ownI_empty7 w w.heap.size (Nat.le_refl _) 3 rfl)
  have HZ := Lib.hid (show casM t f 0 zs.length = zs by rw [hf]; exact casM_zero t zs)
  have HBD := Lib.hid (show ∀ l i, -10000 * sc l ≤ cas t f l i ∧ cas t f l i ≤ 10000 * sc l from fun l i => ⟨cas_lo t0 t1 l i fun j _ _ => (by rw [hf]; exact (hz j).1), cas_hi t0 t1 l i fun j _ _ => (by rw [hf]; exact (hz j).2)⟩)
  have HLE := Lib.hid hle
  clear hz h hle hf
  go_enter Try.func58, Try.ntmps58
  go_wp2_with (at_builtin; refine wpList_append_lies _ rfl (.tmp 8) (.tmp 9) 54 rfl w.heap.size 3 i0 (.int .i64 0) 1 8 Try.underlying54 hi0 hz0 hz1 hz2 rfl (by decide) (.slice (some ⟨w.heap.size, 0, none⟩) 0 0) 0 [] rfl HO0.out ⟨b, off, none⟩ len cap (vals zs) rfl HNL.out HNc.out (vals_one7 _) (by omega) (by unfold maxLen; omega) (by omega) HB.out.size _ rfl ?_; intro g capA wA ownA growA atA ltgA; have HAA := Lib.hid (And.intro ownA growA); clear ownA growA atA ltgA)
  have HO1 : Hid (OwnI wA w.heap.size (.slice (some ⟨g, 0, none⟩) len capA) (casM t f 0 len)) := Lib.hid (by
    have o := HAA.out.1
    rw [Nat.zero_add, List.nil_append] at o
    have e := HLE.out
    rw [show casM t f 0 len = zs by rw [e]; exact HZ.out]
    unfold OwnI
    rw [← e]
    exact o)
  have HW1 := Lib.hid (HB.out.grown HAA.out.2 HB.out.size (fun q hq => (World.ownsRow.lt HO0.out q hq).1))
  clear HAA HO0 HNL HNc HZ HLE HB
  go_loopw [5] (fun v wr => ∃ l m : Nat, l + m = len ∧ 1 ≤ m ∧ Hid (OwnI wr w.heap.size v (casM t f l m)) ∧ Hid (Below w.heap.size w wr)) (fun v _ => match v with | .slice _ n _ => n | _ => 0)
  case atStart => exact ⟨0, len, by omega, n1, HO1, HW1⟩
  case round =>
    obtain ⟨l, m, hlm, hm, HO, HW⟩ := hrel
    clear HO1 HW1
    obtain ⟨g', cap', rfl, _, _⟩ := HO.out.at (by rw [casM_len]; exact hm)
    rw [casM_len] at HO ⊢
    have hl3 : l ≤ 3 := by omega
    by_cases hlt : 1 < m
    · have hl2 : l ≤ 2 := by omega
      have HS2 := Lib.hid (show 1 ≤ sc l ∧ sc l ≤ 4096 by
        have : l = 0 ∨ l = 1 ∨ l = 2 := by omega
        rcases this with rfl | rfl | rfl <;> simp only [sc_zero, sc_one, sc_two] <;> omega)
      generalize hwr : wr = wo at *
      clear hwr
      have HI0 := Lib.hid (ownI_empty7 wo wo.heap.size (Nat.le_refl _) 3 rfl)
      have HV0 := Lib.hid (below_box wo (.cells #[] 3))
      have hd : (1 : Int) < (m : Int) := by omega
      have hgl : g' < wo.heap.size := (World.ownsRow.lt HO.out g' rfl).2
      go_wp2
      go_loopw [6, 7] (fun rv iv wr => ∃ k : Nat, k + 1 ≤ m ∧ iv = .int .i64 (k : Int) ∧ Hid (OwnI wr wo.heap.size rv (casM t f (l + 1) k)) ∧ Hid (Below wo.heap.size wo wr)) (fun _ iv _ => m - (intOf iv).toNat)
      case atStart => exact ⟨0, by omega, rfl, HI0, HV0⟩
      case round =>
        obtain ⟨k, hk, rfl, HI, HV⟩ := hrel
        clear HI0 HV0
        by_cases hk2 : k + 1 < m
        · have c1 := (HV.out.cell (p := ⟨g', k, none⟩) hgl).trans (HO.out.cell7 (casM_at t f l m k (by omega)))
          have c2 := (HV.out.cell (p := ⟨g', k + 1, none⟩) hgl).trans (HO.out.cell7 (casM_at t f l m (k + 1) hk2))
          have hgr : g' < wr.heap.size := Nat.lt_of_lt_of_le hgl HV.out.size
          have e1 := keptCell hgr c1
          have e2 := keptCell hgr c2
          have HE := Lib.hid (cas_succ t f l k)
          have HSN := Lib.hid (show vals (casM t f (l + 1) (k + 1)) = vals (casM t f (l + 1) k) ++ [.int .i64 (cas t f (l + 1) k)] by unfold casM; rw [List.range_succ, List.map_append]; simp [vals])
          obtain ⟨b1, b2⟩ := HBD.out l k
          obtain ⟨b3, b4⟩ := HBD.out l (k + 1)
          have hs2 := HS2.out
          clear c1 c2
          generalize cas t f l k = x at *
          generalize cas t f l (k + 1) = y at *
          generalize hnz : cas t f (l + 1) k = z at *
          have m1 := mul_bd (x := x) (y := 64 - t) (A := 40960000) (B := 64) (by omega) (by omega) (by omega) (by omega)
          have m3 := mul_bd (x := y) (y := t) (A := 40960000) (B := 64) (by omega) (by omega) (by omega) (by omega)
          have o1 : IntKind.i64.wrap (64 - t) = 64 - t := wrap_in (by omega) (by omega)
          have o2 : IntKind.i64.wrap ((k : Int) + 1) = (k : Int) + 1 := wrap_in (by omega) (by omega)
          have o3 : IntKind.i64.wrap (x * (64 - t)) = x * (64 - t) := wrap_in (by omega) (by omega)
          have o4 : IntKind.i64.wrap (y * t) = y * t := wrap_in (by omega) (by omega)
          have o5 : IntKind.i64.wrap (x * (64 - t) + y * t) = z := by rw [HE.out]; exact wrap_in (by omega) (by omega)
          have j1 : (0 : Int) ≤ (k : Int) := by omega
          have j2 : (k : Int) < (m : Int) := by omega
          have j3 : (0 : Int) ≤ (k : Int) + 1 := by omega
          have j4 : (k : Int) + 1 < (m : Int) := by omega
          clear b1 b2 b3 b4 hs2 m1 m3 hnz
          go_upto_region 7 with fail
          refine wp_region_app 15 (by kernel_rfl) rfl rfl (by kernel_rfl) ?_
          simp only [List.take_succ_cons, List.take_zero, List.drop_succ_cons, List.drop_zero]
          repeat (go_big_quiet_step (fail))
          refine wpQuiet_nil ?_
          rintro w6 ⟨⟨_, K6⟩, rfl⟩
          clear e1 e2 o1 o2 o3 o4 o5
          have HI6 := Lib.hid ((World.ownsRow.kept (row := none) HI.out ⟨K6.os, K6.tape, K6.output, K6.size, fun k hk _ => K6.block k hk⟩ (by cases Value.ownBlock _ <;> simp)).alloc (.cells #[.int .i64 z] 3))
          rw [casM_len] at HI6
          have HN := Lib.hid (cell_one_new' w6 (.int .i64 z) 3)
          have HV6 := Lib.hid (below_call (below_call HV.out K6) (below_box w6 (.cells #[.int .i64 z] 3)))
          have HRB := Lib.hid (fun q hq => (World.ownsRow.lt HI6.out q hq).1)
          clear K6
          go_wp2_with (at_builtin; refine wpList_append_lies _ rfl (.tmp 22) (.tmp 38) 54 rfl wo.heap.size 3 i0 (.int .i64 0) 1 8 Try.underlying54 hi0 hz0 hz1 hz2 rfl (by decide) _ k (vals (casM t f (l + 1) k)) rfl HI6.out ⟨w6.heap.size, 0, none⟩ 1 1 [.int .i64 z] rfl rfl HN.out (by intro u hu; simp at hu; subst hu; rfl) (by omega) (by unfold maxLen; omega) (by omega) HV6.out.size _ rfl ?_; intro g7 cap7 w7 own7 grow7 at7 ltg7; have HA7 := Lib.hid (And.intro own7 grow7); clear own7 grow7 at7 ltg7)
          have HI7 : Hid (OwnI w7 wo.heap.size (.slice (some ⟨g7, 0, none⟩) (k + 1) cap7) (casM t f (l + 1) (k + 1))) := Lib.hid (by
            have o := HA7.out.1
            rw [← HSN.out] at o
            unfold OwnI
            rw [casM_len]
            exact o)
          have HV7 := Lib.hid (HV6.out.grown HA7.out.2 HV6.out.size HRB.out)
          refine NoPanic.normal ?_
          go_wp2
          go_roundw
          case rel => exact ⟨k + 1, by omega, by congr 1, HI7, HV7⟩
          case measure => simp [intOf]; omega
        · obtain rfl : m = k + 1 := by omega
          have HI' := Lib.hid (HI.out.mono HW.out.size)
          have HW' := Lib.hid (below_call HW.out HV.out)
          have j4 : ¬ ((k : Int) + 1 < ((k + 1 : Nat) : Int)) := by omega
          obtain ⟨g2, cap2, rfl, _, _⟩ := HI'.out.at (by rw [casM_len]; omega)
          rw [casM_len] at HI' ⊢
          clear HI HV
          go_wp2
          go_roundw
          case rel => exact ⟨l + 1, k, by omega, by omega, HI', HW'⟩
          case measure => simp
    · obtain rfl : m = 1 := by omega
      obtain rfl : l = len - 1 := by omega
      have c1 := HO.out.cell7 (casM_at t f (len - 1) 1 0 (by omega))
      have HW' := HW
      go_wp2
      go_ret
      exact ⟨rfl, HW'.out⟩
end Go.Proofs.Ytlbheofomjakmaa
