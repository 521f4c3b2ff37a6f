/- Several of my texts in one: Cp8, Va8, Srt8. -/
import Derived.Test.YtkmopgdnaohcdaaZbHv
import Derived.Test.YtkmopgdnaohcdaaZbRow
import Derived.StillTailTactics
import Derived.Shelf.SlSortCmp.NoneTotal
import Derived.Test.YtkmopgdnaohcdaaEd8
import Derived.Test.YtkmopgdnaohcdaaShp8
namespace Go.Proofs.Ytkmopgdnaohcdaa
set_option maxRecDepth 100000
open Go.RowKit
attribute [local go_sem ↓] Go.wp_at_zero Go.wp_at_succ
theorem compareAB8 (a b : Int) (w : World) : Calls Try.prog 80 #[.int .i64 a, .int .i64 b] w fun e w' => e = .returned (.int .i64 (cmpI8 a b)) ∧ w = w' := by
  have HE := Lib.hid (show cmpI8 a b = if a < b then -1 else if b < a then 1 else 0 from rfl)
  go_enter Try.func80, Try.ntmps80
  go_wp2_with fail
  refine (isNaN a _).mono ?_
  rintro e w' ⟨rfl, rfl⟩
  go_wp2_with fail
  refine (isNaN b _).mono ?_
  rintro e w' ⟨rfl, rfl⟩
  go_wp2
  all_goals
    go_ret
    refine ⟨ret_int ?_, rfl⟩
    rw [HE.out]
    first | (rw [if_pos (by omega)]) | (rw [if_neg (by omega), if_pos (by omega)]) | (rw [if_neg (by omega), if_neg (by omega)])
theorem cmpOr8 (b : Nat) (x y : Int) (w : World) (h0 : w.cell? ⟨b, 0, none⟩ = some (.int .i64 x)) (h1 : w.cell? ⟨b, 1, none⟩ = some (.int .i64 y)) :
    Calls Try.prog 105 #[.slice (some ⟨b, 0, none⟩) 2 2] w fun e w' => e = .returned (.int .i64 (orI8 x y)) ∧ w = w' := by
  by_cases hx : x = 0
  · subst hx
    have HE := Lib.hid (show orI8 0 y = y from rfl)
    by_cases hy : y = 0
    · subst hy
      go_enter Try.func105, Try.ntmps105
      go_wp2
      go_loop [8] (fun i => ∃ k : Nat, k ≤ 2 ∧ i = .int .i64 (k : Int)) (fun i => 2 - (intOf i).toNat)
      case atStart => exact ⟨0, by omega, rfl⟩
      case round =>
        obtain ⟨k, hk, rfl⟩ := hrel
        have h3 : k = 0 ∨ k = 1 ∨ k = 2 := by omega
        rcases h3 with rfl | rfl | rfl
        · go_wp2
          go_round
          case rel => exact ⟨1, by omega, rfl⟩
          case measure => simp [intOf]
        · go_wp2
          go_round
          case rel => exact ⟨2, by omega, rfl⟩
          case measure => simp [intOf]
        · go_wp2
          go_ret
          exact ⟨rfl, rfl⟩
    · have hy1 : (y != 0) = true := by simpa using hy
      have hy2 : (y == 0) = false := by simpa using hy
      clear hy
      go_enter Try.func105, Try.ntmps105
      go_wp2
      go_loop [8] (fun i => ∃ k : Nat, k ≤ 1 ∧ i = .int .i64 (k : Int)) (fun i => 2 - (intOf i).toNat)
      case atStart => exact ⟨0, by omega, rfl⟩
      case round =>
        obtain ⟨k, hk, rfl⟩ := hrel
        have h3 : k = 0 ∨ k = 1 := by omega
        rcases h3 with rfl | rfl
        · go_wp2
          go_round
          case rel => exact ⟨1, by omega, rfl⟩
          case measure => simp [intOf]
        · go_wp2
          go_ret
          exact ⟨ret_int HE.out.symm, rfl⟩
  · have HE := Lib.hid (show orI8 x y = x by unfold orI8; rw [if_pos hx])
    have hx1 : (x != 0) = true := by simpa using hx
    have hx2 : (x == 0) = false := by simpa using hx
    clear hx
    go_enter Try.func105, Try.ntmps105
    go_wp2
    go_loop [8] (fun i => i = .int .i64 0) (fun _ => 0)
    case atStart => rfl
    case round =>
      obtain rfl := hrel
      go_wp2
      go_ret
      exact ⟨ret_int HE.out.symm, rfl⟩
set_option maxHeartbeats 1000000 in
theorem comparePts (x y : P2) (w : World) : Calls Try.prog 96 #[pt x.1 x.2, pt y.1 y.2] w fun e w' => e = .returned (.int .i64 (cmp2 x y)) ∧ ∃ q os', w' = Go.Sort.grow (w.drewN q) os' := by
  have HG := Lib.hid (show ∀ c : Obj, (((w.alloc (.cells #[.int .i64 x.1, .int .i64 x.2] 28)).alloc (.cells #[.int .i64 y.1, .int .i64 y.2] 28)).drew).alloc c = Go.Sort.grow (w.drewN 1) (#[.cells #[.int .i64 x.1, .int .i64 x.2] 28] ++ #[.cells #[.int .i64 y.1, .int .i64 y.2] 28] ++ #[c]) from fun c => by
    rw [Go.Sort.alloc_eq_grow, Go.Sort.alloc_eq_grow, Go.Sort.alloc_eq_grow, ← Go.Sort.grow_grow, ← Go.Sort.grow_grow]; rfl)
  have HE := Lib.hid (show orI8 (cmpI8 x.1 y.1) (cmpI8 x.2 y.2) = cmp2 x y from rfl)
  have P := (AtP.box w x.1 x.2 28).next (below_box _ (.cells #[.int .i64 y.1, .int .i64 y.2] 28))
  have Q := AtP.box (w.alloc (.cells #[.int .i64 x.1, .int .i64 x.2] 28)) y.1 y.2 28
  rw [World.size_alloc] at Q
  obtain ⟨_, x4, x5⟩ := P
  obtain ⟨_, y4, y5⟩ := Q
  go_enter Try.func96, Try.ntmps96
  go_wp2
  generalize (w.alloc (.cells #[.int .i64 x.1, .int .i64 x.2] 28)).alloc (.cells #[.int .i64 y.1, .int .i64 y.2] 28) = w0 at *
  refine wp_region_still_tail 10 (by kernel_rfl) (by kernel_rfl) ?_
  simp only [List.take_succ_cons, List.take_zero, List.drop_succ_cons, List.drop_zero]
  change wpStill _ _ w0.drew (fun a' => wpList _ _ _ _ a' w0.drew) _ _
  have x4' : w0.drew.cell? ⟨w.heap.size, 0, none⟩ = some (.int .i64 x.1) := x4
  have x5' : w0.drew.cell? ⟨w.heap.size, 1, none⟩ = some (.int .i64 x.2) := x5
  have y4' : w0.drew.cell? ⟨w.heap.size + 1, 0, none⟩ = some (.int .i64 y.1) := y4
  have y5' : w0.drew.cell? ⟨w.heap.size + 1, 1, none⟩ = some (.int .i64 y.2) := y5
  clear x4 x5 y4 y5
  generalize w0.drew = w1 at *
  repeat still_step
  still_call (stillOf (compareAB8 x.1 y.1 w1))
  repeat still_step
  still_call (stillOf (compareAB8 x.2 y.2 w1))
  repeat still_step
  refine wpStill_nil ?_
  go_wp2_with fail
  refine (cmpOr8 w1.heap.size (cmpI8 x.1 y.1) (cmpI8 x.2 y.2) _ (by simp) (by simp)).mono ?_
  rintro e w' ⟨rfl, rfl⟩
  go_wp2
  go_ret
  exact ⟨ret_int HE.out, 1, _, HG.out _⟩
open Go.Sort Go.Lib Go.Shelf
theorem lt_of8 (x y : P2) : ltOf cmp2 x y = true ↔ lt2 x y := by unfold ltOf; rw [decide_eq_true_iff]; exact cmp2_neg x y
theorem lt_no8 (x y : P2) : ltOf cmp2 x y = false ↔ ¬ lt2 x y := by rw [← lt_of8]; simp
theorem swo8 : SWO (ltOf cmp2) where
  irrefl x := by rw [lt_no8]; exact fun h => lt2_ne h rfl
  trans x y z h1 h2 := by rw [lt_of8] at *; exact lt2_of_lt_le h1 (lt2_le h2)
  ntrans x y z h1 h2 := by
    rw [lt_no8] at *
    intro h
    rcases le2_total x y with k | k
    · rcases le2_total y z with m | m
      · by_cases e : x = y
        · subst e; exact h2 h
        · exact h1 (le2_lt k e)
      · exact absurd (lt2_of_lt_le h (lt2_le m)) (fun q => h1 q)
    · exact absurd (lt2_of_lt_le k (lt2_le h)) (fun q => h2 q)
theorem srt_lt8 (ps : List P2) : srt ps = ps.mergeSort fun x y => !(ltOf cmp2) y x := rfl
end Go.Proofs.Ytkmopgdnaohcdaa
namespace Go.Proofs.Ytkmopgdnaohcdaa
set_option maxRecDepth 100000
open Go.RowKit Go.Shelf
attribute [local go_sem] Oper.semAt_some
abbrev encP8 (x : P2) : Array Value := #[pt x.1 x.2]
/-- What the iterator reads. -/
structure VaAt (w : World) (Bp : Nat) (a : Option Addr) (len cap : Nat) (ps : List P2) : Prop where
  box : Cells8 w Bp #[.slice a len cap] 23
  pts : PL w a len ps
theorem VaAt.next {w w' : World} {Bp : Nat} {a : Option Addr} {len cap : Nat} {ps : List P2} (h : VaAt w Bp a len cap ps) (hb : Below w.heap.size w w') : VaAt w' Bp a len cap ps := ⟨h.box.next hb, h.pts.next hb⟩
theorem VaAt.keepB {w w' : World} {Bp : Nat} {a : Option Addr} {len cap : Nat} {ps : List P2} {W : World} (h0 : VaAt w Bp a len cap ps) (h : VaAt W Bp a len cap ps) (hk : Below w.heap.size W w') : VaAt w' Bp a len cap ps := by
  refine ⟨(hk.block _ h0.box.lt).trans h.box, ?_⟩
  by_cases hz : 1 ≤ len
  · obtain ⟨b, o, e2, lt, _⟩ := h0.pts.somes hz
    have q := h.pts
    rw [e2] at q ⊢
    exact q.keep hk.size (hk.block _ lt)
  · exact ⟨h.pts.1, .inl (by omega)⟩
theorem valuesC (a : Option Addr) (len cap : Nat) (ps : List P2) (w : World) (hp : PL w a len ps) :
    Calls Try.prog 95 #[.slice a len cap] w fun e w' => ∃ Bp, e = .returned (.func (.func 104) #[] #[.pointer (some ⟨Bp, 0, none⟩)]) ∧ VaAt w' Bp a len cap ps ∧ Below w.heap.size w w' := by
  have hmf : ∀ (fn : Fn) (first cap : Array Value) (w : World), (Instr.makeFunc fn first cap).run Try.prog w = .ok (.func fn first cap) w := fun _ _ _ _ => rfl
  have HB := Lib.hid (below_box w (.cells #[.slice a len cap] 23))
  have HS := Lib.hid (show VaAt (w.alloc (.cells #[.slice a len cap] 23)) w.heap.size a len cap ps from ⟨Cells8.new w _ _, hp.next HB.out⟩)
  clear hp
  go_enter Try.func95, Try.ntmps95
  go_wp2
  go_ret
  exact ⟨w.heap.size, rfl, HS.out, HB.out⟩
set_option maxHeartbeats 2000000 in
theorem valuesStops (Bp : Nat) (a : Option Addr) (len cap : Nat) (ps : List P2) (w : World) (hS : VaAt w Bp a len cap ps) (hl : len ≤ 1000) (n : Nat) :
    SeqStopsK Fence.wide n Try.prog 104 #[.pointer (some ⟨Bp, 0, none⟩)] encP8 (Below w.heap.size) (fun ys => ys = ps) (fun _ => True) ps.length w := by
  intro l J Jx W hW hJ _ hY h0
  have HY := Lib.hid hY
  have HJ := Lib.hid (fun s A B (hs : J s A) (hb : Below A.heap.size A B) => abides8 hJ hs hb)
  have HW0 := Lib.hid (hS.next hW)
  have HS0 := Lib.hid hS
  have HWW := Lib.hid hW
  have H00 := Lib.hid (show J (ps.take 0) W by rw [List.take_zero]; exact h0)
  have HLE := Lib.hid hS.pts.1
  clear hY hJ hS hW h0
  refine callsIn_of_wp Try.func104 rfl trivial ?_ rfl
  simp only [Try.ntmps104, List.size_toArray, List.length_cons, List.length_nil, Nat.reduceAdd, Nat.reduceSub, Array.replicate_succ, Array.replicate_zero, List.push_toArray, List.append_toArray, List.nil_append, List.cons_append]
  have s0 := HW0.out.box.cell (i := 0) rfl
  gi_wp2
  clear s0
  gi_loopw [7] (fun i wr => ∃ j : Nat, j ≤ len ∧ i = .int .i64 (j : Int) ∧ Hid (J (ps.take j) wr) ∧ Hid (VaAt wr Bp a len cap ps)) (fun i _ => len - (intOf i).toNat)
  case atStart => exact ⟨0, Nat.zero_le _, rfl, H00, HW0⟩
  case round =>
    obtain ⟨j, hj, rfl, HJ1, HW1⟩ := hrel
    clear H00 HW0
    by_cases hlt : j < len
    · have j1 : (0 : Int) ≤ (j : Int) := by omega
      have j2 : (j : Int) < (len : Int) := by omega
      obtain ⟨b, o, rfl, lt, hc⟩ := HW1.out.pts.somes (by omega)
      have d1 := (hc j hlt).1
      have d2 := (hc j hlt).2
      have HNX := Lib.hid (show ps.take (j + 1) = ps.take j ++ [cor ps j] by
        rw [List.take_add_one, List.getElem?_eq_getElem (by rw [← HLE.out]; exact hlt)]
        unfold cor
        rw [List.getD_eq_getElem?_getD, List.getElem?_eq_getElem (by rw [← HLE.out]; exact hlt)]; rfl)
      have HLL := Lib.hid (show (ps.take j).length < ps.length by have := HLE.out; rw [List.length_take]; omega)
      clear hc lt
      have HWb := Lib.hid (HW1.out.next (below_box wr (.cells #[.int .i64 (cor ps j).1, .int .i64 (cor ps j).2] 28)))
      have HJb := Lib.hid (HJ.out _ _ _ HJ1.out (below_box wr (.cells #[.int .i64 (cor ps j).1, .int .i64 (cor ps j).2] 28)))
      obtain ⟨fn, tmps, assign, body, hy, hR⟩ := HY.out _ (cor ps j) (wr.alloc (.cells #[.int .i64 (cor ps j).1, .int .i64 (cor ps j).2] 28)) HJb.out HLL.out
      generalize cor ps j = c at *
      gi_wp2
      refine ⟨(by intro h; cases h), ?_⟩
      refine (said8 hR).mono ?_
      rintro e w6 ⟨bb, rfl, S6⟩
      cases bb with
      | true =>
        have HS6 : Hid (J (ps.take (j + 1)) w6 ∧ Below w.heap.size (wr.alloc (.cells #[.int .i64 c.1, .int .i64 c.2] 28)) w6) := Lib.hid (by
          rw [HNX.out]
          rcases S6.out with ⟨_, h1, h2⟩ | ⟨h1, _⟩
          · exact ⟨h1, h2⟩
          · cases h1)
        have HW6 := Lib.hid (HS0.out.keepB HWb.out HS6.out.2)
        clear S6 hy hR d1 d2
        gi_wp2
        go_roundw
        case rel => exact ⟨j + 1, by omega, by congr 1, Lib.hid HS6.out.1, HW6⟩
        case measure => simp [intOf]; omega
      | false =>
        have HS6 : Hid (Jx (ps.take j ++ [c]) w6) := Lib.hid (by
          rcases S6.out with ⟨h1, _⟩ | ⟨_, h1⟩
          · cases h1
          · exact h1)
        clear S6 hy hR d1 d2
        gi_wp2
        refine bodyPost_ret (results_none rfl _ _ _) rfl ?_
        exact ⟨⟨_, rfl⟩, .inr ⟨_, trivial, HS6.out⟩⟩
    · obtain rfl : j = len := by omega
      have HE := Lib.hid (show ps.take j = ps from List.take_of_length_le (by rw [← HLE.out]; omega))
      gi_wp2
      go_end0
      exact ⟨⟨_, rfl⟩, .inl ⟨_, rfl, by have := HJ1.out; rw [HE.out] at this; exact this⟩⟩
theorem seqTypes8 : (23 : Nat) ≠ 28 := by decide
/-- What collecting keeps between two rounds: the box with a slice of the call's own that reads as what has come. -/
def ApP (sz : Nat) (pre : List P2) (W : World) : Prop := ∃ v, Boxed W sz 23 v ∧ W.ownsRow sz 28 2 v pre.length (pvals pre) ∧ True
theorem apP_own (sz : Nat) : Own (ApP sz) := holdsRow_own sz sz 23 28 2 (fun pre : List P2 => pre.length) (fun pre => pvals pre) (fun _ _ => True)
theorem ApP.start (w : World) : ApP w.heap.size [] (w.alloc (.cells #[.slice none 0 0] 23)) := ⟨_, Boxed.new w _ _, World.ownsRow_nil _ _ _ _, trivial⟩
set_option maxHeartbeats 2000000 in
theorem appendSeqP (gf : Nat) (lb : Array Value) (ps : List P2) (w : World) (hx : ps.length ≤ 5000) (eg : ∀ args w, (callFunc gf args).run Try.prog w = .ok (.enter gf args) w)
    (hseq : ∀ n, SeqStopsK Fence.wide n Try.prog gf lb encP8 (Below w.heap.size) (fun ys => ys = ps) (fun _ => True) ps.length w) :
    Calls Try.prog 107 #[.slice none 0 0, .func (.func gf) #[] lb] w (RowP ps w) := by
  obtain ⟨i0, hi0, hz0, hz1, hz2⟩ := info_parts infoPt6
  refine (callsIn_wide (n := 9)).1 ?_
  refine callsIn_of_wp_marks Try.func107 rfl trivial ?_ rfl
  simp only [Try.ntmps107, List.size_toArray, List.length_cons, List.length_nil, Nat.reduceAdd, Nat.reduceSub, Array.replicate_succ, Array.replicate_zero, List.push_toArray, List.append_toArray, List.nil_append, List.cons_append]
  gi_wp2
  have L0 := ApP.start w
  have hB0 : Below w.heap.size w (w.alloc (.cells #[.slice none 0 0] 23)) := below_box w _
  have hsz : (w.alloc (.cells #[.slice none 0 0] 23)).heap.size = w.heap.size + 1 := by simp
  generalize w.alloc (.cells #[.slice none 0 0] 23) = W0 at *
  refine wpIn_rangeFunc_ownH rfl (by omega) (gf := gf) (lb := lb) rfl trivial eg (hseq 8) belowK_t (belowK_b (by omega)) hB0 (fun _ => rfl)
    (fun pre W => ApP w.heap.size pre W ∧ Below w.heap.size w W)
    (fun _ _ _ => False)
    (OwnFrom.and (Own.from (apP_own _) _) (ownFrom_below (Nat.le_refl _) (by omega)))
    (fun _ _ _ _ _ hs _ _ => hs)
    ⟨L0, hB0⟩
    (fun x a' W => ∃ B1, w.heap.size + 1 ≤ B1 ∧ Cells8 W B1 #[.int .i64 x.1, .int .i64 x.2] 28 ∧ a' = { tmps := #[.slice none 0 0, .func (.func gf) #[] lb, .pointer (some ⟨w.heap.size, 0, none⟩), undef, .slice none 0 0, .pointer (some ⟨B1, 0, none⟩), .func (.func gf) #[] lb, pt x.1 x.2, undef, undef, undef, undef, undef], defers := [] })
    (fun x a' _ X Y row hs hg hr => by obtain ⟨B1, h0, h1, h2⟩ := hs; exact ⟨B1, h0, cells8_own B1 _ (fun (_ : Unit) => _) () X Y row h1 hg (fun r e => (hr r e).2), h2⟩)
    ?assign ?body ?done ?stop
  case assign =>
    rintro l pre x W K ⟨⟨v, hv, hrow, _⟩, hB1⟩ hK
    have hlt := hv.lt
    have HK := Lib.hid (hK _ _ ((KeepsOthers.alloc W (.cells #[.int .i64 x.1, .int .i64 x.2] 28)).from _) ((below_box W (.cells #[.int .i64 x.1, .int .i64 x.2] 28)).mono hB1.size) ⟨⟨v, hv.alloc _, hrow.alloc _, trivial⟩, hB1.alloc hB1.size _⟩ ⟨W.heap.size, by omega, Cells8.new W _ _, rfl⟩)
    clear hK hv hrow hB1
    gi_wp2
    exact HK.out
  case body =>
    rintro l pre x a' W hl ⟨r, hr⟩ ⟨⟨v, hv, hrow, _⟩, hB1⟩ ⟨B1, hB1l, hX, rfl⟩ hlen
    have HV := Lib.hid hv
    have HR := Lib.hid hrow
    have HB1 := Lib.hid hB1
    have HL := Lib.hid (show pre.length + 1 ≤ 5000 by omega)
    have c0 := hv.cell
    have x0 := hX.cell (i := 0) rfl
    have x1 := hX.cell (i := 1) rfl
    have HRa := Lib.hid (hrow.alloc (.cells #[.int .i64 x.1, .int .i64 x.2] 28))
    have HN := Lib.hid (two_new6 W (.int .i64 x.1) (.int .i64 x.2) 28)
    have HH := Lib.hid (show w.heap.size ≤ (W.alloc (.cells #[.int .i64 x.1, .int .i64 x.2] 28)).heap.size by have := hB1.size; simp; omega)
    have HPS := Lib.hid (pvals_snoc6 pre x)
    clear hv hrow hB1 hlen hr
    gi_wp2_with (gi_at_builtin; refine wpListIn_append_own _ rfl _ _ 23 rfl w.heap.size 28 i0 (pt 0 0) 2 16 Try.underlying23 hi0 hz0 hz1 hz2 rfl (by decide) v pre.length (pvals pre) rfl HRa.out ⟨W.heap.size, 0, none⟩ 1 1 [.int .i64 x.1, .int .i64 x.2] rfl rfl HN.out (by intro u hu; simp at hu; rcases hu with rfl | rfl <;> rfl) (by have := HL.out; unfold maxLen; omega) (by have := HL.out; omega) HH.out ?_; intro v' w3 own3 grow3 _; have HA := Lib.hid (Boxed.appended HV.out seqTypes8 HR.out HB1.out.size (Nat.le_refl _) own3 grow3); obtain ⟨g, cap, rfl⟩ := ownsRow_succ own3; have c1 := HA.out.1.cell; have f1 := HA.out.1.frozen; clear own3 grow3)
    refine ⟨HA.out.2.2.2.1.from _, HA.out.2.2.2.2, ⟨_, HA.out.2.1, ?_, trivial⟩, HB1.out.trans HA.out.2.2.2.2⟩
    rw [HPS.out, show (pre ++ [x]).length = pre.length + 1 by simp]
    exact HA.out.2.2.1
  case done =>
    rintro D ys W hD rfl ⟨⟨v, hv, hrow, _⟩, hB⟩ hK
    have HO := Lib.hid (show OwnPt W w.heap.size v ys from hrow)
    have c0 := hv.cell
    have HK := Lib.hid hK
    have HBW := Lib.hid hB
    have HD := Lib.hid hD
    clear hv hrow hB hK hD
    obtain ⟨s, rfl, hs⟩ : ∃ s : Sl, v = .slice s.a s.len s.cap ∧ s.len = ys.length := by
      rcases HO.out.2 with ⟨hv, hn⟩ | ⟨g, c, cur, hv, _⟩
      · exact ⟨⟨none, 0, 0⟩, hv, hn.symm⟩
      · exact ⟨⟨some ⟨g, 0, none⟩, ys.length, c⟩, hv, rfl⟩
    have HSL := Lib.hid hs
    clear hs
    gi_wp2
    refine ⟨by simp, .inl ⟨_, _, rfl, run_takeDeferred HK.out, ?_⟩⟩
    refine ⟨.slice s.a s.len s.cap, by simp [results, Try.results107, go_sem], s, rfl, HSL.out, ownsRow_putObj HO.out _ HK.out rfl, HBW.out.trans (belowK_b (w := w) (Nat.le_refl _) _ D _ _ (by have := HD.out; omega) HK.out rfl rfl)⟩
  case stop =>
    rintro D c pre W _ _ h _
    exact h.elim
theorem collectP (gf : Nat) (lb : Array Value) (ps : List P2) (w : World) (hx : ps.length ≤ 5000) (eg : ∀ args w, (callFunc gf args).run Try.prog w = .ok (.enter gf args) w)
    (hseq : ∀ n, SeqStopsK Fence.wide n Try.prog gf lb encP8 (Below w.heap.size) (fun ys => ys = ps) (fun _ => True) ps.length w) :
    Calls Try.prog 102 #[.func (.func gf) #[] lb] w (RowP ps w) := by
  have HC := Lib.hid (appendSeqP gf lb ps w hx eg hseq)
  clear hseq eg
  go_enter Try.func102, Try.ntmps102
  go_wp2_with fail
  refine HC.out.mono ?_
  rintro e w1 ⟨s, rfl, hs, O, B⟩
  replace hs := Lib.hid hs
  go_wp2
  go_ret
  exact ⟨s, rfl, hs.out, O, B⟩
end Go.Proofs.Ytkmopgdnaohcdaa
namespace Go.Proofs.Ytkmopgdnaohcdaa
set_option maxRecDepth 100000
open Go.RowKit Go.Sort Go.Shelf Go.Lib
attribute [local go_sem ↓] Go.wp_at_zero Go.wp_at_succ
/-- A point's two cells. -/
def encQ8 (x : P2) : List Value := [.int .i64 x.1, .int .i64 x.2]
theorem encQ8_one (x : P2) : ∀ v ∈ encQ8 x, v.oneCell' = true := fun v hv => by simp [encQ8] at hv; rcases hv with rfl | rfl <;> rfl
theorem flat_vals (ps : List P2) : flatK encQ8 2 ps.toArray = (pvals ps).toArray := by
  refine ext_get! (by simp [pvals_len]) fun t ht => ?_
  have ht' : t < ps.length * 2 := by simpa using ht
  rw [get_flatK _ _ _ _ (by simpa using ht')]
  have e : (pvals ps).toArray[t]! = .int .i64 (cz ps t) := by
    have := pvals_at ps t ht'
    rw [getElem!_pos _ t (by simpa [pvals_len] using ht')]
    simpa [List.getElem?_eq_getElem (show t < (pvals ps).length by rw [pvals_len]; exact ht')] using this
  rw [e]
  have g : ps.toArray[t / 2]! = ps.getD (t / 2) (0, 0) := by
    rw [getElem!_pos _ _ (by simp; omega), List.getD_eq_getElem?_getD, List.getElem?_eq_getElem (by omega)]; simp
  rw [g]
  unfold cz encQ8
  rcases Nat.mod_two_eq_zero_or_one t with h | h <;> rw [h] <;> simp
theorem heap_putV {w : World} {g n : Nat} {os : Array Obj} {cur : Array Value} {e : TypeId} {fr : Nat × Nat} (F : Array Value) (hb : w.heap[g]? = some (.cells cur e fr)) :
    (grow (putRow id (Sort.ahead w n) g 0 F) os).heap[g]? = some (.cells (putCells id 0 F cur) e fr) := by
  have hg : g < w.heap.size := (Array.getElem?_eq_some_iff.1 hb).1
  rw [heap_grow_old _ _ (by simpa using hg)]
  simp [putRow, mapBlock, Sort.ahead, Array.getElem?_modify, hb, onCells]
theorem grownBy_putV {w : World} {g n : Nat} {os : Array Obj} (F : Array Value) : w.grownBy (grow (putRow id (Sort.ahead w n) g 0 F) os) (some g) := by
  refine ⟨rfl, rfl, rfl, by simp, fun k hk hne => ?_⟩
  rw [heap_grow_old _ _ (by simpa using hk)]
  have : g ≠ k := fun e => hne (by rw [e])
  simp [putRow, mapBlock, Sort.ahead, Array.getElem?_modify, this]
theorem take_putV (cur : Array Value) (vs : List Value) (h : vs.length ≤ cur.size) : (putCells id 0 vs.toArray cur).toList.take vs.length = vs := by
  apply List.ext_getElem?
  intro j
  by_cases hj : j < vs.length
  · rw [List.getElem?_take_of_lt hj, Array.getElem?_toList]
    simp [putCells, hj, show j < cur.size by omega]
  · rw [List.getElem?_take_eq_none (by omega), List.getElem?_eq_none (by omega)]
/-- The same slice holds other points. -/
theorem own_put {w : World} {B g len cap n : Nat} {os : Array Obj} {ps qs : List P2} (h : OwnPt w B (.slice (some ⟨g, 0, none⟩) len cap) ps) (hl : qs.length = ps.length) :
    OwnPt (grow (putRow id (Sort.ahead w n) g 0 (pvals qs).toArray) os) B (.slice (some ⟨g, 0, none⟩) len cap) qs := by
  obtain ⟨h1, h2⟩ := h
  rcases h2 with ⟨hv, _⟩ | ⟨g', cap', cur, hv, hB, hg, hn, hc, hs, ht⟩
  · cases hv
  · simp only [Value.slice.injEq, Option.some.injEq, Addr.mk.injEq, and_true] at hv
    obtain ⟨rfl, e2, rfl⟩ := hv
    refine ⟨pvals_len qs, .inr ⟨g, cap, _, by rw [hl, e2], hB, heap_putV _ hg, by rw [hl]; exact hn, hc, by simp [putCells, hs], ?_⟩⟩
    rw [← pvals_len qs]
    exact take_putV cur (pvals qs) (by rw [pvals_len, hs, hl]; exact Nat.mul_le_mul_right 2 hn)
theorem holds_own {w : World} {B g len cap : Nat} {ps : List P2} (h : OwnPt w B (.slice (some ⟨g, 0, none⟩) len cap) ps) : HoldsK encQ8 2 w g 0 ps.toArray := by
  obtain rfl := (own_len h).1
  unfold HoldsK
  rw [flat_vals]
  intro j hj
  have hj' : j < ps.length * 2 := by simpa [pvals_len] using hj
  rw [Nat.zero_add]
  refine ⟨?_, World.ownsRow.frozenAt h j⟩
  rw [World.ownsRow.cellAt h j hj', pvals_at ps j hj', getElem!_pos _ j hj]
  have := pvals_at ps j hj'
  simpa [List.getElem?_eq_getElem (show j < (pvals ps).length by rw [pvals_len]; exact hj')] using this.symm
theorem tot8 (x y : P2) (h1 : ltOf cmp2 x y = false) (h2 : ltOf cmp2 y x = false) : x = y := by
  have a := (lt_no8 x y).1 h1
  have b := (lt_no8 y x).1 h2
  exact le2_anti (by rcases le2_total x y with k | k; exact k; exact absurd k b) (by rcases le2_total y x with k | k; exact k; exact absurd k a)
set_option maxHeartbeats 1000000 in
theorem sortOwn (g cap : Nat) (ps : List P2) (B : Nat) (w : World) (h : OwnPt w B (.slice (some ⟨g, 0, none⟩) ps.length cap) ps) (hl : ps.length ≤ 5000) :
    Calls Try.prog 103 #[.slice (some ⟨g, 0, none⟩) ps.length cap, .func (.func 96) #[] #[]] w fun e w' => e = .returned (.tuple #[]) ∧ OwnPt w' B (.slice (some ⟨g, 0, none⟩) ps.length cap) (srt ps) ∧ w.grownBy w' (some g) := by
  have hg : g < w.heap.size := by rcases (own_len h).2 with ⟨h0, _⟩ | ⟨g', e, _, lt⟩; cases h0; cases e; exact lt
  have := AnyQ.slices_SortFunc_total Try.sortP 2 Try.isAgg28 Try.sizeOf28 encQ8 (fun _ => rfl) encQ8_one cmp2 swo8 96 #[] g 0 cap ps.toArray w
    (enters_of Try.func96 (by kernel_rfl) rfl) (fun m os dk _ x y => comparePts x y _) (holds_own h) hg (by simp; omega) tot8
  refine this.mono ?_
  rintro e w' ⟨he, n, os, hw⟩
  refine ⟨he, ?_, ?_⟩
  · rw [hw]; unfold sortWorldK putRowK; rw [flat_vals]; exact own_put h (srt_len ps)
  · rw [hw]; unfold sortWorldK putRowK; rw [flat_vals]; exact grownBy_putV _
set_option maxHeartbeats 1000000 in
theorem revOwn (g cap : Nat) (ps : List P2) (B : Nat) (w : World) (h : OwnPt w B (.slice (some ⟨g, 0, none⟩) ps.length cap) ps) (hl : ps.length ≤ 5000) :
    Calls Try.prog 98 #[.slice (some ⟨g, 0, none⟩) ps.length cap] w fun e w' => e = .returned (.tuple #[]) ∧ OwnPt w' B (.slice (some ⟨g, 0, none⟩) ps.length cap) ps.reverse ∧ w.grownBy w' (some g) := by
  have := AnyQ.slices_Reverse Try.revP 2 Try.isAgg28 Try.sizeOf28 encQ8 (fun _ => rfl) encQ8_one g 0 cap ps.toArray w (holds_own h) (by simp; omega)
  refine this.mono ?_
  rintro e w' ⟨he, n, hw⟩
  have hw2 : w' = grow (putRow id (Sort.ahead w n) g 0 (pvals ps.reverse).toArray) #[] := by
    rw [hw, grow_empty]; unfold putRowK; rw [List.reverse_toArray, flat_vals]
  refine ⟨he, ?_, ?_⟩
  · rw [hw2]; exact own_put h (by simp)
  · rw [hw2]; exact grownBy_putV _
set_option maxHeartbeats 1000000 in
theorem sortedFuncC (gf : Nat) (lb : Array Value) (ps : List P2) (w : World) (hx : ps.length ≤ 5000) (eg : ∀ args w, (callFunc gf args).run Try.prog w = .ok (.enter gf args) w)
    (hseq : ∀ n, SeqStopsK Fence.wide n Try.prog gf lb encP8 (Below w.heap.size) (fun ys => ys = ps) (fun _ => True) ps.length w) :
    Calls Try.prog 94 #[.func (.func gf) #[] lb, .func (.func 96) #[] #[]] w (RowP (srt ps) w) := by
  have HC := Lib.hid (collectP gf lb ps w hx eg hseq)
  clear hseq eg
  go_enter Try.func94, Try.ntmps94
  go_wp2_with fail
  refine HC.out.mono ?_
  rintro e w1 ⟨s, rfl, hs, O, B⟩
  obtain ⟨hl, ho⟩ := own_len O
  rcases ho with ⟨h1, h2, h3⟩ | ⟨g, h1, h2, h3⟩
  · have hp : ps = [] := List.eq_nil_of_length_eq_zero (by omega)
    obtain ⟨sa, sl, sc⟩ := s
    simp only at h1 h2 h3 hs hl O
    subst h1 h2 h3 hp
    have HO := Lib.hid (show RowP (srt []) w (.returned (.slice none 0 0)) w1 by
      rw [show srt [] = [] from List.eq_nil_of_length_eq_zero (srt_len [])]
      exact ⟨⟨none, 0, 0⟩, rfl, rfl, O, B⟩)
    clear O B hs hl
    go_wp2_with fail
    refine (AnyF.slices_SortFunc_none Try.sortP none 0 (.func (.func 96) #[] #[]) w1).mono ?_
    rintro e w2 ⟨rfl, rfl⟩
    go_wp2
    go_ret
    exact HO.out
  · obtain ⟨sa, sl, sc⟩ := s
    simp only at h1 h2 h3 hs hl O
    subst h1 hs
    have HS := Lib.hid (sortOwn g sc ps w.heap.size w1 O hx)
    have HB := Lib.hid B
    have HG := Lib.hid h2
    clear O B hl h2 h3
    go_wp2_with fail
    refine HS.out.mono ?_
    rintro e w2 ⟨rfl, O2, G2⟩
    have HF := Lib.hid (show RowP (srt ps) w (.returned (.slice (some ⟨g, 0, none⟩) ps.length sc)) w2 from ⟨⟨_, _, _⟩, rfl, (srt_len ps).symm, O2, HB.out.grown G2 HB.out.size (fun k hk => by injection hk with hk; rw [← hk]; exact HG.out)⟩)
    clear O2 G2
    go_wp2
    go_ret
    exact HF.out
end Go.Proofs.Ytkmopgdnaohcdaa
