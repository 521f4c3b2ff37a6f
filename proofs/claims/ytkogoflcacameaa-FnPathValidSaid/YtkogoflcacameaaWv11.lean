/- The walk of the law on valid paths. -/
import Derived.Test.YtkogoflcacameaaDv11
import Derived.Test.YtkogoflcacameaaPw11
namespace Go.Proofs.Ytkogoflcacameaa
set_option maxRecDepth 100000
open Go.RowKit
attribute [local go_sem ↓] Go.wp_at_zero Go.wp_at_succ
theorem PtsAt.take1 {w : World} {a : Option Addr} {len : Nat} {L : List C2} (h : Cel.PtsAt w a len L) (hl : 1 ≤ L.length) : Cel.PtsAt w a 1 (L.take 1) := by
  refine ⟨by rw [List.length_take]; omega, ?_⟩
  rcases h.2 with h2 | ⟨b, h1, h2, h3⟩
  · rw [h2] at hl; simp at hl
  · refine .inr ⟨b, h1, h2, fun i hi => ?_⟩
    rw [List.length_take] at hi
    have e : (L.take 1).getD i (0, 0) = L.getD i (0, 0) := by rw [List.getD_eq_getElem?_getD, List.getElem?_take_of_lt (by omega), ← List.getD_eq_getElem?_getD]
    rw [e]
    exact h3 i (by omega)
theorem wpList_append_want11 {P : Program} (w : World) {ops : Array Oper} {rest : List Oper} {o : Oper} {a : Act} {Q : Exit → Act → World → Prop} (hw : Region.wanted o (yielded ops a.tmps) = true) (s x : Operand) (t : TypeId)
    (ho : o.op = .call { callee := .builtin .append, args := #[s, x], argTypes := #[t, t] })
    (base : Nat) (e : TypeId) (i : TypeInfo) (z : Value) (size bytes : Nat) (ht : P.underlying t = some (.slice e)) (hi : P.info? e = some i) (hz : i.zero = some z)
    (hsize : i.size = size) (hby : i.bytes = bytes) (hzs : z.cells.size = size) (hsz : 0 < size)
    (v : Value) (n : Nat) (xs : List Value) (hs : a.eval s = v) (hown : w.ownsRow base e size v n xs)
    (ad : Addr) (m c : Nat) (news : List Value) (hx : a.eval x = .slice (some ad) m c) (hl : news.length = m * size) (hnews : ∀ j u, news[j]? = some u → w.cell? (ad.add j) = some u) (h1 : ∀ u ∈ news, u.oneCell' = true)
    (hm : 0 < m) (h63 : n + m ≤ maxLen) (hbytes : (n + m) * bytes ≤ 140737488355328) (hbase : base ≤ w.heap.size) (H : Nat) (hH : w.heap.size = H)
    (h : ∀ g cap w', w'.ownsRow base e size (.slice (some ⟨g, 0, none⟩) (n + m) cap) (n + m) (xs ++ news) → w.grownBy w' v.ownBlock → (v.ownBlock = some g ∨ g = H) → g < w'.heap.size → wpList P ops Q rest (a.put o.dst (.slice (some ⟨g, 0, none⟩) (n + m) cap)) w') : wpList P ops Q (o :: rest) a w :=
  wpList_step fun K hK => by
    rw [if_pos hw]
    exact wp_append_lies w s x t ho base e i z size bytes ht hi hz hsize hby hzs hsz v n xs hs hown ad m c news hx hl hnews h1 hm h63 hbytes hbase H hH fun g cap w' h2 h3 h4 h5 => hK _ _ (h g cap w' h2 h3 h4 h5)
theorem drop_rev (L : List C2) {m : Nat} (hm : m < L.length) : (L.drop (m + 1)).reverse ++ [L.getD m (0, 0)] = (L.drop m).reverse := by
  rw [List.drop_eq_getElem_cons hm, List.reverse_cons, List.getD_eq_getElem?_getD, List.getElem?_eq_getElem hm]
  rfl
/-- What the loop holds: the cells from j on, turned. -/
def LoopV (w1 : World) (L : List C2) (j : Nat) (v : Value) (wr : World) : Prop := ∃ (a : Option Addr) (n c : Nat), v = .slice a n c ∧ n + j = L.length ∧ Cel.OwnPt wr w1.heap.size v ((L.drop j).reverse) ∧ Below w1.heap.size w1 wr
set_option maxHeartbeats 8000000 in
theorem walkFnPathValid (w : World) (a : Option Addr) (len cap : Nat) (zs : List Int) (h : Bytes w a len cap zs) :
    Calls Try.prog 7 #[.slice a len cap] w fun e w' => e = .returned (.bool true) ∧ Below w.heap.size w w' := by
  obtain ⟨i0, hi0, hz0, hz1, hz2⟩ := info_parts Cel.infoPt6
  have hle := h.len_le
  obtain ⟨hl, hm⟩ := hle
  unfold maxLen at hm
  by_cases hbig : 1048576 < len
  · go_enter Try.func7, Try.ntmps7
    go_wp2
    go_ret
    exact ⟨rfl, Below.refl _ _⟩
  · go_enter Try.func7, Try.ntmps7
    go_wp2_with fail
    refine (drawPathValid w a len cap zs h).mono ?_
    rintro e w1 ⟨⟨ta, tl, tc⟩, ⟨pa, pl, pc⟩, T, L, rfl, hF, hT, hP, ⟨hcap, hL⟩, hB⟩
    have hR := hF.rsa (fun i hi => by have := hT.2 i hi; omega)
    have htl : tl ≤ 9223372036854775807 := by have := hF.1; have := hT.1; simp only at *; omega
    simp only at hR hP hcap
    have HR := Lib.hid hR
    have HP := Lib.hid hP
    have HB := Lib.hid hB
    have HPL := Lib.hid hP.1
    have hpl : pl ≤ 401 := by rw [hP.1]; exact hL
    clear hF hR hT hP hB h hL
    obtain ⟨ok, hok⟩ : ∃ ok, decide (validV T L) = ok := ⟨_, rfl⟩
    have HI := Lib.hid (fun w a n c (L' : List C2) (h : Bol.RSA w ta tl T) (hp : Cel.PtsAt w a n L') (hn : n ≤ 9223372036854775807) => implPathValid ta tl tc T a n c L' w h htl hp hn)
    have HS := Lib.hid (specPathValid ta tl tc T pa pl pc L)
    rw [hok] at HS
    have HOK := Lib.hid hok
    go_wp2_with fail
    refine (HI.out _ pa pl pc L HR.out HP.out (by omega)).mono ?_
    rw [hok]
    rintro e w2 ⟨rfl, B2⟩
    have HR2 := Lib.hid (HR.out.next B2)
    have HP2 := Lib.hid (HP.out.next B2)
    have HB2 := Lib.hid (below_call HB.out B2)
    have e0 : (ok != ok) = false := by simp
    clear B2 HR HP HB hok
    go_wp2_with fail
    refine (HS.out _ HR2.out htl HP2.out (by omega)).mono ?_
    rintro e w3 ⟨rfl, B3⟩
    have HR3 := Lib.hid (HR2.out.next B3)
    have HP3 := Lib.hid (HP2.out.next B3)
    have HB3 := Lib.hid (below_call HB2.out B3)
    clear B3 HR2 HP2 HB2 HS
    cases ok
    · go_wp2_with fail
      refine (alive _).mono ?_
      rintro e w' ⟨rfl, rfl⟩
      go_wp2
      go_ret
      exact ⟨rfl, HB3.out⟩
    have HV := Lib.hid (of_decide_eq_true HOK.out)
    have hl1 : 1 ≤ L.length := HV.out.2.1
    have hp1 : 1 ≤ pl := by have := HPL.out; omega
    have o1 : IntKind.i64.wrap ((pl : Int) - 1) = (pl : Int) - 1 := IntWalk.i64_in _ (by omega)
    have HL0 : Hid (LoopV w3 L pl (.slice (some ⟨w3.heap.size, 0, none⟩) 0 0) (w3.alloc (.cells #[] 33))) := Lib.hid ⟨_, _, _, rfl, by have := HPL.out; omega, by
      rw [List.drop_eq_nil_of_le (by have := HPL.out; omega)]
      exact Cel.ownPt_empty w3 _ rfl, below_box w3 _⟩
    obtain ⟨b, rfl, ltb, cb⟩ := HP3.out.some hp1
    have HC := Lib.hid cb
    clear cb e0
    go_wp2_with fail
    clear o1
    go_loopw [6, 7] (fun v i wr => ∃ (j : Nat) (z : Int), i = .int .i64 z ∧ Hid (z = (j : Int) - 1) ∧ j ≤ pl ∧ Hid (LoopV w3 L j v wr)) (fun _ i _ => (intOf i + 1).toNat)
    case atStart => exact ⟨pl, _, rfl, Lib.hid rfl, Nat.le_refl _, HL0⟩
    case round =>
      obtain ⟨j, z, rfl, HZ, hj, HS⟩ := hrel
      clear HL0
      obtain ⟨oa, on, oc, rfl, hon, O, hBw⟩ := HS.out
      have HON := Lib.hid hon
      have hon4 : on ≤ 401 := by have := HPL.out; omega
      clear hon
      by_cases hz : 0 ≤ z
      · obtain ⟨m, rfl⟩ : ∃ m : Nat, z = (m : Int) := ⟨z.toNat, by omega⟩
        have hjm : j = m + 1 := by have := HZ.out; omega
        subst hjm
        have m1 : (m : Int) < (pl : Int) := by omega
        obtain ⟨d0', d1'⟩ := HC.out m (by omega)
        have d0 : wr.cell? ⟨b, m * 2, none⟩ = _ := (hBw.cell (p := ⟨b, m * 2, none⟩) ltb).trans d0'
        have d1 : wr.cell? ⟨b, m * 2 + 1, none⟩ = _ := (hBw.cell (p := ⟨b, m * 2 + 1, none⟩) ltb).trans d1'
        have HDR := Lib.hid (drop_rev L (m := m) (by have := HPL.out; omega))
        obtain ⟨c, hc⟩ : ∃ c, L.getD m (0, 0) = c := ⟨_, rfl⟩
        rw [hc] at d0 d1 HDR
        obtain ⟨cx, cy⟩ := c
        simp only at d0 d1
        have own := O.next (below_box wr (.cells #[.int .i64 cx, .int .i64 cy] 33))
        have hlen : ((L.drop (m + 1)).reverse).length = on := by have := HON.out; rw [List.length_reverse, List.length_drop]; omega
        have HLEN := Lib.hid hlen
        unfold Cel.OwnPt at own
        rw [hlen] at own
        have HO := Lib.hid own
        have HLT := Lib.hid (fun q hq => (World.ownsRow.lt own q hq).1)
        have B6 := Lib.hid (below_call hBw (below_box wr (.cells #[.int .i64 cx, .int .i64 cy] 33)))
        have HNW := Lib.hid (Cel.two_new wr (.int .i64 cx) (.int .i64 cy) 33)
        have HH := Lib.hid B6.out.size
        clear O HS hc own hlen hBw d0' d1'
        go_wp2_with (at_builtin; refine wpList_append_lies _ rfl (.tmp 35) (.tmp 40) 42 rfl w3.heap.size 33 i0 (pt 0 0) 2 16 Try.underlying42 hi0 hz0 hz1 hz2 rfl (by decide) (.slice oa on oc) on _ rfl HO.out ⟨wr.heap.size, 0, none⟩ 1 1 [.int .i64 cx, .int .i64 cy] rfl rfl HNW.out (by intro u hu; simp at hu; rcases hu with rfl | rfl <;> rfl) (by omega) (by unfold maxLen; omega) (by omega) HH.out _ rfl ?_; intro g2 cap6 w10 own7 grow7 at7 ltg7; have HA7 := Lib.hid (And.intro own7 grow7); clear own7 grow7 at7 ltg7)
        have HO7 : Hid (Cel.OwnPt w10 w3.heap.size (.slice (some ⟨g2, 0, none⟩) (on + 1) cap6) ((L.drop m).reverse)) := Lib.hid (by
          rw [← HDR.out]
          unfold Cel.OwnPt
          rw [Cel.pvals_snoc, List.length_append, List.length_singleton, HLEN.out]
          exact HA7.out.1)
        have B7 := Lib.hid (B6.out.grown HA7.out.2 B6.out.size (fun q hq => HLT.out q hq))
        have ow : IntKind.i64.wrap ((m : Int) - 1) = (m : Int) - 1 := IntWalk.i64_in _ (by omega)
        clear HA7 HO B6
        go_wp2
        go_roundw
        case rel => exact ⟨m, _, rfl, Lib.hid rfl, by omega, Lib.hid ⟨_, _, _, rfl, by have := HON.out; omega, HO7.out, B7.out⟩⟩
        case measure => first | (simp [intOf]; done) | (simp [intOf]; omega)
      · have hj0 : j = 0 := by have := HZ.out; omega
        subst hj0
        rw [List.drop_zero] at O
        have HRW := Lib.hid (HR3.out.next hBw)
        have HPW := Lib.hid (HP3.out.next hBw)
        have hBW := below_call HB3.out hBw
        have p1 : (1 : Int) ≤ (pc : Int) := by omega
        have HI1 := Lib.hid (HI.out wr (some ⟨b, 0, none⟩) 1 pc (L.take 1) HRW.out (PtsAt.take1 HPW.out hl1) (by omega))
        rw [decide_eq_true HV.out.head] at HI1
        clear HS HC HP3
        go_wp2_with fail
        refine HI1.out.mono ?_
        rintro e w5 ⟨rfl, B5⟩
        have HR5 := Lib.hid (HRW.out.next B5)
        have HP5 := Lib.hid (HPW.out.next B5)
        have O5 := O.next B5
        have hB5 := below_call hBW B5
        have hBE5 := below_call hBw B5
        have HI2 := Lib.hid (HI.out w5 oa on oc L.reverse HR5.out O5.ints (by omega))
        rw [decide_eq_true HV.out.rev] at HI2
        clear HI1 HRW HPW B5 hBW O hBw
        go_wp2_with fail
        refine HI2.out.mono ?_
        rintro e w6 ⟨rfl, B6⟩
        have HR6 := Lib.hid (HR5.out.next B6)
        have HP6 := HP5.out.next B6
        have O6 := O5.next B6
        have hB6 := below_call hB5 B6
        have hBE6 := below_call hBE5 B6
        clear HI2 HR5 HP5 B6 hB5 O5 hBE5
        obtain ⟨b', hb', ltb6, cb6⟩ := HP6.some hp1
        simp only [Option.some.injEq, Addr.mk.injEq, and_true] at hb'
        subst hb'
        obtain ⟨d0, d1⟩ := cb6 0 (by omega)
        rw [Nat.zero_mul] at d0 d1
        rw [Nat.zero_add] at d1
        obtain ⟨c, hc⟩ : ∃ c, L.getD 0 (0, 0) = c := ⟨_, rfl⟩
        have HNV := Lib.hid (not_valid_twice (T := T) (L := L) (by omega))
        rw [hc] at d0 d1 HNV
        obtain ⟨cx, cy⟩ := c
        simp only at d0 d1
        have own := O6.next (below_box w6 (.cells #[.int .i64 cx, .int .i64 cy] 33))
        have hlen : (L.reverse).length = on := by have := HON.out; rw [List.length_reverse]; omega
        have HLEN := Lib.hid hlen
        unfold Cel.OwnPt at own
        rw [hlen] at own
        have HO := Lib.hid own
        have HLT := Lib.hid (fun q hq => (World.ownsRow.lt own q hq).1)
        have B7 := below_box w6 (.cells #[.int .i64 cx, .int .i64 cy] 33)
        have HR7 := Lib.hid (HR6.out.next B7)
        have HBE := Lib.hid (below_call hBE6 B7)
        have HB7 := Lib.hid (below_call hB6 B7)
        have HNW := Lib.hid (Cel.two_new w6 (.int .i64 cx) (.int .i64 cy) 33)
        have HH := Lib.hid HBE.out.size
        have hlt0 : (0 : Int) < (pl : Int) := by omega
        clear O6 own hlen hBE6 hB6 HR6 HP6 cb6 hc B7
        go_wp2_with (at_builtin; refine wpList_append_want11 _ (by first | rfl | kernel_rfl) (.tmp 53) (.tmp 57) 42 rfl w3.heap.size 33 i0 (pt 0 0) 2 16 Try.underlying42 hi0 hz0 hz1 hz2 rfl (by decide) (.slice oa on oc) on _ rfl HO.out ⟨w6.heap.size, 0, none⟩ 1 1 [.int .i64 cx, .int .i64 cy] rfl rfl HNW.out (by intro u hu; simp at hu; rcases hu with rfl | rfl <;> rfl) (by omega) (by unfold maxLen; omega) (by omega) HH.out _ rfl ?_; intro g2 cap6 w10 own7 grow7 at7 ltg7; have HA7 := Lib.hid (And.intro own7 grow7); clear own7 grow7 at7 ltg7)
        have HO7 := Lib.hid (show Cel.OwnPt w10 w3.heap.size (.slice (some ⟨g2, 0, none⟩) (on + 1) cap6) (L.reverse ++ [(cx, cy)]) by
          unfold Cel.OwnPt
          rw [Cel.pvals_snoc, List.length_append, List.length_singleton, HLEN.out]
          exact HA7.out.1)
        have HRX := Lib.hid (HR3.out.next (HBE.out.grown HA7.out.2 HBE.out.size (fun q hq => HLT.out q hq)))
        have HBX := Lib.hid (HB7.out.grown HA7.out.2 HB7.out.size (fun q hq => by have := HLT.out q hq; have := HB3.out.size; omega))
        have HI3 := Lib.hid (HI.out w10 (some ⟨g2, 0, none⟩) (on + 1) cap6 (L.reverse ++ [(cx, cy)]) HRX.out HO7.out.ints (by omega))
        rw [decide_eq_false HNV.out] at HI3
        clear HA7 HO HO7 HRX HR7 HB7 HBE
        go_wp2_with fail
        refine HI3.out.mono ?_
        rintro e w11 ⟨rfl, B11⟩
        have HZZ := Lib.hid (below_call HBX.out B11)
        clear B11 HI3
        go_wp2
        go_ret
        exact ⟨rfl, HZZ.out⟩
end Go.Proofs.Ytkogoflcacameaa
