/- The walk of the law on ItemsValid. -/
import Derived.Test.YtefjedhleihapaaDj13
import Derived.Test.YtefjedhleihapaaCk13
namespace Go.Proofs.Ytefjedhleihapaa
set_option maxRecDepth 100000
open Go.RowKit
attribute [local go_sem ↓] Go.wp_at_zero Go.wp_at_succ
/-- An item of no time makes a list invalid. -/
theorem items_bad (L : List (Int × Int)) : decide (okItems (L ++ [(0, 0)])) = false := decide_eq_false fun h => by
  have := (h.2 (0, 0) (by simp)).2
  simp at this
theorem items_half {L : List (Int × Int)} (h : okItems L) (k : Nat) : decide (okItems (L.take k)) = true := decide_eq_true (okItems_part h (fun c hc => List.mem_of_mem_take hc) (by rw [List.length_take]; omega))
theorem Itm.PtsAt.take {w : World} {a : Option Addr} {len : Nat} {ps : List (Int × Int)} (h : Itm.PtsAt w a len ps) {k : Nat} (hk : k ≤ len) : Itm.PtsAt w a k (ps.take k) := by
  have hn := h.1
  refine ⟨by rw [List.length_take]; omega, ?_⟩
  rcases h.2 with h2 | ⟨b, h1, h2, h3⟩
  · exact .inl (by rw [h2]; simp)
  · refine .inr ⟨b, h1, h2, fun i hi => ?_⟩
    rw [List.length_take] at hi
    have e : (ps.take k).getD i (0, 0) = ps.getD i (0, 0) := by
      rw [List.getD_eq_getElem?_getD, List.getElem?_take_of_lt (by omega), ← List.getD_eq_getElem?_getD]
    rw [e]
    exact h3 i (by omega)
theorem wpList_append_want13 {P : Program} (w : World) {ops : Array Oper} {rest : List Oper} {o : Oper} {a : Act} {Q : Exit → Act → World → Prop} (hw : Region.wanted o (yielded ops a.tmps) = true) (s x : Operand) (t : TypeId)
    (ho : o.op = .call { callee := .builtin .append, args := #[s, x], argTypes := #[t, t] })
    (base : Nat) (e : TypeId) (i : TypeInfo) (z : Value) (size bytes : Nat) (ht : P.underlying t = some (.slice e)) (hi : P.info? e = some i) (hz : i.zero = some z)
    (hsize : i.size = size) (hby : i.bytes = bytes) (hzs : z.cells.size = size) (hsz : 0 < size)
    (v : Value) (n : Nat) (xs : List Value) (hs : a.eval s = v) (hown : w.ownsRow base e size v n xs)
    (ad : Addr) (m c : Nat) (news : List Value) (hx : a.eval x = .slice (some ad) m c) (hl : news.length = m * size) (hnews : ∀ j u, news[j]? = some u → w.cell? (ad.add j) = some u) (h1 : ∀ u ∈ news, u.oneCell' = true)
    (hm : 0 < m) (h63 : n + m ≤ maxLen) (hbytes : (n + m) * bytes ≤ 140737488355328) (hbase : base ≤ w.heap.size) (H : Nat) (hH : w.heap.size = H)
    (h : ∀ g cap w', w'.ownsRow base e size (.slice (some ⟨g, 0, none⟩) (n + m) cap) (n + m) (xs ++ news) → w.grownBy w' v.ownBlock → (v.ownBlock = some g ∨ g = H) → g < w'.heap.size → wpList P ops Q rest (a.put o.dst (.slice (some ⟨g, 0, none⟩) (n + m) cap)) w') : wpList P ops Q (o :: rest) a w :=
  wpList_step fun K hK => by
    rw [if_pos hw]
    exact wp_append_lies w s x t ho base e i z size bytes ht hi hz hsize hby hzs hsz v n xs hs hown ad m c news hx hl hnews h1 hm h63 hbytes hbase H hH fun g cap w' h2 h3 h4 h5 => hK _ _ (h g cap w' h2 h3 h4 h5)
/-- The first elements of a fresh row. -/
theorem wpList_append_first13 {P : Program} (w : World) {ops : Array Oper} {rest : List Oper} {o : Oper} {a : Act} {Q : Exit → Act → World → Prop} (hw : Region.wanted o (yielded ops a.tmps) = true) (s x : Operand) (t : TypeId)
    (ho : o.op = .call { callee := .builtin .append, args := #[s, x], argTypes := #[t, t] })
    (base : Nat) (e : TypeId) (i : TypeInfo) (z : Value) (size bytes : Nat) (ht : P.underlying t = some (.slice e)) (hi : P.info? e = some i) (hz : i.zero = some z)
    (hsize : i.size = size) (hby : i.bytes = bytes) (hzs : z.cells.size = size) (hsz : 0 < size)
    (v : Value) (hs : a.eval s = v) (hown : w.ownsRow base e size v 0 [])
    (ad : Addr) (m c : Nat) (news : List Value) (hx : a.eval x = .slice (some ad) m c) (hl : news.length = m * size) (hnews : ∀ j u, news[j]? = some u → w.cell? (ad.add j) = some u) (h1 : ∀ u ∈ news, u.oneCell' = true)
    (hm : 0 < m) (h63 : m ≤ maxLen) (hbytes : m * bytes ≤ 140737488355328) (hbase : base ≤ w.heap.size) (H : Nat) (hH : w.heap.size = H)
    (h : ∀ g cap w', w'.ownsRow base e size (.slice (some ⟨g, 0, none⟩) m cap) m news → w.grownBy w' v.ownBlock → (v.ownBlock = some g ∨ g = H) → g < w'.heap.size → wpList P ops Q rest (a.put o.dst (.slice (some ⟨g, 0, none⟩) m cap)) w') : wpList P ops Q (o :: rest) a w :=
  wpList_append_want13 w hw s x t ho base e i z size bytes ht hi hz hsize hby hzs hsz v 0 [] hs hown ad m c news hx hl hnews h1 hm (by rw [Nat.zero_add]; exact h63) (by rw [Nat.zero_add]; exact hbytes) hbase H hH
    (fun g cap w' h2 h3 h4 h5 => by rw [Nat.zero_add] at h2 ⊢; exact h g cap w' h2 h3 h4 h5)
theorem run_append_zero13 {P : Program} (w : World) (t ty e : TypeId) (i : TypeInfo) (ht : P.underlying t = some (.slice e)) (hi : P.info? e = some i) (b : Addr) (n c : Nat) (hle : n ≤ c) (xa : Option Addr) (xc : Nat) :
    (Builtin.append_ #[t, t] ty #[.slice (some b) n c, .slice xa 0 xc]).run P w = .ok (.slice (some b) n c) w := by
  cases xa with
  | none => simp [Builtin.append_, run_underlying ht, sizeOf, typeInfo, hi, hle, Builtin.lenOf, Builtin.firstCells, storeCells]
  | some x =>
    have e := run_firstCells_some (P := P) (w := w) i.size 0 x 0 xc [] (by simp) (by simp)
    simp [Builtin.append_, run_underlying ht, sizeOf, typeInfo, hi, hle, Builtin.lenOf, e, storeCells]
/-- Nothing is appended. -/
theorem wpList_append_zero13 {P : Program} (w : World) {ops : Array Oper} {rest : List Oper} {o : Oper} {a : Act} {Q : Exit → Act → World → Prop} (hw : Region.wanted o (yielded ops a.tmps) = true) (s x : Operand) (t : TypeId)
    (ho : o.op = .call { callee := .builtin .append, args := #[s, x], argTypes := #[t, t] })
    (e : TypeId) (i : TypeInfo) (ht : P.underlying t = some (.slice e)) (hi : P.info? e = some i) (b : Addr) (n c : Nat) (hle : n ≤ c) (hs : a.eval s = .slice (some b) n c) (xa : Option Addr) (xc : Nat) (hx : a.eval x = .slice xa 0 xc)
    (h : wpList P ops Q rest (a.put o.dst (.slice (some b) n c)) w) : wpList P ops Q (o :: rest) a w :=
  wpList_step fun K hK => by
    rw [if_pos hw]
    have hrun := run_append_zero13 (P := P) w t o.type e i ht hi b n c hle xa xc
    unfold Oper.wp
    simp [execOp, ho, resolve, invoke, builtin, hs, hx, hrun, Result.andThen]
    exact hK _ _ h
set_option maxHeartbeats 4000000 in
theorem walkFnItemsValid (w : World) (a : Option Addr) (len cap : Nat) (zs : List Int) (h : Bytes w a len cap zs) :
    Calls Try.prog 3 #[.slice a len cap] w fun e w' => e = .returned (.bool true) ∧ Below w.heap.size w w' := by
  have hle := h.len_le
  obtain ⟨hl, hm⟩ := hle
  unfold maxLen at hm
  obtain ⟨i0, hi0, hz0, hz1, hz2⟩ := info_parts Itm.infoPt6
  by_cases hbig : 1048576 < len
  · go_enter Try.func3, Try.ntmps3
    go_wp2
    go_ret
    exact ⟨rfl, Below.refl _ _⟩
  · go_enter Try.func3, Try.ntmps3
    go_wp2_with fail
    refine (drawItemsValid w a len cap zs h).mono ?_
    rintro e w1 ⟨⟨sa, sl, sc⟩, L, rfl, hsl, hn, ho, hb⟩
    have HB := Lib.hid hb
    have HO := Lib.hid ho
    have HN := Lib.hid (show sl = L.length from hsl)
    have hsl16 : sl ≤ 16 := by rw [HN.out]; exact hn
    have HI := Lib.hid (implItemsValid sa sl sc L w1 (Itm.OwnPt.ints ho) (by omega))
    have HS := Lib.hid (fun u q => specItemsValid sa sl sc L u (Itm.OwnPt.ints (HO.out.next q)) (by omega))
    have hcap : sl ≤ sc := by
      rcases ho.2 with ⟨hv, _⟩ | ⟨g, c, cur, hv, _, _, hc, _⟩
      · simp only [Value.slice.injEq] at hv; omega
      · simp only [Value.slice.injEq] at hv; obtain ⟨_, e1, e2⟩ := hv; omega
    clear h hb hsl hn ho
    by_cases hok : okItems L
    · have HH := Lib.hid (fun u q => implItemsValid sa (sl / 2) sc (L.take (sl / 2)) u ((Itm.OwnPt.ints (HO.out.next q)).take (k := sl / 2) (show sl / 2 ≤ sl by omega)) (by omega))
      rw [items_half hok (sl / 2)] at HH
      rw [decide_eq_true hok] at HI HS
      clear hok
      go_wp2_with fail
      refine HI.out.mono ?_
      rintro e w2 ⟨rfl, B2⟩
      have HB2 := Lib.hid (below_call HB.out B2)
      have HO2 := Lib.hid (HO.out.next B2)
      go_wp2_with fail
      refine (HS.out _ B2).mono ?_
      rintro e w' ⟨rfl, rfl⟩
      replace HH := Lib.hid (HH.out _ B2)
      clear B2 HI HS HO HB
      go_wp2_with fail
      refine HH.out.mono ?_
      rintro e w3 ⟨rfl, B3⟩
      have HB3 := Lib.hid (below_call HB2.out B3)
      have HO3 := Lib.hid (HO2.out.next B3)
      clear B3 HB2 HO2 HH
      by_cases h0 : sl = 0
      · subst h0
        have BX := below_box w3 (.cells #[] 27)
        have HBX := Lib.hid (below_call HB3.out BX)
        have HOX := Lib.hid (HO3.out.next BX)
        have own0 := Itm.ownPt_empty w3 27 rfl
        have HO0 := Lib.hid own0
        have LT0 := Lib.hid (World.ownsRow.lt own0)
        have HSZ := Lib.hid BX.size
        have BY := below_box (w3.alloc (.cells #[] 27)) (.cells #[.int .i64 0, .int .i64 0] 27)
        have HBY := Lib.hid (below_call HBX.out BY)
        have HOY := Lib.hid (own0.next BY)
        have hnw := Itm.two_new13 (w3.alloc (.cells #[] 27)) (.int .i64 0) (.int .i64 0) 27
        rw [show (w3.alloc (.cells #[] 27)).heap.size = w3.heap.size + 1 by simp] at hnw
        have HNW := Lib.hid hnw
        have HSY := Lib.hid (Nat.le_trans HSZ.out BY.size)
        have HBS := Lib.hid HB3.out.size
        clear BX BY own0 hnw
        go_wp2_with (first
          | (at_builtin; refine wpList_append_zero13 _ (by first | rfl | kernel_rfl) (.tmp 27) (.tmp 28) 23 rfl 27 i0 Try.underlying23 hi0 ⟨w3.heap.size, 0, none⟩ 0 0 (Nat.le_refl _) rfl sa sc rfl ?_)
          | (at_builtin; refine wpList_append_first13 _ (by first | rfl | kernel_rfl) (.tmp 29) (.tmp 31) 23 rfl w3.heap.size 27 i0 (pt 0 0) 2 16 Try.underlying23 hi0 hz0 hz1 hz2 rfl (by decide) _ rfl HOY.out ⟨w3.heap.size + 1, 0, none⟩ 1 1 [.int .i64 0, .int .i64 0] rfl rfl HNW.out (by intro u hu; simp at hu; rcases hu with rfl | rfl <;> rfl) (by omega) (by unfold maxLen; omega) (by omega) HSY.out _ rfl ?_; intro g1 cap1 w7 own7 grow7 at7 ltg7; have HA7 := Lib.hid (And.intro own7 grow7); clear own7 grow7 at7 ltg7))
        have HO7 := Lib.hid (show Itm.OwnPt w7 w3.heap.size (.slice (some ⟨g1, 0, none⟩) 1 cap1) [(0, 0)] from HA7.out.1)
        have HB7 := Lib.hid (HBY.out.grown HA7.out.2 HBY.out.size (fun q hq => by have hh : some w3.heap.size = some q := hq; injection hh with hh; have := HBS.out; omega))
        have HI7 := Lib.hid (implItemsValid (some ⟨g1, 0, none⟩) 1 cap1 [(0, 0)] w7 (Itm.OwnPt.ints HO7.out) (by omega))
        rw [show decide (okItems [(0, 0)]) = false from items_bad []] at HI7
        clear HA7 HO7
        go_wp2_with fail
        refine HI7.out.mono ?_
        rintro e w8 ⟨rfl, B8⟩
        have HB8 := Lib.hid (below_call HB7.out B8)
        clear B8 HI7
        go_wp2_with fail
        refine (alive _).mono ?_
        rintro e w' ⟨rfl, rfl⟩
        go_wp2
        go_ret
        exact ⟨rfl, HB8.out⟩
      · skip
        have BX := below_box w3 (.cells #[] 27)
        have HBX := Lib.hid (below_call HB3.out BX)
        have HOX := Lib.hid (HO3.out.next BX)
        have own0 := Itm.ownPt_empty w3 27 rfl
        have HO0 := Lib.hid own0
        have LT0 := Lib.hid (World.ownsRow.lt own0)
        have HSZ := Lib.hid BX.size
        obtain ⟨g, cp, ha, hg0, hg1⟩ := Itm.OwnPt.at7 HOX.out (by rw [← HN.out]; omega)
        simp only [Value.slice.injEq] at ha
        obtain ⟨rfl, hsx, rfl⟩ := ha
        clear hsx
        have HOX2 : Itm.OwnPt (w3.alloc (.cells #[] 27)) w.heap.size (.slice (some ⟨g, 0, none⟩) L.length sc) L := by have := HOX.out; rwa [HN.out] at this
        have HPC := Lib.hid (fun j (q : j < L.length * 2) => World.ownsRow.cellAt HOX2 j (by omega))
        have HPL := Lib.hid (show (Itm.pvals L).length = sl * 2 by rw [Itm.pvals_len, HN.out])
        have HPV := Lib.hid (fun j u (q : (Itm.pvals L)[j]? = some u) => show (w3.alloc (.cells #[] 27)).cell? ((⟨g, 0, none⟩ : Addr).add j) = some u from by
          have hj : j < L.length * 2 := by have := (List.getElem?_eq_some_iff.1 q).1; rwa [Itm.pvals_len] at this
          have := HPC.out j hj
          rw [q] at this
          by_cases hj0 : j = 0
          · subst hj0; simpa [Addr.add] using this
          · simpa [Addr.add, hj0] using this)
        have HPO := Lib.hid (show ∀ u ∈ Itm.pvals L, u.oneCell' = true from fun u hu => by
          obtain ⟨j, hj, rfl⟩ := List.getElem_of_mem hu
          rw [Itm.pvals_len] at hj
          have := Itm.pvals_at L j hj
          rw [List.getElem?_eq_getElem (by rw [Itm.pvals_len]; exact hj)] at this
          injection this with this
          rw [this]; rfl)
        have HBS := Lib.hid HB3.out.size
        clear BX own0 hg0 hg1 HOX2
        have HNL := Lib.hid HN.out
        go_wp2_with (first
          | (at_builtin; refine wpList_append_first13 _ (by first | rfl | kernel_rfl) (.tmp 27) (.tmp 28) 23 rfl w3.heap.size 27 i0 (pt 0 0) 2 16 Try.underlying23 hi0 hz0 hz1 hz2 rfl (by decide) _ rfl HO0.out ⟨g, 0, none⟩ sl sc (Itm.pvals L) rfl HPL.out HPV.out HPO.out (by omega) (by unfold maxLen; omega) (by omega) HSZ.out _ rfl ?_
             intro g1 cap1 w7 own7 grow7 at7 ltg7
             have LT7 := Lib.hid (World.ownsRow.lt own7)
             have HO7 := Lib.hid (own7.alloc (.cells #[.int .i64 0, .int .i64 0] 27))
             have HB7 := Lib.hid (below_call (HBX.out.grown grow7 HBX.out.size (fun q hq => by have hh : some w3.heap.size = some q := hq; injection hh with hh; have := HBS.out; omega)) (below_box w7 (.cells #[.int .i64 0, .int .i64 0] 27)))
             have HN7 := Lib.hid (Itm.two_new13 w7 (.int .i64 0) (.int .i64 0) 27)
             have HZ7 := Lib.hid (Nat.le_trans HSZ.out (Nat.le_trans grow7.size (below_box w7 (.cells #[.int .i64 0, .int .i64 0] 27)).size))
             clear own7 grow7 at7 ltg7)
          | (at_builtin; refine wpList_append_want13 _ (by first | rfl | kernel_rfl) (.tmp 29) (.tmp 31) 23 rfl w3.heap.size 27 i0 (pt 0 0) 2 16 Try.underlying23 hi0 hz0 hz1 hz2 rfl (by decide) _ sl (Itm.pvals L) rfl HO7.out ⟨w7.heap.size, 0, none⟩ 1 1 [.int .i64 0, .int .i64 0] rfl rfl HN7.out (by intro u hu; simp at hu; subst hu; rfl) (by omega) (by unfold maxLen; omega) (by omega) HZ7.out _ rfl ?_
             intro g2 cap2 w8 own8 grow8 at8 ltg8
             have HA8 := Lib.hid (And.intro own8 grow8)
             clear own8 grow8 at8 ltg8))
        have HO8 := Lib.hid (show Itm.OwnPt w8 w3.heap.size (.slice (some ⟨g2, 0, none⟩) (sl + 1) cap2) (L ++ [(0, 0)]) by
          unfold Itm.OwnPt
          rw [Itm.pvals_snoc6, List.length_append, List.length_singleton, ← HNL.out]
          exact HA8.out.1)
        have HB8 := Lib.hid (HB7.out.grown HA8.out.2 HB7.out.size (fun q hq => by have := (LT7.out q hq).1; have := HBS.out; omega))
        have HI8 := Lib.hid (implItemsValid (some ⟨g2, 0, none⟩) (sl + 1) cap2 (L ++ [(0, 0)]) w8 (Itm.OwnPt.ints HO8.out) (by omega))
        rw [items_bad L] at HI8
        clear HA8 HO8
        go_wp2_with fail
        refine HI8.out.mono ?_
        rintro e w9 ⟨rfl, B9⟩
        have HB9 := Lib.hid (below_call HB8.out B9)
        clear B9 HI8
        go_wp2_with fail
        refine (alive _).mono ?_
        rintro e w' ⟨rfl, rfl⟩
        go_wp2
        go_ret
        exact ⟨rfl, HB9.out⟩
    · have h0 : ¬ sl = 0 := fun q => hok (by
        obtain rfl : L = [] := List.eq_nil_of_length_eq_zero (by rw [← HN.out]; exact q)
        exact ⟨by simp, fun c hc => by cases hc⟩)
      rw [decide_eq_false hok] at HI HS
      clear hok
      go_wp2_with fail
      refine HI.out.mono ?_
      rintro e w2 ⟨rfl, B2⟩
      have HB2 := Lib.hid (below_call HB.out B2)
      have HO2 := Lib.hid (HO.out.next B2)
      go_wp2_with fail
      refine (HS.out _ B2).mono ?_
      rintro e w' ⟨rfl, rfl⟩
      clear B2 HI HS HO HB
      have BX := below_box w2 (.cells #[] 27)
      have HBX := Lib.hid (below_call HB2.out BX)
      have HOX := Lib.hid (HO2.out.next BX)
      have own0 := Itm.ownPt_empty w2 27 rfl
      have HO0 := Lib.hid own0
      have LT0 := Lib.hid (World.ownsRow.lt own0)
      have HSZ := Lib.hid BX.size
      obtain ⟨g, cp, ha, hg0, hg1⟩ := Itm.OwnPt.at7 HOX.out (by rw [← HN.out]; omega)
      simp only [Value.slice.injEq] at ha
      obtain ⟨rfl, hsx, rfl⟩ := ha
      clear hsx
      have HOX2 : Itm.OwnPt (w2.alloc (.cells #[] 27)) w.heap.size (.slice (some ⟨g, 0, none⟩) L.length sc) L := by have := HOX.out; rwa [HN.out] at this
      have HPC := Lib.hid (fun j (q : j < L.length * 2) => World.ownsRow.cellAt HOX2 j (by omega))
      have HPL := Lib.hid (show (Itm.pvals L).length = sl * 2 by rw [Itm.pvals_len, HN.out])
      have HPV := Lib.hid (fun j u (q : (Itm.pvals L)[j]? = some u) => show (w2.alloc (.cells #[] 27)).cell? ((⟨g, 0, none⟩ : Addr).add j) = some u from by
        have hj : j < L.length * 2 := by have := (List.getElem?_eq_some_iff.1 q).1; rwa [Itm.pvals_len] at this
        have := HPC.out j hj
        rw [q] at this
        by_cases hj0 : j = 0
        · subst hj0; simpa [Addr.add] using this
        · simpa [Addr.add, hj0] using this)
      have HPO := Lib.hid (show ∀ u ∈ Itm.pvals L, u.oneCell' = true from fun u hu => by
        obtain ⟨j, hj, rfl⟩ := List.getElem_of_mem hu
        rw [Itm.pvals_len] at hj
        have := Itm.pvals_at L j hj
        rw [List.getElem?_eq_getElem (by rw [Itm.pvals_len]; exact hj)] at this
        injection this with this
        rw [this]; rfl)
      have HBS := Lib.hid HB2.out.size
      clear BX own0 hg0 hg1 HOX2
      have HNL := Lib.hid HN.out
      go_wp2_with (first
        | (at_builtin; refine wpList_append_first13 _ (by first | rfl | kernel_rfl) (.tmp 27) (.tmp 28) 23 rfl w2.heap.size 27 i0 (pt 0 0) 2 16 Try.underlying23 hi0 hz0 hz1 hz2 rfl (by decide) _ rfl HO0.out ⟨g, 0, none⟩ sl sc (Itm.pvals L) rfl HPL.out HPV.out HPO.out (by omega) (by unfold maxLen; omega) (by omega) HSZ.out _ rfl ?_
           intro g1 cap1 w7 own7 grow7 at7 ltg7
           have LT7 := Lib.hid (World.ownsRow.lt own7)
           have HO7 := Lib.hid (own7.alloc (.cells #[.int .i64 0, .int .i64 0] 27))
           have HB7 := Lib.hid (below_call (HBX.out.grown grow7 HBX.out.size (fun q hq => by have hh : some w2.heap.size = some q := hq; injection hh with hh; have := HBS.out; omega)) (below_box w7 (.cells #[.int .i64 0, .int .i64 0] 27)))
           have HN7 := Lib.hid (Itm.two_new13 w7 (.int .i64 0) (.int .i64 0) 27)
           have HZ7 := Lib.hid (Nat.le_trans HSZ.out (Nat.le_trans grow7.size (below_box w7 (.cells #[.int .i64 0, .int .i64 0] 27)).size))
           clear own7 grow7 at7 ltg7)
        | (at_builtin; refine wpList_append_want13 _ (by first | rfl | kernel_rfl) (.tmp 29) (.tmp 31) 23 rfl w2.heap.size 27 i0 (pt 0 0) 2 16 Try.underlying23 hi0 hz0 hz1 hz2 rfl (by decide) _ sl (Itm.pvals L) rfl HO7.out ⟨w7.heap.size, 0, none⟩ 1 1 [.int .i64 0, .int .i64 0] rfl rfl HN7.out (by intro u hu; simp at hu; subst hu; rfl) (by omega) (by unfold maxLen; omega) (by omega) HZ7.out _ rfl ?_
           intro g2 cap2 w8 own8 grow8 at8 ltg8
           have HA8 := Lib.hid (And.intro own8 grow8)
           clear own8 grow8 at8 ltg8))
      have HO8 := Lib.hid (show Itm.OwnPt w8 w2.heap.size (.slice (some ⟨g2, 0, none⟩) (sl + 1) cap2) (L ++ [(0, 0)]) by
        unfold Itm.OwnPt
        rw [Itm.pvals_snoc6, List.length_append, List.length_singleton, ← HNL.out]
        exact HA8.out.1)
      have HB8 := Lib.hid (HB7.out.grown HA8.out.2 HB7.out.size (fun q hq => by have := (LT7.out q hq).1; have := HBS.out; omega))
      have HI8 := Lib.hid (implItemsValid (some ⟨g2, 0, none⟩) (sl + 1) cap2 (L ++ [(0, 0)]) w8 (Itm.OwnPt.ints HO8.out) (by omega))
      rw [items_bad L] at HI8
      clear HA8 HO8
      go_wp2_with fail
      refine HI8.out.mono ?_
      rintro e w9 ⟨rfl, B9⟩
      have HB9 := Lib.hid (below_call HB8.out B9)
      clear B9 HI8
      go_wp2_with fail
      refine (alive _).mono ?_
      rintro e w' ⟨rfl, rfl⟩
      go_wp2
      go_ret
      exact ⟨rfl, HB9.out⟩
end Go.Proofs.Ytefjedhleihapaa
