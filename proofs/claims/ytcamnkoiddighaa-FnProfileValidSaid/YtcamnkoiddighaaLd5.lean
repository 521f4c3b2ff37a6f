/- The walk of the law FnProfileValid. -/
import Derived.Test.YtcamnkoiddighaaLc5
namespace Go.Proofs.Ytcamnkoiddighaa
set_option maxRecDepth 100000
open Go.RowKit
attribute [local go_sem ↓] Go.wp_at_zero Go.wp_at_succ
/-- An append that a guard lets by. -/
theorem wpList_append_want {P : Program} (w : World) {ops : Array Oper} {rest : List Oper} {o : Oper} {a : Act} {Q : Exit → Act → World → Prop} (hw : Region.wanted o (yielded ops a.tmps) = true) (s x : Operand) (t : TypeId)
    (ho : o.op = .call { callee := .builtin .append, args := #[s, x], argTypes := #[t, t] })
    (base : Nat) (e : TypeId) (i : TypeInfo) (z : Value) (size bytes : Nat) (ht : P.underlying t = some (.slice e)) (hi : P.info? e = some i) (hz : i.zero = some z)
    (hsize : i.size = size) (hby : i.bytes = bytes) (hzs : z.cells.size = size) (hsz : 0 < size)
    (v : Value) (n : Nat) (xs : List Value) (hs : a.eval s = v) (hown : w.ownsRow base e size v n xs)
    (ad : Addr) (m c : Nat) (news : List Value) (hx : a.eval x = .slice (some ad) m c) (hl : news.length = m * size) (hnews : ∀ j u, news[j]? = some u → w.cell? (ad.add j) = some u) (h1 : ∀ u ∈ news, u.oneCell' = true)
    (hm : 0 < m) (h63 : n + m ≤ maxLen) (hbytes : (n + m) * bytes ≤ 140737488355328) (hbase : base ≤ w.heap.size) (H : Nat) (hH : w.heap.size = H)
    (h : ∀ g cap w', w'.ownsRow base e size (.slice (some ⟨g, 0, none⟩) (n + m) cap) (n + m) (xs ++ news) → w.grownBy w' v.ownBlock → (v.ownBlock = some g ∨ g = H) → g < w'.heap.size → wpList P ops Q rest (a.put o.dst (.slice (some ⟨g, 0, none⟩) (n + m) cap)) w') : wpList P ops Q (o :: rest) a w :=
  wpList_step fun K hK => by
    rw [if_pos hw]
    exact wp_append_lies w s x t ho base e i z size bytes ht hi hz hsize hby hzs hsz v n xs hs hown ad m c news hx hl hnews h1 hm h63 hbytes hbase H hH fun g cap w' h2 h3 h4 h5 => hK _ _ (h g cap w' h2 h3 h4 h5)
theorem rev_take (ys : List Int) (k : Nat) (h : k < ys.length) : (ys.drop (k + 1)).reverse ++ [ys.getD k 0] = (ys.drop k).reverse := by
  rw [drop_at ys k h, List.reverse_cons]
set_option maxHeartbeats 4000000 in
theorem walkFnProfileValid (w : World) (a : Option Addr) (len cap : Nat) (zs : List Int) (h : Bytes w a len cap zs) :
    Calls Try.prog 7 #[.slice a len cap] w fun e w' => e = .returned (.bool true) ∧ Below w.heap.size w w' := by
  obtain ⟨i0, hi0, hz0, hz1, hz2⟩ := info_parts infoInt
  have hle := h.len_le
  obtain ⟨hl, hm⟩ := hle
  unfold maxLen at hm
  by_cases hbig : 1048576 < len
  · go_enter Try.func7, Try.ntmps7
    go_wp2
    go_ret
    exact ⟨rfl, Below.refl _ _⟩
  · go_enter Try.func7, Try.ntmps7
    go_wp2_with fail
    refine (drawProfileValid w a len cap zs h).mono ?_
    rintro e w1 ⟨⟨sa, sl, sc⟩, ys, t, r, t0, t1, r0, r1, rfl, hs, hly, O1, B1⟩
    simp only at hs O1
    have hsl : sl ≤ 5000 := by omega
    have HI := Lib.hid O1.ints
    have HB := Lib.hid B1
    have HSL := Lib.hid hs
    have HLY := Lib.hid hly
    clear O1 B1 hs h hly
    have e0 : (decide (validP t r ys) != decide (validP t r ys)) = false := by simp
    go_wp2_with fail
    refine (implProfileValid sa sl sc ys t r _ HI.out (by omega)).mono ?_
    rintro e w' ⟨rfl, rfl⟩
    go_wp2_with fail
    refine (specProfileValid sa sl sc ys t r _ HI.out (by omega)).mono ?_
    rintro e w' ⟨rfl, rfl⟩
    by_cases hv : validP t r ys
    · have HV := Lib.hid hv
      rw [decide_eq_true hv] at e0 ⊢
      have HOe := Lib.hid (show OwnI (w1.alloc (.cells #[] 3)) w1.heap.size (.slice (some ⟨w1.heap.size, 0, none⟩) 0 0) [] from ownI_empty w1 3 rfl)
      have HBe := Lib.hid (below_box w1 (.cells #[] 3))
      have HCE := Lib.hid (fun (u : World) (hu : Below w1.heap.size w1 u) (j : Nat) (hj : j < sl) => show ∃ b off, sa = some ⟨b, off, none⟩ ∧ u.cell? ⟨b, off + j, none⟩ = some (.int .i64 (ys.getD j 0)) by
        have HI2 := HI.out.next hu
        rcases HI2.2 with h3 | ⟨b, off, e, lt, c⟩
        · have := HI2.1; rw [h3] at this; simp at this; omega
        · exact ⟨b, off, e, c j (by rw [← HSL.out]; exact hj)⟩)
      have HRT := Lib.hid (fun (k : Nat) (hk : k < sl) => rev_take ys k (by rw [← HSL.out]; exact hk))
      have HR0 := Lib.hid (show (ys.drop sl).reverse = [] by rw [HSL.out, drop_all]; rfl)
      have tt1 := hv.1.2
      clear hv
      go_wp2
      generalize w1.alloc (.cells #[] 3) = u0 at *
      go_loopw [7, 8] (fun s i wr => ∃ k : Nat, k ≤ sl ∧ i = .int .i64 ((k : Int) - 1) ∧ Hid (OwnI wr w1.heap.size s (ys.drop k).reverse) ∧ Hid (Below w1.heap.size w1 wr)) (fun _ i _ => (intOf i + 1).toNat)
      case atStart => exact ⟨sl, Nat.le_refl _, rfl, Lib.hid (by rw [HR0.out]; exact HOe.out), HBe⟩
      case round =>
        obtain ⟨k, hk, rfl, HO, HW⟩ := hrel
        clear HOe HBe
        by_cases hpos : 0 < k
        · obtain ⟨j, rfl⟩ : ∃ j, k = j + 1 := ⟨k - 1, by omega⟩
          have hjl : j < sl := by omega
          obtain ⟨b, off, rfl, cj⟩ := HCE.out wr HW.out j hjl
          have hre := HRT.out j hjl
          have HRE := Lib.hid hre
          have ej : ((j + 1 : Nat) : Int) - 1 = (j : Int) := by omega
          rw [ej]
          have j1 : (0 : Int) ≤ (j : Int) := by omega
          have j2 : (j : Int) < (sl : Int) := by omega
          clear hre ej HCE
          generalize ys.getD j 0 = z at *
          have HLN := Lib.hid (show (ys.drop (j + 1)).reverse.length + 1 ≤ 5000 by have := HLY.out; have := HSL.out; simp; omega)
          generalize (ys.drop (j + 1)).reverse = pre at *
          have HOa := Lib.hid (HO.out.next (below_box wr (.cells #[.int .i64 z] 3)))
          have HWa := Lib.hid (below_call HW.out (below_box wr (.cells #[.int .i64 z] 3)))
          have HN := Lib.hid (cell_one_new' wr (.int .i64 z) 3)
          have HH := Lib.hid HWa.out.size
          go_wp2_with (at_builtin; refine wpList_append_lies _ rfl (.tmp 39) (.tmp 44) 33 rfl w1.heap.size 3 i0 (.int .i64 0) 1 8 Try.underlying33 hi0 hz0 hz1 hz2 rfl (by decide) _ pre.length (vals pre) rfl HOa.out ⟨wr.heap.size, 0, none⟩ 1 1 [.int .i64 z] rfl rfl HN.out (by intro u hu; simp at hu; subst hu; rfl) (by omega) (by have := HLN.out; unfold maxLen; omega) (by have := HLN.out; omega) HH.out _ rfl ?_; intro g gcap w3 own3 grow3 at3 ltg; have HA3 := Lib.hid (And.intro own3 grow3); clear own3 grow3 at3 ltg)
          have HO3 := Lib.hid (show OwnI w3 w1.heap.size (.slice (some ⟨g, 0, none⟩) (pre.length + 1) gcap) (ys.drop j).reverse by
            have h := HA3.out.1
            rw [← vals_snoc] at h
            rw [← HRE.out]
            unfold OwnI
            rw [show (pre ++ [z]).length = pre.length + 1 by simp]
            exact h)
          have HW3 := Lib.hid (show Below w1.heap.size w1 w3 from HWa.out.grown HA3.out.2 HWa.out.size (fun k hk => (World.ownsRow.lt HOa.out k hk).1))
          go_roundw
          case rel => exact ⟨j, by omega, rfl, HO3, HW3⟩
          case measure => simp [intOf]
        · obtain rfl : k = 0 := by omega
          have HOr := Lib.hid (show OwnI wr w1.heap.size _ ys.reverse from by have := HO.out; rwa [List.drop_zero] at this)
          obtain ⟨⟨ta, tl, tcp⟩, rfl, hts, htc⟩ := HOr.out.slv
          simp only at hts htc
          have htl : tl ≤ 5000 := by have := HLY.out; rw [List.length_reverse] at hts; omega
          have HVR := Lib.hid (decide_eq_true (valid_rev t r ys HV.out))
          have HVT := Lib.hid (decide_eq_false (valid_top t r ys.reverse))
          have HTS := Lib.hid hts
          clear hts HCE HO
          go_wp2_with fail
          refine (implProfileValid ta tl tcp ys.reverse t r _ HOr.out.ints (by omega)).mono ?_
          rw [HVR.out]
          rintro e w' ⟨rfl, rfl⟩
          have HOa := Lib.hid (HOr.out.next (below_box wr (.cells #[.int .i64 (t + 1)] 3)))
          have HWa := Lib.hid (below_call HW.out (below_box wr (.cells #[.int .i64 (t + 1)] 3)))
          have HN := Lib.hid (cell_one_new' wr (.int .i64 (t + 1)) 3)
          have HH := Lib.hid HWa.out.size
          have HLN := Lib.hid (show ys.reverse.length + 1 ≤ 5001 by have := HLY.out; rw [List.length_reverse]; omega)
          generalize ys.reverse = rs at *
          go_wp2_with (at_builtin; refine wpList_append_want _ (by first | rfl | kernel_rfl) (.tmp 51) (.tmp 54) 33 rfl w1.heap.size 3 i0 (.int .i64 0) 1 8 Try.underlying33 hi0 hz0 hz1 hz2 rfl (by decide) _ rs.length (vals rs) rfl HOa.out ⟨wr.heap.size, 0, none⟩ 1 1 [.int .i64 (t + 1)] rfl rfl HN.out (by intro u hu; simp at hu; subst hu; rfl) (by omega) (by have := HLN.out; unfold maxLen; omega) (by have := HLN.out; omega) HH.out _ rfl ?_; intro g gcap w3 own3 grow3 at3 ltg; have HA3 := Lib.hid (And.intro own3 grow3); clear own3 grow3 at3 ltg)
          have HO3 := Lib.hid (show OwnI w3 w1.heap.size (.slice (some ⟨g, 0, none⟩) (rs.length + 1) gcap) (rs ++ [t + 1]) by
            have h := HA3.out.1
            rw [← vals_snoc] at h
            unfold OwnI
            rw [show (rs ++ [t + 1]).length = rs.length + 1 by simp]
            exact h)
          have HW3 := Lib.hid (show Below w1.heap.size w1 w3 from HWa.out.grown HA3.out.2 HWa.out.size (fun k hk => (World.ownsRow.lt HOa.out k hk).1))
          refine (implProfileValid _ (rs.length + 1) gcap (rs ++ [t + 1]) t r _ HO3.out.ints (by have := HLN.out; omega)).mono ?_
          rw [HVT.out]
          rintro e w' ⟨rfl, rfl⟩
          go_wp2
          go_ret
          exact ⟨rfl, below_call HB.out HW3.out⟩
    · rw [decide_eq_false hv] at e0 ⊢
      go_wp2_with fail
      refine (alive _).mono ?_
      rintro e w' ⟨rfl, rfl⟩
      go_wp2
      go_ret
      exact ⟨rfl, HB.out⟩
end Go.Proofs.Ytcamnkoiddighaa
