/- Motors: the document's RunMotor. -/
import Derived.Test.YtgnchgmbflkakaaCs14b
import Derived.Test.YtgnchgmbflkakaaZbDr
namespace Go.Proofs.Ytgnchgmbflkakaa
set_option maxRecDepth 100000
open Go.RowKit
attribute [local go_sem ↓] Go.wp_at_zero Go.wp_at_succ
theorem OwnI.sl14 {w : World} {B : Nat} {v : Value} {zs : List Int} (h : OwnI w B v zs) : ∃ s : Sl, v = .slice s.a s.len s.cap ∧ s.len = zs.length := by
  rcases h.2 with ⟨hv, hn⟩ | ⟨g, c, cur, hv, _⟩
  · exact ⟨⟨none, 0, 0⟩, hv, hn.symm⟩
  · exact ⟨⟨some ⟨g, 0, none⟩, zs.length, c⟩, hv, rfl⟩
theorem nums14_new (w : World) (T : TypeId) (hT : T = 3) : OwnI (w.alloc (.cells #[] T)) w.heap.size (.slice (some ⟨w.heap.size, 0, none⟩) 0 0) [] := by
  subst hT
  exact World.ownsRow_lit (base := w.heap.size) (e := 3) (size := 1) w #[] 0 (Nat.le_refl _) (Nat.zero_le _) rfl
theorem OwnP.row14 {w w' : World} {b : Nat} {x y : Int} {row : Option Nat} (h : OwnP w b x y) (hg : w.grownBy w' row) (hne : some b ≠ row) : OwnP w' b x y :=
  have e := hg.block b h.lt hne
  ⟨⟨Nat.lt_of_lt_of_le h.lt hg.size, (World.cell?_of_block (a := ⟨b, 0, none⟩) e).trans h.c0, (World.cell?_of_block (a := ⟨b, 1, none⟩) e).trans h.c1⟩, (World.frozen?_of_block (a := ⟨b, 0, none⟩) e).trans h.z0, (World.frozen?_of_block (a := ⟨b, 1, none⟩) e).trans h.z1⟩
theorem runL_take (g k d f : Int) (n i : Nat) (a v : Int) (h : i < n) : (runL g k d f n a v).take (i + 1) = (runL g k d f n a v).take i ++ [(runA g k d f (i + 1) a v).1] := by
  have e := runL_at g k d f n i a v h
  have hl := (List.getElem?_eq_some_iff.1 e).1
  rw [List.take_succ_eq_append_getElem hl, (List.getElem?_eq_some_iff.1 e).2]
set_option maxHeartbeats 2000000 in
theorem specRunMotor (a v g k d f n : Int) (w : World) :
    Calls Try.prog 31 #[pt a v, .int .i64 g, .int .i64 k, .int .i64 d, .int .i64 f, .int .i64 n] w (Nums14 (runV a v g k d f n) w) := by
  have P0 := (OwnP.box w a v 24).next (below_box _ (.cells #[] 3))
  have HB := Lib.hid (below_box2 w (.cells #[.int .i64 a, .int .i64 v] 24) (.cells #[] 3))
  have Z0 := nums14_new (w.alloc (.cells #[.int .i64 a, .int .i64 v] 24)) 3 rfl
  rw [show (w.alloc (.cells #[.int .i64 a, .int .i64 v] 24)).heap.size = w.heap.size + 1 by simp] at Z0
  obtain ⟨i0, hi0, hz0, hz1, hz2⟩ := info_parts infoInt
  by_cases h0 : okMotor a v
  rotate_left
  · have HV := Lib.hid (fun w => specMotorValid a v w)
    rw [decide_eq_false h0] at HV
    have EA : runV a v g k d f n = [] := if_neg (fun q => h0 (q.1.1))
    rw [EA]
    clear EA
    go_enter Try.func31, Try.ntmps31
    go_wp2_with fail
    refine (HV.out _).mono ?_
    rintro e w2 ⟨rfl, B2⟩
    have HB2 := Lib.hid (below_call HB.out B2)
    have HZ := Lib.hid B2
    clear B2
    have HO := Lib.hid (OwnI.mono (Z0.next HZ.out) (Nat.le_succ w.heap.size))
    clear HZ
    go_wp2
    go_ret
    exact ⟨⟨_, 0, 0⟩, rfl, rfl, HO.out, HB2.out⟩
  have HV := Lib.hid (fun w => specMotorValid a v w)
  rw [decide_eq_true h0] at HV
  by_cases h1 : -10000 ≤ g ∧ g ≤ 10000
  rotate_left
  · skip
    have EA : runV a v g k d f n = [] := if_neg (fun q => h1 (q.1.2.1))
    rw [EA]
    clear EA
    go_enter Try.func31, Try.ntmps31
    go_wp2_with fail
    refine (HV.out _).mono ?_
    rintro e w2 ⟨rfl, B2⟩
    have HB2 := Lib.hid (below_call HB.out B2)
    have HZ := Lib.hid B2
    clear B2
    go_wp2_with fail
    refine (l1In_no g (-10000) (10000) _ (by omega)).mono ?_
    rintro e w' ⟨rfl, rfl⟩
    have HO := Lib.hid (OwnI.mono (Z0.next HZ.out) (Nat.le_succ w.heap.size))
    clear HZ
    go_wp2
    go_ret
    exact ⟨⟨_, 0, 0⟩, rfl, rfl, HO.out, HB2.out⟩
  by_cases h2 : 0 ≤ k ∧ k ≤ 64
  rotate_left
  · skip
    have EA : runV a v g k d f n = [] := if_neg (fun q => h2 (q.1.2.2.1))
    rw [EA]
    clear EA
    go_enter Try.func31, Try.ntmps31
    go_wp2_with fail
    refine (HV.out _).mono ?_
    rintro e w2 ⟨rfl, B2⟩
    have HB2 := Lib.hid (below_call HB.out B2)
    have HZ := Lib.hid B2
    clear B2
    go_wp2_with fail
    refine (l1In_yes g (-10000) (10000) _ h1.1 h1.2).mono ?_
    rintro e w' ⟨rfl, rfl⟩
    go_wp2_with fail
    refine (l1In_no k (0) (64) _ (by omega)).mono ?_
    rintro e w' ⟨rfl, rfl⟩
    have HO := Lib.hid (OwnI.mono (Z0.next HZ.out) (Nat.le_succ w.heap.size))
    clear HZ
    go_wp2
    go_ret
    exact ⟨⟨_, 0, 0⟩, rfl, rfl, HO.out, HB2.out⟩
  by_cases h3 : 0 ≤ d ∧ d ≤ 64
  rotate_left
  · skip
    have EA : runV a v g k d f n = [] := if_neg (fun q => h3 (q.1.2.2.2))
    rw [EA]
    clear EA
    go_enter Try.func31, Try.ntmps31
    go_wp2_with fail
    refine (HV.out _).mono ?_
    rintro e w2 ⟨rfl, B2⟩
    have HB2 := Lib.hid (below_call HB.out B2)
    have HZ := Lib.hid B2
    clear B2
    go_wp2_with fail
    refine (l1In_yes g (-10000) (10000) _ h1.1 h1.2).mono ?_
    rintro e w' ⟨rfl, rfl⟩
    go_wp2_with fail
    refine (l1In_yes k (0) (64) _ h2.1 h2.2).mono ?_
    rintro e w' ⟨rfl, rfl⟩
    go_wp2_with fail
    refine (l1In_no d (0) (64) _ (by omega)).mono ?_
    rintro e w' ⟨rfl, rfl⟩
    have HO := Lib.hid (OwnI.mono (Z0.next HZ.out) (Nat.le_succ w.heap.size))
    clear HZ
    go_wp2
    go_ret
    exact ⟨⟨_, 0, 0⟩, rfl, rfl, HO.out, HB2.out⟩
  by_cases h4 : 0 ≤ f ∧ f ≤ 100
  rotate_left
  · skip
    have EA : runV a v g k d f n = [] := if_neg (fun q => h4 (q.2.1))
    rw [EA]
    clear EA
    go_enter Try.func31, Try.ntmps31
    go_wp2_with fail
    refine (HV.out _).mono ?_
    rintro e w2 ⟨rfl, B2⟩
    have HB2 := Lib.hid (below_call HB.out B2)
    have HZ := Lib.hid B2
    clear B2
    go_wp2_with fail
    refine (l1In_yes g (-10000) (10000) _ h1.1 h1.2).mono ?_
    rintro e w' ⟨rfl, rfl⟩
    go_wp2_with fail
    refine (l1In_yes k (0) (64) _ h2.1 h2.2).mono ?_
    rintro e w' ⟨rfl, rfl⟩
    go_wp2_with fail
    refine (l1In_yes d (0) (64) _ h3.1 h3.2).mono ?_
    rintro e w' ⟨rfl, rfl⟩
    go_wp2_with fail
    refine (l1In_no f (0) (100) _ (by omega)).mono ?_
    rintro e w' ⟨rfl, rfl⟩
    have HO := Lib.hid (OwnI.mono (Z0.next HZ.out) (Nat.le_succ w.heap.size))
    clear HZ
    go_wp2
    go_ret
    exact ⟨⟨_, 0, 0⟩, rfl, rfl, HO.out, HB2.out⟩
  by_cases h5 : 0 ≤ n ∧ n ≤ 400
  rotate_left
  · skip
    have EA : runV a v g k d f n = [] := if_neg (fun q => h5 (q.2.2))
    rw [EA]
    clear EA
    go_enter Try.func31, Try.ntmps31
    go_wp2_with fail
    refine (HV.out _).mono ?_
    rintro e w2 ⟨rfl, B2⟩
    have HB2 := Lib.hid (below_call HB.out B2)
    have HZ := Lib.hid B2
    clear B2
    go_wp2_with fail
    refine (l1In_yes g (-10000) (10000) _ h1.1 h1.2).mono ?_
    rintro e w' ⟨rfl, rfl⟩
    go_wp2_with fail
    refine (l1In_yes k (0) (64) _ h2.1 h2.2).mono ?_
    rintro e w' ⟨rfl, rfl⟩
    go_wp2_with fail
    refine (l1In_yes d (0) (64) _ h3.1 h3.2).mono ?_
    rintro e w' ⟨rfl, rfl⟩
    go_wp2_with fail
    refine (l1In_yes f (0) (100) _ h4.1 h4.2).mono ?_
    rintro e w' ⟨rfl, rfl⟩
    go_wp2_with fail
    refine (l1In_no n 0 400 _ (by omega)).mono ?_
    rintro e w' ⟨rfl, rfl⟩
    have HO := Lib.hid (OwnI.mono (Z0.next HZ.out) (Nat.le_succ w.heap.size))
    clear HZ
    go_wp2
    go_ret
    exact ⟨⟨_, 0, 0⟩, rfl, rfl, HO.out, HB2.out⟩
  have EA : runV a v g k d f n = runL g k d f n.toNat a v := if_pos ⟨⟨h0, h1, h2, h3⟩, h4, h5⟩
  rw [EA]
  clear EA
  obtain ⟨N, rfl⟩ : ∃ N : Nat, n = (N : Int) := ⟨n.toNat, by omega⟩
  rw [Int.toNat_natCast]
  have HRO := Lib.hid (runA_ok (g := g) (k := k) (d := d) (f := f) h0)
  have HRL := Lib.hid (runL_len g k d f N a v)
  go_enter Try.func31, Try.ntmps31
  go_wp2_with fail
  refine (HV.out _).mono ?_
  rintro e w2 ⟨rfl, B2⟩
  have HB2 := Lib.hid (below_call HB.out B2)
  have HZ := Lib.hid B2
  clear B2
  go_wp2_with fail
  refine (l1In_yes g (-10000) (10000) _ h1.1 h1.2).mono ?_
  rintro e w' ⟨rfl, rfl⟩
  go_wp2_with fail
  refine (l1In_yes k (0) (64) _ h2.1 h2.2).mono ?_
  rintro e w' ⟨rfl, rfl⟩
  go_wp2_with fail
  refine (l1In_yes d (0) (64) _ h3.1 h3.2).mono ?_
  rintro e w' ⟨rfl, rfl⟩
  go_wp2_with fail
  refine (l1In_yes f (0) (100) _ h4.1 h4.2).mono ?_
  rintro e w' ⟨rfl, rfl⟩
  go_wp2_with fail
  refine (l1In_yes _ 0 400 _ h5.1 h5.2).mono ?_
  rintro e w' ⟨rfl, rfl⟩
  have P2 := P0.next HZ.out
  have Z2 := Z0.next HZ.out
  generalize (w.alloc (.cells #[.int .i64 a, .int .i64 v] 24)).alloc (.cells #[] 3) = wz at *
  clear HZ P0 Z0 HB
  go_wp2
  go_loopw [13, 14] (fun ov kv wr => ∃ (i : Nat) (zs : List Int), i ≤ N ∧ kv = .int .i64 (i : Int) ∧ Hid (zs = (runL g k d f N a v).take i) ∧ Hid (OwnI wr (w.heap.size + 1) ov zs) ∧ Hid (Below w.heap.size w wr) ∧ Hid (OwnP wr w.heap.size (runA g k d f i a v).1 (runA g k d f i a v).2)) (fun _ kv _ => N - (intOf kv).toNat)
  case atStart => exact ⟨0, [], Nat.zero_le _, rfl, Lib.hid rfl, Lib.hid Z2, HB2, Lib.hid P2⟩
  case round =>
    obtain ⟨i, zs, hi, rfl, HZS, HO, HW, HP⟩ := hrel
    clear Z2 P2
    by_cases hlt : i < N
    · have j1 : (i : Int) < (N : Int) := by omega
      have HOK := Lib.hid (HRO.out i)
      have HNX := Lib.hid (runA_next g k d f i a v)
      have HTK := Lib.hid (runL_take g k d f N i a v hlt)
      generalize runA g k d f i a v = p at *
      obtain ⟨x, y⟩ := p
      simp only at HOK HNX
      have HP' := HP.out
      simp only at HP'
      obtain ⟨tq, htq⟩ : ∃ tq, aimN x y g k d = tq := ⟨_, rfl⟩
      have hb := aim_bd x y g k d
      rw [htq] at hb HNX
      have HA := Lib.hid (fun (q : Kept wr) => keptCall (l14Aim x y g k d q.u ⟨HOK.out, h1, h2, h3⟩))
      rw [htq] at HA
      have HS := Lib.hid (fun (q : Kept wr) => keptCall (l14Step x y tq f q.u HOK.out.1 HOK.out.2 hb h4))
      generalize stpA x y tq f = nx at *
      generalize stpS x y tq f = ny at *
      obtain ⟨e0, e1⟩ := HP'.toAtP.kepts
      clear htq hb
      go_upto_region 7 with fail
      refine wp_region_ktail 8 (by kernel_rfl) (by kernel_rfl) ?_
      simp only [List.take_succ_cons, List.take_zero, List.drop_succ_cons, List.drop_zero]
      repeat (go_big_quiet_step ((first | (go_at_call 52; with_reducible exact HA.out _) | (go_at_call 46; with_reducible exact HS.out _))))
      refine wpQuiet_nil ?_
      rintro w2 ⟨⟨_, K2⟩, rfl⟩
      have P3 := HP'.next K2
      obtain ⟨⟨_, c0, c1⟩, z0, z1⟩ := id P3
      have P4 := Lib.hid ((P3.put0 nx).put1 ny)
      have O4 := Lib.hid (((HO.out.next K2).off (c := w.heap.size) (o := 0) (Nat.lt_succ_self _) (.int .i64 nx)).off (c := w.heap.size) (o := 1) (Nat.lt_succ_self _) (.int .i64 ny))
      have HW4 := Lib.hid (((below_call HW.out K2).setCell (p := ⟨w.heap.size, 0, none⟩) (Nat.le_refl _) (.int .i64 nx)).setCell (p := ⟨w.heap.size, 1, none⟩) (Nat.le_refl _) (.int .i64 ny))
      clear P3 K2 HO HW HP HP' HA HS e0 e1
      go_upto_region 8 with fail
      generalize (w2.setCell ⟨w.heap.size, 0, none⟩ (.int .i64 nx)).setCell ⟨w.heap.size, 1, none⟩ (.int .i64 ny) = wy at *
      clear c0 c1 z0 z1
      obtain ⟨⟨_, p0, p1⟩, _, _⟩ := id P4.out
      have BX := below_box wy (.cells #[.int .i64 nx] 3)
      have HW5 := Lib.hid (below_call HW4.out BX)
      have P5 := Lib.hid (P4.out.alloc (.cells #[.int .i64 nx] 3))
      have O5 := Lib.hid (World.ownsRow.alloc O4.out (.cells #[.int .i64 nx] 3))
      have own0 := Lib.hid (World.ownsRow.lt O4.out)
      have HN1 := Lib.hid (cell_one_new wy (.int .i64 nx) 3)
      have HSZ : Hid (w.heap.size + 1 ≤ (wy.alloc (.cells #[.int .i64 nx] 3)).heap.size) := Lib.hid (by have := P5.out.lt; omega)
      have hzl : zs.length ≤ 400 := by rw [HZS.out, List.length_take]; omega
      clear BX
      go_wp2_with (at_builtin; refine wpList_append_lies _ rfl (.tmp 58) (.tmp 61) 39 rfl (w.heap.size + 1) 3 i0 (.int .i64 0) 1 8 Try.underlying39 hi0 hz0 hz1 hz2 rfl (by decide) _ zs.length (vals zs) rfl O5.out ⟨wy.heap.size, 0, none⟩ 1 1 [.int .i64 nx] rfl rfl HN1.out (by intro u hu; simp at hu; subst hu; rfl) (by omega) (by unfold maxLen; omega) (by omega) HSZ.out _ rfl ?_; intro g9 cap9 w9 own9 grow9 at9 ltg9; have HA9 := Lib.hid (And.intro own9 grow9); clear own9 grow9 at9 ltg9)
      have HW9 := Lib.hid (HW5.out.grown HA9.out.2 HW5.out.size (fun q hq => Nat.le_of_succ_le (own0.out q hq).1))
      have P9 := Lib.hid (P5.out.row14 HA9.out.2 (fun e => by have := (own0.out _ e.symm).1; omega))
      have O9 := Lib.hid (show OwnI w9 (w.heap.size + 1) (.slice (some ⟨g9, 0, none⟩) (zs.length + 1) cap9) (zs ++ [nx]) by
        have := HA9.out.1
        unfold OwnI
        rw [List.length_append, List.length_singleton, show vals (zs ++ [nx]) = vals zs ++ [.int .i64 nx] by simp]
        exact this)
      clear HA9 HW4 HW5 P4 P5 O4 O5
      go_roundw
      case rel => exact ⟨i + 1, zs ++ [nx], by omega, by congr 1, Lib.hid (by rw [HTK.out, HNX.out, ← HZS.out]), O9, HW9, Lib.hid (by rw [HNX.out]; exact P9.out)⟩
      case measure => simp [intOf]; omega
    · obtain rfl : i = N := by omega
      have HF := HO.out
      rw [HZS.out, List.take_of_length_le (by rw [HRL.out]; exact Nat.le_refl _)] at HF
      obtain ⟨⟨oa, ol, oc⟩, rfl, hol⟩ := HF.sl14
      have HF2 := Lib.hid (OwnI.mono HF (Nat.le_succ w.heap.size))
      have hol2 := Lib.hid hol
      clear HF HO hol
      go_wp2
      go_ret
      exact ⟨⟨oa, ol, oc⟩, rfl, hol2.out, HF2.out, HW.out⟩
end Go.Proofs.Ytgnchgmbflkakaa
