/- The conveyor: the document's functions. -/
import Derived.Test.YtddndafddleelaaBp13
import Derived.Test.YtddndafddleelaaIt13
namespace Go.Proofs.Ytddndafddleelaa
set_option maxRecDepth 100000
open Go.RowKit
attribute [local go_sem ↓] Go.wp_at_zero Go.wp_at_succ
/-- Numbers of the call's own. -/
def Nums (zs : List Int) (w : World) (e : Ending) (w' : World) : Prop :=
  ∃ s : Sl, e = .returned (.slice s.a s.len s.cap) ∧ s.len = zs.length ∧ OwnI w' w.heap.size (.slice s.a s.len s.cap) zs ∧ Below w.heap.size w w'
/-- The first k items are valid. -/
def okTo (L : List (Int × Int)) (k : Nat) : Prop := ∀ j, j < k → okItem (L.getD j (0, 0))
theorem okTo.more {L : List (Int × Int)} {k : Nat} (h : okTo L k) (h1 : okItem (L.getD k (0, 0))) : okTo L (k + 1) := fun j hj => by
  by_cases e : j = k
  · subst e; exact h1
  · exact h j (by omega)
theorem okTo.all {L : List (Int × Int)} (h : okTo L L.length) : ∀ c ∈ L, okItem c := fun c hc => by
  obtain ⟨j, hj, rfl⟩ := List.getElem_of_mem hc
  have := h j hj
  rwa [List.getD_eq_getElem?_getD, List.getElem?_eq_getElem hj, Option.getD_some] at this
theorem okAt {L : List (Int × Int)} (h : okItems L) {k : Nat} (hk : k < L.length) : okItem (L.getD k (0, 0)) := by
  rw [List.getD_eq_getElem?_getD, List.getElem?_eq_getElem hk, Option.getD_some]
  exact h.2 _ (List.getElem_mem hk)
theorem notItems {L : List (Int × Int)} {k : Nat} (hk : k < L.length) (h : ¬ okItem (L.getD k (0, 0))) : false = decide (okItems L) := (decide_eq_false fun q => h (okAt q hk)).symm
theorem yesItems {L : List (Int × Int)} (h : okTo L L.length) : decide (L.length ≤ 8) = decide (okItems L) := by
  by_cases q : L.length ≤ 8
  · exact (decide_eq_true q).trans (decide_eq_true (p := okItems L) ⟨q, h.all⟩).symm
  · exact (decide_eq_false q).trans (decide_eq_false (p := okItems L) fun k => q k.1).symm
theorem OwnI.sl13 {w : World} {B : Nat} {v : Value} {zs : List Int} (h : OwnI w B v zs) : ∃ s : Sl, v = .slice s.a s.len s.cap ∧ s.len = zs.length := by
  rcases h.2 with ⟨hv, hn⟩ | ⟨g, c, cur, hv, _⟩
  · exact ⟨⟨none, 0, 0⟩, hv, hn.symm⟩
  · exact ⟨⟨some ⟨g, 0, none⟩, zs.length, c⟩, hv, rfl⟩
theorem nums_new (w : World) (T : TypeId) (hT : T = 3) : OwnI (w.alloc (.cells #[] T)) w.heap.size (.slice (some ⟨w.heap.size, 0, none⟩) 0 0) [] := by
  subst hT
  exact World.ownsRow_lit (base := w.heap.size) (e := 3) (size := 1) w #[] 0 (Nat.le_refl _) (Nat.zero_le _) rfl
theorem planR_take {s lo hi : Int} {L : List (Int × Int)} {k : Nat} (hk : k < L.length) : vals ((planR s lo hi L 0).take (k + 1)) = vals ((planR s lo hi L 0).take k) ++ [Value.int .i64 (pickV (L.getD k (0, 0)).1 s lo hi (rdyR s lo hi L k 0))] := by
  have h1 := planR_at s lo hi L k 0 hk
  have h2 : k < (planR s lo hi L 0).length := by rw [planR_len]; exact hk
  refine take_next _ k _ ?_
  rw [List.getD_eq_getElem?_getD, List.getElem?_eq_getElem h2, Option.getD_some] at h1
  rw [List.getElem?_eq_getElem h2, h1]
theorem l13Pick (p s lo hi r : Int) (w : World) (hp : -10000 ≤ p ∧ p ≤ 10000) (hs : 0 ≤ s ∧ s ≤ 200) (hr : 0 ≤ r ∧ r ≤ 2100) :
    Calls Try.prog 45 #[.int .i64 p, .int .i64 s, .int .i64 lo, .int .i64 hi, .int .i64 r] w fun e w' => e = .returned (.int .i64 (pickV p s lo hi r)) ∧ w = w' := by
  obtain ⟨v, hv⟩ : ∃ v, pickV p s lo hi r = v := ⟨_, rfl⟩
  have HV := Lib.hid hv
  rw [hv]
  clear hv
  obtain ⟨r0, r1⟩ := hr
  have HP := Lib.hid hp
  have HS := Lib.hid hs
  clear hp hs
  go_enter Try.func45, Try.ntmps45
  go_wp2
  go_loop [11] (fun t => ∃ n : Int, t = .int .i64 n ∧ 0 ≤ n ∧ n ≤ 2100 ∧ Hid (pickV p s lo hi n = v)) (fun t => (2101 - intOf t).toNat)
  case atStart => exact ⟨r, rfl, r0, r1, HV⟩
  case round =>
    obtain ⟨n, rfl, n0, n1, HE⟩ := hrel
    clear HV r0 r1
    by_cases hle : n ≤ 2000
    · obtain ⟨m, hm⟩ : ∃ m, s * n = m := ⟨_, rfl⟩
      have hb := place_small HP.out HS.out (t := n) ⟨by omega, by omega⟩
      rw [hm] at hb
      obtain ⟨b0, b1⟩ := hb
      obtain ⟨p0, p1⟩ := HP.out
      have o1 : IntKind.i64.wrap (s * n) = m := by rw [hm]; exact wrap_in (by omega) (by omega)
      have o2 : IntKind.i64.wrap (p + m) = p + m := wrap_in (by omega) (by omega)
      by_cases hw : inW p s lo hi n
      · have HF := Lib.hid (show n = v by rw [← HE.out]; exact (pick_hit n0 hle hw).symm)
        obtain ⟨q1, q2⟩ := hw
        rw [hm] at q1 q2
        clear hm b0 b1 p0 p1 HP HS HE
        go_wp2_with fail
        refine (l1In_yes (p + m) lo hi _ q1 q2).mono ?_
        rintro e w' ⟨rfl, rfl⟩
        go_wp2
        go_ret
        exact ⟨ret_int HF.out, rfl⟩
      · have HF := Lib.hid (show pickV p s lo hi (n + 1) = v by rw [← HE.out]; exact (pick_next n0 hw).symm)
        have q : p + m < lo ∨ hi < p + m := by
          unfold inW at hw
          rw [hm] at hw
          omega
        clear hm hw b0 b1 p0 p1
        go_wp2_with fail
        refine (l1In_no (p + m) lo hi _ q).mono ?_
        rintro e w' ⟨rfl, rfl⟩
        clear q
        go_wp2
        go_round
        case rel => exact ⟨n + 1, rfl, by omega, by omega, HF⟩
        case measure => simp [intOf]; omega
    · have HF := Lib.hid (show -1 = v by rw [← HE.out]; exact (pick_over (by omega)).symm)
      clear HE
      go_wp2
      go_ret
      exact ⟨ret_int HF.out, rfl⟩
theorem specPickTime (p s lo hi r : Int) (w : World) :
    Calls Try.prog 18 #[.int .i64 p, .int .i64 s, .int .i64 lo, .int .i64 hi, .int .i64 r] w fun e w' => e = .returned (.int .i64 (timeV p s lo hi r)) ∧ w = w' := by
  have HC := Lib.hid (l13Ok s lo hi w)
  by_cases h0 : okConv s lo hi
  rotate_left
  · have HV := Lib.hid (show -1 = timeV p s lo hi r from (if_neg (fun q => h0 q.1)).symm)
    rw [decide_eq_false h0] at HC
    clear h0
    go_enter Try.func18, Try.ntmps18
    go_wp2_with fail
    refine HC.out.mono ?_
    rintro e w' ⟨rfl, rfl⟩
    go_wp2
    go_ret
    exact ⟨ret_int HV.out, rfl⟩
  rw [decide_eq_true h0] at HC
  by_cases h1 : -10000 ≤ p ∧ p ≤ 10000
  rotate_left
  · have HV := Lib.hid (show -1 = timeV p s lo hi r from (if_neg (fun q => h1 q.2.1)).symm)
    clear h0
    go_enter Try.func18, Try.ntmps18
    go_wp2_with fail
    refine HC.out.mono ?_
    rintro e w' ⟨rfl, rfl⟩
    go_wp2_with fail
    refine (l1In_no p (-10000) 10000 _ (by omega)).mono ?_
    rintro e w' ⟨rfl, rfl⟩
    go_wp2
    go_ret
    exact ⟨ret_int HV.out, rfl⟩
  by_cases h2 : 0 ≤ r ∧ r ≤ 2000
  rotate_left
  · have HV := Lib.hid (show -1 = timeV p s lo hi r from (if_neg (fun q => h2 q.2.2)).symm)
    clear h0
    go_enter Try.func18, Try.ntmps18
    go_wp2_with fail
    refine HC.out.mono ?_
    rintro e w' ⟨rfl, rfl⟩
    go_wp2_with fail
    refine (l1In_yes p (-10000) 10000 _ h1.1 h1.2).mono ?_
    rintro e w' ⟨rfl, rfl⟩
    go_wp2_with fail
    refine (l1In_no r 0 2000 _ (by omega)).mono ?_
    rintro e w' ⟨rfl, rfl⟩
    go_wp2
    go_ret
    exact ⟨ret_int HV.out, rfl⟩
  have HV := Lib.hid (show pickV p s lo hi r = timeV p s lo hi r from (if_pos ⟨h0, h1, h2⟩).symm)
  have HP := Lib.hid (fun w => l13Pick p s lo hi r w h1 h0.1 ⟨h2.1, by omega⟩)
  clear h0
  generalize pickV p s lo hi r = v at *
  go_enter Try.func18, Try.ntmps18
  go_wp2_with fail
  refine HC.out.mono ?_
  rintro e w' ⟨rfl, rfl⟩
  go_wp2_with fail
  refine (l1In_yes p (-10000) 10000 _ h1.1 h1.2).mono ?_
  rintro e w' ⟨rfl, rfl⟩
  go_wp2_with fail
  refine (l1In_yes r 0 2000 _ h2.1 h2.2).mono ?_
  rintro e w' ⟨rfl, rfl⟩
  go_wp2_with fail
  refine (HP.out _).mono ?_
  rintro e w' ⟨rfl, rfl⟩
  go_wp2
  go_ret
  exact ⟨ret_int HV.out, rfl⟩
set_option maxHeartbeats 1000000 in
theorem specItemsValid (a : Option Addr) (len cap : Nat) (L : List (Int × Int)) (w : World) (h : Itm.PtsAt w a len L) (hl : len ≤ 9223372036854775807) :
    Calls Try.prog 14 #[.slice a len cap] w fun e w' => e = .returned (.bool (decide (okItems L))) ∧ w = w' := by
  have HN := Lib.hid h.1
  have HA := Lib.hid h
  clear h
  go_enter Try.func14, Try.ntmps14
  go_wp2
  go_loop [3] (fun i => ∃ k : Nat, k ≤ len ∧ i = .int .i64 (k : Int) ∧ Hid (okTo L k)) (fun i => len - (intOf i).toNat)
  case atStart => exact ⟨0, Nat.zero_le _, rfl, Lib.hid fun j hj => by omega⟩
  case round =>
    obtain ⟨k, hk, rfl, HT⟩ := hrel
    by_cases hlt : k < len
    · obtain ⟨b, rfl, ltb, hc⟩ := HA.out.some (by omega)
      obtain ⟨d0, d1⟩ := hc k hlt
      have j1 : (0 : Int) ≤ (k : Int) := by omega
      have j2 : (k : Int) < (len : Int) := by omega
      have HX := Lib.hid (fun q => notItems (L := L) (k := k) (by rw [← HN.out]; exact hlt) q)
      have HM := Lib.hid (fun q => HT.out.more (k := k) q)
      clear hc ltb HT
      generalize L.getD k (0, 0) = c at *
      obtain ⟨x, y⟩ := c
      simp only at d0 d1
      by_cases h0 : -10000 ≤ x ∧ x ≤ 10000
      rotate_left
      · have HV := Lib.hid (HX.out fun q => h0 q.1)
        go_wp2_with fail
        refine (l1In_no x (-10000) 10000 _ (by omega)).mono ?_
        rintro e w' ⟨rfl, rfl⟩
        go_wp2
        go_ret
        exact ⟨ret_bool HV.out, rfl⟩
      by_cases h1 : 1 ≤ y ∧ y ≤ 100
      rotate_left
      · have HV := Lib.hid (HX.out fun q => h1 q.2)
        go_wp2_with fail
        refine (l1In_yes x (-10000) 10000 _ h0.1 h0.2).mono ?_
        rintro e w' ⟨rfl, rfl⟩
        go_wp2_with fail
        refine (l1In_no y 1 100 _ (by omega)).mono ?_
        rintro e w' ⟨rfl, rfl⟩
        go_wp2
        go_ret
        exact ⟨ret_bool HV.out, rfl⟩
      have HT := Lib.hid (HM.out ⟨h0, h1⟩)
      go_wp2_with fail
      refine (l1In_yes x (-10000) 10000 _ h0.1 h0.2).mono ?_
      rintro e w' ⟨rfl, rfl⟩
      go_wp2_with fail
      refine (l1In_yes y 1 100 _ h1.1 h1.2).mono ?_
      rintro e w' ⟨rfl, rfl⟩
      clear HX HM h0 h1
      go_wp2
      go_round
      case rel => exact ⟨k + 1, by omega, by congr 1, HT⟩
      case measure => simp [intOf]; omega
    · obtain rfl : k = len := by omega
      have HV := Lib.hid (show decide ((k : Int) ≤ 8) = decide (okItems L) by
        rw [← yesItems (by rw [← HN.out]; exact HT.out), HN.out]
        rw [Bool.eq_iff_iff]; simp; omega)
      clear HT
      go_wp2
      go_ret
      exact ⟨ret_bool HV.out, rfl⟩
set_option maxHeartbeats 2000000 in
theorem specPickPlan (a : Option Addr) (len cap : Nat) (L : List (Int × Int)) (s lo hi : Int) (w : World) (h : Itm.PtsAt w a len L) (hl : len ≤ 9223372036854775807) :
    Calls Try.prog 22 #[.slice a len cap, .int .i64 s, .int .i64 lo, .int .i64 hi] w (Nums (planV13 L s lo hi) w) := by
  obtain ⟨i0, hi0, hz0, hz1, hz2⟩ := info_parts infoInt
  have HN := Lib.hid h.1
  have B1 := below_box w (.cells #[] 3)
  have HB := Lib.hid B1
  have HA := Lib.hid (h.next B1)
  have HO := Lib.hid (nums_new w 3 rfl)
  have HIV := Lib.hid (fun u (q : Below w.heap.size w u) => specItemsValid a len cap L u (h.next q) hl)
  have HCV := Lib.hid (fun u => l13Ok s lo hi u)
  have H0N := Lib.hid (fun u (q : Below w.heap.size w u) => h.next q)
  clear h B1
  by_cases hI : okItems L
  rotate_left
  · rw [decide_eq_false hI] at HIV
    have HE := Lib.hid (show planV13 L s lo hi = [] from if_neg (fun q => hI q.1))
    clear hI
    generalize planV13 L s lo hi = zs at *
    go_enter Try.func22, Try.ntmps22
    go_wp2_with fail
    refine (HIV.out _ HB.out).mono ?_
    rintro e w' ⟨rfl, rfl⟩
    go_wp2
    go_ret
    obtain rfl := HE.out
    exact ⟨⟨_, 0, 0⟩, rfl, rfl, HO.out, HB.out⟩
  rw [decide_eq_true hI] at HIV
  by_cases hC : okConv s lo hi
  rotate_left
  · rw [decide_eq_false hC] at HCV
    have HE := Lib.hid (show planV13 L s lo hi = [] from if_neg (fun q => hC q.2))
    clear hC hI
    generalize planV13 L s lo hi = zs at *
    go_enter Try.func22, Try.ntmps22
    go_wp2_with fail
    refine (HIV.out _ HB.out).mono ?_
    rintro e w' ⟨rfl, rfl⟩
    go_wp2_with fail
    refine (HCV.out _).mono ?_
    rintro e w' ⟨rfl, rfl⟩
    go_wp2
    go_ret
    obtain rfl := HE.out
    exact ⟨⟨_, 0, 0⟩, rfl, rfl, HO.out, HB.out⟩
  rw [decide_eq_true hC] at HCV
  have HE := Lib.hid (show planV13 L s lo hi = planR s lo hi L 0 from if_pos ⟨hI, hC⟩)
  have HL := Lib.hid (show (planR s lo hi L 0).length = len by rw [planR_len, HN.out])
  have HOK := Lib.hid (fun k (q : k < len) => okAt hI (k := k) (by rw [← HN.out]; exact q))
  have HRG := Lib.hid (fun k (q : k ≤ len) => rdyR_range (s := s) (lo := lo) (hi := hi) hI k (by rw [← HN.out]; exact q))
  have HTK := Lib.hid (fun k (q : k < len) => planR_take (s := s) (lo := lo) (hi := hi) (L := L) (k := k) (by rw [← HN.out]; exact q))
  have HNX := Lib.hid (fun k (q : k < len) => rdyR_next s lo hi L k 0 (by rw [← HN.out]; exact q))
  have h8 : len ≤ 8 := by rw [HN.out]; exact hI.1
  have HSC := Lib.hid hC.1
  clear hI hC
  go_enter Try.func22, Try.ntmps22
  go_wp2_with fail
  refine (HIV.out _ HB.out).mono ?_
  rintro e w' ⟨rfl, rfl⟩
  go_wp2_with fail
  refine (HCV.out _).mono ?_
  rintro e w' ⟨rfl, rfl⟩
  clear HIV HCV
  go_wp2
  go_loopw [9, 10, 11] (fun ov rv iv wr => ∃ k : Nat, k ≤ len ∧ rv = .int .i64 (rdyR s lo hi L k 0) ∧ iv = .int .i64 (k : Int) ∧ Hid (wr.ownsRow w.heap.size 3 1 ov k (vals ((planR s lo hi L 0).take k))) ∧ Hid (Below w.heap.size w wr) ∧ Hid (Itm.PtsAt wr a len L)) (fun _ _ iv _ => len - (intOf iv).toNat)
  case atStart => exact ⟨0, Nat.zero_le _, by cases L <;> rfl, rfl, HO, HB, HA⟩
  case round =>
    obtain ⟨k, hk, rfl, rfl, HOR, HW, HP⟩ := hrel
    clear HO HB HA
    by_cases hlt : k < len
    · obtain ⟨b, rfl, ltb, hc⟩ := HP.out.some (by omega)
      obtain ⟨d0, d1⟩ := hc k hlt
      have j1 : (0 : Int) ≤ (k : Int) := by omega
      have j2 : (k : Int) < (len : Int) := by omega
      obtain ⟨y1, y2⟩ := HOK.out k hlt
      have HT := Lib.hid (HTK.out k hlt)
      have HX := Lib.hid (HNX.out k hlt)
      obtain ⟨r0, r1⟩ := HRG.out k hk
      generalize rdyR s lo hi L k 0 = rk at *
      generalize L.getD k (0, 0) = c at *
      obtain ⟨x, y⟩ := c
      simp only at d0 d1 y1 y2
      have HC1 := Lib.hid (l13Pick x s lo hi rk wr y1 HSC.out ⟨r0, r1⟩)
      have hv := pick_spec (p := x) (s := s) (lo := lo) (hi := hi) r0
      have v0 : -1 ≤ pickV x s lo hi rk := by rcases hv with ⟨e, _⟩ | ⟨k1, _⟩ <;> omega
      have v1 : pickV x s lo hi rk ≤ 2000 := by rcases hv with ⟨e, _⟩ | ⟨_, k2, _⟩ <;> omega
      simp only at HT HX
      generalize pickV x s lo hi rk = v at *
      have BX := below_box wr (.cells #[.int .i64 v] 3)
      have HW2 := Lib.hid (below_call HW.out BX)
      have HP2 := Lib.hid (HP.out.next BX)
      have HOR2 := Lib.hid (HOR.out.alloc (.cells #[.int .i64 v] 3))
      have own0 := Lib.hid (World.ownsRow.lt HOR.out)
      have HN1 := Lib.hid (cell_one_new wr (.int .i64 v) 3)
      have HSZ := Lib.hid HW2.out.size
      clear BX hc ltb hv HTK HNX HOK HRG
      go_wp2_with fail
      refine HC1.out.mono ?_
      rintro e w' ⟨rfl, rfl⟩
      clear HC1
      by_cases hp : 0 ≤ v
      · have ow : IntKind.i64.wrap (v + y) = v + y := wrap_in (by omega) (by omega)
        rw [if_pos hp] at HX
        go_wp2_with (at_builtin; refine wpList_append_lies _ rfl (.tmp 50) (.tmp 52) 35 rfl w.heap.size 3 i0 (.int .i64 0) 1 8 Try.underlying35 hi0 hz0 hz1 hz2 rfl (by decide) _ k (vals ((planR s lo hi L 0).take k)) rfl HOR2.out ⟨wr.heap.size, 0, none⟩ 1 1 [.int .i64 v] rfl rfl HN1.out (by intro u hu; simp at hu; subst hu; rfl) (by omega) (by unfold maxLen; omega) (by omega) HSZ.out _ rfl ?_; intro g cap3 w3 own3 grow3 at3 ltg; have HA3 := Lib.hid (And.intro own3 grow3); clear own3 grow3 at3 ltg)
        have HW3 := Lib.hid (HW2.out.grown HA3.out.2 HW2.out.size (fun q hq => (own0.out q hq).1))
        have HO3 := HA3.out.1
        rw [← HT.out] at HO3
        replace HO3 := Lib.hid HO3
        have HP3 := Lib.hid (H0N.out _ HW3.out)
        clear HA3 HW2 HP2 HOR2
        go_roundw
        case rel => exact ⟨k + 1, by omega, by rw [HX.out], by congr 1, HO3, HW3, HP3⟩
        case measure => simp [intOf]; omega
      · rw [if_neg hp] at HX
        go_wp2_with (at_builtin; refine wpList_append_lies _ rfl (.tmp 50) (.tmp 52) 35 rfl w.heap.size 3 i0 (.int .i64 0) 1 8 Try.underlying35 hi0 hz0 hz1 hz2 rfl (by decide) _ k (vals ((planR s lo hi L 0).take k)) rfl HOR2.out ⟨wr.heap.size, 0, none⟩ 1 1 [.int .i64 v] rfl rfl HN1.out (by intro u hu; simp at hu; subst hu; rfl) (by omega) (by unfold maxLen; omega) (by omega) HSZ.out _ rfl ?_; intro g cap3 w3 own3 grow3 at3 ltg; have HA3 := Lib.hid (And.intro own3 grow3); clear own3 grow3 at3 ltg)
        have HW3 := Lib.hid (HW2.out.grown HA3.out.2 HW2.out.size (fun q hq => (own0.out q hq).1))
        have HO3 := HA3.out.1
        rw [← HT.out] at HO3
        replace HO3 := Lib.hid HO3
        have HP3 := Lib.hid (H0N.out _ HW3.out)
        clear HA3 HW2 HP2 HOR2
        go_roundw
        case rel => exact ⟨k + 1, by omega, by rw [HX.out], by congr 1, HO3, HW3, HP3⟩
        case measure => simp [intOf]; omega
    · obtain rfl : k = len := by omega
      have HF := HOR.out
      rw [List.take_of_length_le (by rw [HL.out]; exact Nat.le_refl _)] at HF
      have HF2 : OwnI wr w.heap.size u9 (planR s lo hi L 0) := by unfold OwnI; rw [HL.out]; exact HF
      obtain ⟨⟨oa, ol, oc⟩, rfl, hol⟩ := HF2.sl13
      replace HF2 := Lib.hid HF2
      replace hol := Lib.hid hol
      clear HF
      go_wp2
      go_ret
      rw [HE.out]
      exact ⟨⟨oa, ol, oc⟩, rfl, hol.out, HF2.out, HW.out⟩
end Go.Proofs.Ytddndafddleelaa
