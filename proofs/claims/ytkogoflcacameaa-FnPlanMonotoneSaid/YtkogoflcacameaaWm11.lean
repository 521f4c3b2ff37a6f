/- The walk of the law on open tables. -/
import Derived.Test.YtkogoflcacameaaWp11
namespace Go.Proofs.Ytkogoflcacameaa
set_option maxRecDepth 100000
open Go.RowKit
attribute [local go_sem ↓] Go.wp_at_zero Go.wp_at_succ
/-- A table that a law makes: its rows lie in blocks of their own. -/
structure TbO (B : Nat) (u : World) (v : Value) (ss : List Sl) (T : List (List Bool)) : Prop where
  n : ss.length = T.length
  row : u.ownsRow B 46 1 v T.length (ss.map Bol.slQ)
  each : ∀ i, i < T.length → Bol.OwnB u B (Bol.slQ (ss.getD i dS)) (T.getD i [])
  off : ∀ i, i < T.length → ∀ g, ob (ss.getD i dS) = some g → v.ownBlock ≠ some g
section
variable {B : Nat} {u u' : World} {v : Value} {ss : List Sl} {T : List (List Bool)}
theorem TbO.vlt (h : TbO B u v ss T) : ∀ k, v.ownBlock = some k → B ≤ k ∧ k < u.heap.size := fun k hk => World.ownsRow.lt h.row k hk
theorem TbO.rlt (h : TbO B u v ss T) : ∀ i, i < T.length → ∀ k, ob (ss.getD i dS) = some k → B ≤ k ∧ k < u.heap.size := fun i hi k hk => World.ownsRow.lt (h.each i hi) k hk
theorem TbO.away {o : Option Nat} (h : TbO B u v ss T) (hg : u.grownBy u' o) (hv : ∀ k, o = some k → v.ownBlock ≠ some k) (hs : ∀ i, i < T.length → ∀ k, o = some k → ob (ss.getD i dS) ≠ some k) : TbO B u' v ss T :=
  ⟨h.n, World.ownsRow.kept h.row hg (by
    cases ho : v.ownBlock with
    | none => exact .inl rfl
    | some g => exact .inr (fun e => hv g e.symm ho)), fun i hi => Bol.OwnB.away (h.each i hi) hg (hs i hi), h.off⟩
theorem TbO.alloc (h : TbO B u v ss T) (o : Obj) : TbO B (u.alloc o) v ss T :=
  h.away (below_grown (below_box u o)) (fun k e => by cases e) (fun i hi k e => by cases e)
theorem TbO.new (hb : B ≤ u.heap.size) (t : TypeId) (hT : t = 46) : TbO B (u.alloc (.cells #[] t)) (.slice (some ⟨u.heap.size, 0, none⟩) 0 0) [] [] := by
  subst hT
  refine ⟨rfl, ?_, fun i hi => by simp at hi, fun i hi => by simp at hi⟩
  have := World.ownsRow_lit (base := B) (e := 46) (size := 1) u #[] 0 hb (Nat.zero_le _) rfl
  simpa using this
theorem TbO.app {g n cap H : Nat} {s : Sl} {zs : List Bool} (h : TbO B u v ss T) (hq : Bol.OwnB u H (Bol.slQ s) zs) (hH : B ≤ H) (hv : ∀ k, v.ownBlock = some k → k < H)
    (own : u'.ownsRow B 46 1 (.slice (some ⟨g, 0, none⟩) n cap) (T.length + 1) (ss.map Bol.slQ ++ [Bol.slQ s])) (grow : u.grownBy u' v.ownBlock) (hat : v.ownBlock = some g ∨ g = u.heap.size) :
    TbO B u' (.slice (some ⟨g, 0, none⟩) n cap) (ss ++ [s]) (T ++ [zs]) := by
  have hsH : ∀ k, ob s = some k → H ≤ k ∧ k < u.heap.size := fun k hk => World.ownsRow.lt hq k hk
  refine ⟨by simp [h.n], ?_, fun i hi => ?_, fun i hi k hk => ?_⟩
  · rw [List.length_append, List.map_append]; exact own
  · rw [List.length_append] at hi
    simp only [List.length_cons, List.length_nil] at hi
    by_cases hk : i < T.length
    · rw [getD_left _ _ _ (by rw [h.n]; exact hk), getD_left _ _ _ hk]
      exact Bol.OwnB.away (h.each i hk) grow (fun k e q => h.off i hk k q e)
    · obtain rfl : i = T.length := by omega
      rw [getD_last]
      rw [show (ss ++ [s]).getD T.length dS = s by rw [← h.n]; exact getD_last _ _ _]
      exact Bol.OwnB.away (Bol.OwnB.downI hq hH) grow (fun k e q => by have := hv k e; have := hsH k q; omega)
  · rw [List.length_append] at hi
    simp only [List.length_cons, List.length_nil] at hi
    intro e
    have e : g = k := by simpa [Value.ownBlock] using e
    subst e
    by_cases hk2 : i < T.length
    · rw [getD_left _ _ _ (by rw [h.n]; exact hk2)] at hk
      rcases hat with q | q
      · exact h.off i hk2 g hk q
      · have := h.rlt i hk2 g hk; omega
    · obtain rfl : i = T.length := by omega
      rw [show (ss ++ [s]).getD T.length dS = s by rw [← h.n]; exact getD_last _ _ _] at hk
      have := hsH g hk
      rcases hat with q | q
      · have := hv g q; omega
      · omega
theorem TbO.rsa (h : TbO B u v ss T) (hr : ∀ i, i < T.length → (T.getD i []).length ≤ 1048576) : ∃ s : Sl, v = .slice s.a s.len s.cap ∧ s.len = T.length ∧ Bol.RSA u s.a s.len T := by
  rcases h.row.2 with ⟨hv, hn⟩ | ⟨g, c, cur, hv, hb, hg, rest⟩
  · exact ⟨dS, hv, hn.symm, hn.symm, .inl (List.eq_nil_of_length_eq_zero hn)⟩
  · refine ⟨⟨some ⟨g, 0, none⟩, T.length, c⟩, hv, rfl, rfl, .inr ⟨g, rfl, (Array.getElem?_eq_some_iff.1 hg).1, fun i hi => ⟨ss.getD i dS, ?_, Bol.OwnB.ints10 (h.each i hi), ?_⟩⟩⟩
    · have row := h.row
      rw [hv] at row
      rw [World.ownsRow.cellAt row i (by omega), List.getElem?_map, List.getD_eq_getElem?_getD, List.getElem?_eq_getElem (by rw [h.n]; exact hi)]
      rfl
    · rw [(Bol.OwnB.ints10 (h.each i hi)).1]; have := hr i hi; omega
end
/-- The first k rows of the open table. -/
def OpT (T T' : List (List Bool)) (k : Nat) : Prop := T'.length = k ∧ k ≤ T.length ∧ ∀ i, i < k → T'.getD i [] = List.replicate (T.getD i []).length true
theorem OpT.more {T T' : List (List Bool)} {k : Nat} (h : OpT T T' k) (hk : k < T.length) : OpT T (T' ++ [List.replicate (T.getD k []).length true]) (k + 1) := by
  obtain ⟨h1, h2, h3⟩ := h
  refine ⟨by simp [h1], by omega, fun i hi => ?_⟩
  by_cases e : i < T'.length
  · rw [getD_left _ _ _ e]; exact h3 i (by omega)
  · obtain rfl : i = T'.length := by omega
    rw [getD_last, h1]
theorem OpT.all {T T' : List (List Bool)} (h : OpT T T' T.length) : T' = openV T := by
  obtain ⟨h1, _, h3⟩ := h
  apply List.ext_getElem?
  intro i
  by_cases hi : i < T.length
  · have e1 := h3 i hi
    have e2 := openV_row T hi
    unfold rowB at e2
    rw [List.getD_eq_getElem?_getD, List.getElem?_eq_getElem (by omega)] at e1
    rw [List.getD_eq_getElem?_getD, List.getElem?_eq_getElem (by rw [openV_len]; exact hi)] at e2
    rw [List.getElem?_eq_getElem (by omega), List.getElem?_eq_getElem (by rw [openV_len]; exact hi)]
    exact congrArg some (by simpa using e1.trans e2.symm)
  · rw [List.getElem?_eq_none (by omega), List.getElem?_eq_none (by rw [openV_len]; omega)]
/-- What the loop over the rows holds. -/
def LoopO (w0 : World) (T : List (List Bool)) (k : Nat) (v : Value) (wr : World) : Prop := ∃ ss T', OpT T T' k ∧ TbO w0.heap.size wr v ss T' ∧ Below w0.heap.size w0 wr
/-- What the loop over a row's cells holds. -/
def LoopP (w0 : World) (H j : Nat) (ss : List Sl) (T' : List (List Bool)) (v rv : Value) (wr : World) : Prop := TbO w0.heap.size wr v ss T' ∧ Below w0.heap.size w0 wr ∧ Bol.OwnB wr H rv (List.replicate j true) ∧ H ≤ wr.heap.size
set_option maxHeartbeats 8000000 in
theorem walkFnPlanMonotone (w : World) (a : Option Addr) (len cap : Nat) (zs : List Int) (h : Bytes w a len cap zs) :
    Calls Try.prog 6 #[.slice a len cap] w fun e w' => e = .returned (.bool true) ∧ Below w.heap.size w w' := by
  obtain ⟨i0, hi0, hz0, hz1, hz2⟩ := info_parts Bol.infoBool
  obtain ⟨j0, hj0, hy0, hy1, hy2⟩ := info_parts Bol.infoSlB
  have hle := h.len_le
  obtain ⟨hl, hm⟩ := hle
  unfold maxLen at hm
  by_cases hbig : 1048576 < len
  · go_enter Try.func6, Try.ntmps6
    go_wp2
    go_ret
    exact ⟨rfl, Below.refl _ _⟩
  · go_enter Try.func6, Try.ntmps6
    go_wp2_with fail
    refine (drawPlanPath w a len cap zs h).mono ?_
    rintro e w1 ⟨⟨ta, tl, tc⟩, T, ⟨ax, ay⟩, ⟨bx, b_y⟩, rfl, hF, hT, ha, hb, hB⟩
    have hR := hF.rsa (fun i hi => by have := hT.2 i hi; omega)
    have htl : tl = T.length := hF.1
    have hT6 : T.length ≤ 6 := hT.1.2
    simp only at hR ha hb
    obtain ⟨P, Q⟩ := at2 w1 ax ay bx b_y 33
    have B2 := below_box2 w1 (.cells #[.int .i64 ax, .int .i64 ay] 33) (.cells #[.int .i64 bx, .int .i64 b_y] 33)
    have HR := Lib.hid (hR.next B2)
    have HB := Lib.hid (below_call hB B2)
    obtain ⟨V, hV⟩ : ∃ V, w1.heap.size = V := ⟨_, rfl⟩
    rw [hV] at P Q
    have HTL := Lib.hid htl
    have HBD := Lib.hid (And.intro ha hb)
    have HWW := Lib.hid (show ∀ i, i < T.length → (T.getD i []).length ≤ 7 from fun i hi => (hT.2 i hi).2)
    have htl6 : tl ≤ 6 := by omega
    clear hB B2 hR hF hT h htl ha hb
    go_upto_region 4 with fail
    clear hV
    generalize (w1.alloc (.cells #[.int .i64 ax, .int .i64 ay] 33)).alloc (.cells #[.int .i64 bx, .int .i64 b_y] 33) = w2 at *
    have HLEN := Lib.hid (plan_len11 T (ax, ay) (bx, b_y))
    obtain ⟨_, c0, c1⟩ := id P
    obtain ⟨_, c2, c3⟩ := id Q
    go_wp2_with fail
    refine (implPlanPath ta tl tc T (ax, ay) (bx, b_y) _ HR.out (by omega)).mono ?_
    rintro e w3 ⟨⟨pa, pl, pc⟩, rfl, hp, O3, B3⟩
    simp only at hp
    have P3 := P.next B3
    have Q3 := Q.next B3
    have HR3 := Lib.hid (HR.out.next B3)
    have HP := Lib.hid hp
    have HB3 := Lib.hid (below_call HB.out B3)
    clear c0 c1 c2 c3 P Q B3 O3 HR HB hp
    obtain ⟨_, c0, c1⟩ := id P3
    obtain ⟨_, c2, c3⟩ := id Q3
    go_wp2_with fail
    refine (specPlanPath ta tl tc T (ax, ay) (bx, b_y) _ HR3.out (by omega)).mono ?_
    rintro e w4 ⟨⟨va, vl, vc⟩, rfl, hv, O4, B4⟩
    simp only at hv
    obtain rfl : vl = pl := by rw [HP.out, hv]
    have P4 := P3.next B4
    have Q4 := Q3.next B4
    have HR4 := Lib.hid (HR3.out.next B4)
    have HB4 := Lib.hid (below_call HB3.out B4)
    have e0 : ((vl : Int) != (vl : Int)) = false := by simp
    clear c0 c1 c2 c3 P3 Q3 B4 O4 HR3 HB3 hv
    by_cases hz0 : vl = 0
    · subst hz0
      go_wp2_with fail
      refine (alive _).mono ?_
      rintro e w' ⟨rfl, rfl⟩
      go_wp2
      go_ret
      exact ⟨rfl, HB4.out⟩
    have hne : planV T (ax, ay) (bx, b_y) ≠ [] := fun q => by have := HP.out; rw [q] at this; exact hz0 this
    have HFAR := Lib.hid (plan_far hne)
    have HOPEN := Lib.hid (plan_open hne)
    have q1 : ((vl : Int) == 0) = false := by simp; omega
    have hvl : vl ≤ 400 := by have := HP.out; have := HLEN.out; omega
    have HL0 : Hid (LoopO w4 T 0 (.slice (some ⟨w4.heap.size, 0, none⟩) 0 0) (w4.alloc (.cells #[] 46))) := Lib.hid ⟨[], [], ⟨rfl, Nat.zero_le _, fun i hi => by omega⟩, TbO.new (Nat.le_refl _) 46 rfl, below_box w4 _⟩
    clear hne hz0
    go_wp2_with fail
    clear q1 e0
    go_loopw [7, 8] (fun v i wr => ∃ k : Nat, k ≤ tl ∧ i = .int .i64 (k : Int) ∧ Hid (LoopO w4 T k v wr)) (fun _ i _ => tl - (intOf i).toNat)
    case atStart => exact ⟨0, Nat.zero_le _, rfl, HL0⟩
    case round =>
      obtain ⟨k, hk, rfl, HS⟩ := hrel
      clear HL0
      obtain ⟨ss, T', hO, S, hBw⟩ := HS.out
      have HOT := Lib.hid hO
      have hT6' : T'.length ≤ 6 := by have := hO.1; omega
      clear hO
      by_cases hlt : k < tl
      · have hlt1 : (k : Int) < (tl : Int) := by omega
        have hk0 : (0 : Int) ≤ (k : Int) := by omega
        obtain ⟨bt, rfl, ltt, ct⟩ := HR4.out.some (show 1 ≤ tl by omega)
        obtain ⟨⟨za, zl, zc⟩, k1, k2, _⟩ := ct k hlt
        have hzl : zl = (T.getD k []).length := k2.1
        unfold Bol.slQ at k1
        simp only at k1
        have hz7 : zl ≤ 7 := by rw [hzl]; exact HWW.out k (by have := HTL.out; omega)
        have HZL := Lib.hid hzl
        obtain ⟨H, hH⟩ : ∃ H, H = wr.heap.size := ⟨_, rfl⟩
        have hBH : w4.heap.size ≤ H := hH ▸ hBw.size
        have HU : Hid (LoopP w4 H 0 ss T' u7 (.slice (some ⟨wr.heap.size, 0, none⟩) 0 0) (wr.alloc (.cells #[] 4))) := Lib.hid ⟨S.alloc _, below_call hBw (below_box wr _), newB wr H (by omega) 4 rfl, by simp; omega⟩
        have HVL := Lib.hid (And.intro (fun k hk => show k < H from hH ▸ (S.vlt k hk).2) (fun i hi k hk => show k < H from hH ▸ (S.rlt i hi k hk).2))
        clear S HS hH hBw ct k2 hzl
        go_wp2
        go_loopw [9, 10] (fun rv j wq => ∃ jj : Nat, jj ≤ zl ∧ j = .int .i64 (jj : Int) ∧ Hid (LoopP w4 H jj ss T' u7 rv wq)) (fun _ j _ => zl - (intOf j).toNat)
        case atStart => exact ⟨0, Nat.zero_le _, rfl, HU⟩
        case round =>
          obtain ⟨jj, hjj, rfl, HQ⟩ := hrel
          clear HU
          obtain ⟨S, hBw, O, hge⟩ := HQ.out
          have d1 : wr.cell? ⟨bt, k, none⟩ = _ := (hBw.cell (p := ⟨bt, k, none⟩) ltt).trans k1
          have HBw := Lib.hid hBw
          by_cases hlt2 : jj < zl
          · have hj1 : (jj : Int) < (zl : Int) := by omega
            have S6 := Lib.hid (S.alloc (.cells #[.bool true] 4))
            have O6 := Lib.hid (O.next (below_box wr (.cells #[.bool true] 4)))
            have B6 := Lib.hid (below_call hBw (below_box wr (.cells #[.bool true] 4)))
            have HN := Lib.hid (one_new11 wr (.bool true) 4)
            have HZ := Lib.hid (show H ≤ (wr.alloc (.cells #[.bool true] 4)).heap.size by simp; omega)
            have hzz : (List.replicate jj true).length = jj := List.length_replicate
            have HZZ := Lib.hid hzz
            clear S O HQ hBw hge hzz
            obtain ⟨zs, hzs⟩ : ∃ zs : List Bool, List.replicate jj true = zs := ⟨_, rfl⟩
            rw [hzs] at O6 HZZ
            have HZS := Lib.hid hzs
            have hz8 : zs.length ≤ 7 := by have := HZZ.out; omega
            clear hzs
            go_wp2_with (at_builtin; refine wpList_append_lies _ rfl (.tmp 54) (.tmp 55) 46 rfl H 4 i0 (.bool false) 1 1 Try.underlying46 hi0 hz0 hz1 hz2 rfl (by decide) _ zs.length (Bol.vals zs) rfl O6.out ⟨wr.heap.size, 0, none⟩ 1 1 [.bool true] rfl rfl HN.out (by intro u hu; simp at hu; subst hu; rfl) (by omega) (by unfold maxLen; omega) (by omega) HZ.out _ rfl ?_; intro g cap6 w7 own7 grow7 at7 ltg7; have HA7 := Lib.hid (And.intro own7 (And.intro grow7 at7)); clear own7 grow7 at7 ltg7)
            have S7 := Lib.hid (S6.out.away HA7.out.2.1 (fun k5 e5 q5 => by have := World.ownsRow.lt O6.out k5 e5; have := HVL.out.1 k5 q5; omega) (fun i hi k5 e5 q5 => by have := World.ownsRow.lt O6.out k5 e5; have := HVL.out.2 i hi k5 q5; omega))
            have O7 : Hid (Bol.OwnB w7 H (.slice (some ⟨g, 0, none⟩) (zs.length + 1) cap6) (List.replicate (jj + 1) true)) := Lib.hid (by
              rw [List.replicate_succ', HZS.out]
              unfold Bol.OwnB
              rw [vals_snocB, List.length_append]
              exact HA7.out.1)
            have B7 := Lib.hid (B6.out.grown HA7.out.2.1 B6.out.size (fun k5 e5 => by have := World.ownsRow.lt O6.out k5 e5; omega))
            have HZ7 := Lib.hid (Nat.le_trans HZ.out HA7.out.2.1.size)
            clear HA7 S6 O6 B6
            go_roundw
            case rel => exact ⟨jj + 1, by omega, by congr 1, Lib.hid ⟨S7.out, B7.out, O7.out, HZ7.out⟩⟩
            case measure => simp [intOf]; omega
          · obtain rfl : jj = zl := by omega
            obtain ⟨s, hse, hsl⟩ := Bol.OwnB.sl10 O
            subst hse
            clear hsl
            have S6 := Lib.hid (S.alloc (.cells #[Bol.slQ s] 46))
            have O6 := Lib.hid (O.next (below_box wr (.cells #[Bol.slQ s] 46)))
            have B6 := Lib.hid (below_call hBw (below_box wr (.cells #[Bol.slQ s] 46)))
            have HN := Lib.hid (one_new11 wr (Bol.slQ s) 46)
            have HOM := Lib.hid (HOT.out.more (show k < T.length by have := HTL.out; omega))
            have hZ : w4.heap.size ≤ (wr.alloc (.cells #[Bol.slQ s] 46)).heap.size := B6.out.size
            have HZ := Lib.hid hZ
            clear S O HQ hBw hge hZ
            unfold Bol.slQ at HN S6 B6 HZ
            go_wp2_with (at_builtin; refine wpList_append_lies _ rfl (.tmp 57) (.tmp 59) 39 rfl w4.heap.size 46 j0 (.slice none 0 0) 1 24 Try.underlying39 hj0 hy0 hy1 hy2 rfl (by decide) _ T'.length (ss.map Bol.slQ) rfl S6.out.row ⟨wr.heap.size, 0, none⟩ 1 1 [.slice s.a s.len s.cap] rfl rfl HN.out (by intro u hu; simp at hu; subst hu; rfl) (by omega) (by unfold maxLen; omega) (by omega) HZ.out _ rfl ?_; intro g cap6 w7 own7 grow7 at7 ltg7; have HA7 := Lib.hid (And.intro own7 (And.intro grow7 at7)); clear own7 grow7 at7 ltg7)
            have S7 := Lib.hid (S6.out.app O6.out hBH HVL.out.1 HA7.out.1 HA7.out.2.1 HA7.out.2.2)
            have B7 := Lib.hid (B6.out.grown HA7.out.2.1 B6.out.size (fun k5 e5 => (S6.out.vlt k5 e5).1))
            rw [← HZL.out] at HOM
            clear HA7 S6 O6 B6
            go_wp2
            go_roundw
            case rel => exact ⟨k + 1, by omega, by congr 1, Lib.hid ⟨_, _, HOM.out, S7.out, B7.out⟩⟩
            case measure => simp [intOf]; omega
      · obtain rfl : k = tl := by omega
        have hTT : T' = openV T := OpT.all (HTL.out ▸ HOT.out)
        obtain ⟨⟨oa, ol, oc⟩, hv, hol, hRO⟩ := S.rsa (fun i hi => by
          rw [hTT] at hi ⊢
          rw [openV_len] at hi
          have e := openV_row T hi
          unfold rowB at e
          rw [e, List.length_replicate]
          have := HWW.out i hi
          omega)
        rw [hTT] at hRO
        simp only at hv hol hRO
        subst hv
        have hol6 : ol ≤ 9223372036854775807 := by rw [hol]; omega
        have P5 := P4.next hBw
        have Q5 := Q4.next hBw
        have HB5 := Lib.hid (below_call HB4.out hBw)
        clear S HS hBw hol hTT HOT hT6' P4 Q4 HB4 HR4
        obtain ⟨_, c0, c1⟩ := id P5
        obtain ⟨_, c2, c3⟩ := id Q5
        go_wp2_with fail
        refine (implPlanPath oa ol oc (openV T) (ax, ay) (bx, b_y) _ hRO hol6).mono ?_
        rintro e w6 ⟨⟨na, nl, nc⟩, rfl, hn, O6, B6⟩
        simp only at hn
        have P6 := P5.next B6
        have Q6 := Q5.next B6
        have HB6 := Lib.hid (below_call HB5.out B6)
        have HNL := Lib.hid hn
        clear c0 c1 c2 c3 P5 Q5 hRO O6 B6 HB5 hn hol6
        go_upto_region 20 with fail
        obtain ⟨p0, p1⟩ := P6.kepts
        obtain ⟨p2, p3⟩ := Q6.kepts
        have hbd := HBD.out
        unfold SmC2 at hbd
        simp only at hbd
        have s1 : IntKind.i64.wrap (ax - bx) = ax - bx := IntWalk.i64_in _ (by omega)
        have s2 : IntKind.i64.wrap (ay - b_y) = ay - b_y := IntWalk.i64_in _ (by omega)
        obtain ⟨u1, hu1⟩ : ∃ u : Int, ((ax - bx).natAbs : Int) = u := ⟨_, rfl⟩
        obtain ⟨u2, hu2⟩ : ∃ u : Int, ((ay - b_y).natAbs : Int) = u := ⟨_, rfl⟩
        have HA1 := Lib.hid (fun (z : Kept w6) => keptSame (hu1 ▸ abs11 (ax - bx) z.u (by omega) (by omega)))
        have HA2 := Lib.hid (fun (z : Kept w6) => keptSame (hu2 ▸ abs11 (ay - b_y) z.u (by omega) (by omega)))
        have hgap := HFAR.out
        have hop := HOPEN.out
        unfold gap at hgap hop
        simp only at hgap hop
        have hu : 0 ≤ u1 ∧ u1 ≤ 100 ∧ 0 ≤ u2 ∧ u2 ≤ 100 ∧ (nl : Int) = u1 + u2 + 1 ∧ nl ≤ vl := by have := HP.out; have := HNL.out; omega
        have s3 : IntKind.i64.wrap (u1 + u2) = u1 + u2 := IntWalk.i64_in _ (by omega)
        have s4 : IntKind.i64.wrap (u1 + u2 + 1) = (nl : Int) := by rw [← hu.2.2.2.2.1]; exact IntWalk.i64_in _ (by omega)
        have g1 : ((nl : Int) == (nl : Int)) = true := by simp
        have q3 : (nl : Int) ≤ (vl : Int) := by omega
        clear hbd hu1 hu2 hgap hop HFAR HOPEN P6 Q6 HTL HBD hu HNL HP HLEN
        refine wp_region_kept (by kernel_rfl) (by kernel_rfl) ?_
        repeat (go_big_quiet_step ((first | (go_at_call_of 22 (Value.int IntKind.i64 (ax - bx)); with_reducible exact HA1.out _) | (go_at_call_of 22 (Value.int IntKind.i64 (ay - b_y)); with_reducible exact HA2.out _))))
        refine wpQuiet_nil ?_
        rintro w11 ⟨⟨_, K11⟩, rfl⟩
        have HZ := Lib.hid (below_call HB6.out K11)
        go_wp2
        go_ret
        exact ⟨rfl, HZ.out⟩
end Go.Proofs.Ytkogoflcacameaa
