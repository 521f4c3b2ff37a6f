/- The document's l7Point, CurvePoint and CurvePoints. -/
import Derived.Test.YtlbheofomjakmaaSv7
namespace Go.Proofs.Ytlbheofomjakmaa
set_option maxRecDepth 100000
open Go.RowKit
attribute [local go_sem ↓] Go.wp_at_zero Go.wp_at_succ
theorem OwnP.row7 {w w' : World} {b : Nat} {x y : Int} {row : Option Nat} (h : OwnP w b x y) (hg : w.grownBy w' row) (hne : some b ≠ row) : OwnP w' b x y :=
  have e := hg.block b h.lt hne
  ⟨h.toAtP.row6 hg hne, (World.frozen?_of_block (a := ⟨b, 0, none⟩) e).trans h.z0, (World.frozen?_of_block (a := ⟨b, 1, none⟩) e).trans h.z1⟩
theorem OwnP.alloc7 {w : World} {b : Nat} {x y : Int} (h : OwnP w b x y) (o : Obj) : OwnP (w.alloc o) b x y := h.next (below_box w o)
/-- What l7Point holds: its two rows, its result, and all that lay before. -/
structure XY (w u : World) (vx vy : Value) (xs ys : List Int) : Prop where
  ox : OwnI u (w.heap.size + 1) vx xs
  oy : OwnI u (w.heap.size + 1) vy ys
  xy : Apart vx vy
  res : OwnP u w.heap.size 0 0
  bel : Below w.heap.size w u
theorem XY.next {w u u' : World} {vx vy : Value} {xs ys : List Int} (h : XY w u vx vy xs ys) (hb : Below u.heap.size u u') : XY w u' vx vy xs ys :=
  ⟨h.ox.next hb, h.oy.next hb, h.xy, h.res.next hb, below_call h.bel hb⟩
theorem XY.appX {w u w3 : World} {vx vy : Value} {xs ys xs' : List Int} {g n cap : Nat} (h : XY w u vx vy xs ys) (a : App u w3 (w.heap.size + 1) vx xs' g n cap) : XY w w3 (.slice (some ⟨g, 0, none⟩) n cap) vy xs' ys :=
  ⟨a.owns.2, h.oy.row a.grow h.xy.symm.row, a.apart h.oy h.xy, h.res.row7 a.grow (fun e => by have := a.old h.ox _ e.symm; omega), h.bel.grown a.grow h.bel.size (fun q hq => by have := a.old h.ox q hq; omega)⟩
theorem XY.appY {w u w3 : World} {vx vy : Value} {xs ys ys' : List Int} {g n cap : Nat} (h : XY w u vx vy xs ys) (a : App u w3 (w.heap.size + 1) vy ys' g n cap) : XY w w3 vx (.slice (some ⟨g, 0, none⟩) n cap) xs ys' :=
  ⟨h.ox.row a.grow h.xy.row, a.owns.2, (a.apart h.ox h.xy.symm).symm, h.res.row7 a.grow (fun e => by have := a.old h.oy _ e.symm; omega), h.bel.grown a.grow h.bel.size (fun q hq => by have := a.old h.oy q hq; omega)⟩
theorem XY.base {w u : World} {vx vy : Value} {xs ys : List Int} (h : XY w u vx vy xs ys) : w.heap.size + 1 ≤ u.heap.size := by have := h.res.lt; omega
theorem xs_at (ps : List (Int × Int)) (k : Nat) (h : k < ps.length) : (ps.map Prod.fst)[k]? = some (pX ps k) ∧ (ps.map Prod.snd)[k]? = some (pY ps k) := by
  unfold pX pY
  rw [List.getElem?_map, List.getElem?_map, List.getElem?_eq_getElem h, List.getD_eq_getElem?_getD, List.getElem?_eq_getElem h]
  exact ⟨rfl, rfl⟩
theorem xs_getD (ps : List (Int × Int)) (k : Nat) : (ps.map Prod.fst).getD k 0 = pX ps k ∧ (ps.map Prod.snd).getD k 0 = pY ps k := by
  by_cases h : k < ps.length
  · rw [List.getD_eq_getElem?_getD, List.getD_eq_getElem?_getD, (xs_at ps k h).1, (xs_at ps k h).2]; exact ⟨rfl, rfl⟩
  · have e : ps.getD k (0, 0) = (0, 0) := by rw [List.getD_eq_getElem?_getD, List.getElem?_eq_none (by omega)]; rfl
    unfold pX pY
    rw [e]
    refine ⟨?_, ?_⟩
    · rw [List.getD_eq_getElem?_getD, List.getElem?_eq_none (by rw [List.length_map]; omega)]; rfl
    · rw [List.getD_eq_getElem?_getD, List.getElem?_eq_none (by rw [List.length_map]; omega)]; rfl
set_option maxHeartbeats 4000000 in
theorem l7Point (a : Option Addr) (len cap : Nat) (ps : List (Int × Int)) (t : Int) (w : World) (h : PtsAt w a len ps) (hk : okCurve ps) (t0 : 0 ≤ t) (t1 : t ≤ 64) :
    Calls Try.prog 45 #[.slice a len cap, .int .i64 t] w fun e w' => e = .returned (pt (curX ps t) (curY ps t)) ∧ Below w.heap.size w w' := by
  obtain ⟨i0, hi0, hz0, hz1, hz2⟩ := info_parts infoInt
  have hle := h.1
  have n1 := hk.1
  have n4 := hk.2.1
  rw [← hle] at n1 n4
  obtain ⟨b, rfl, lt, hc⟩ := h.somes n1
  have HC := Lib.hid hc
  have HBX := Lib.hid (fun l i => cas_bdX hk.2.2 t0 t1 l i)
  have HBY := Lib.hid (fun l i => cas_bdY hk.2.2 t0 t1 l i)
  have HZX := Lib.hid (show ∀ i, -10000 ≤ (ps.map Prod.fst).getD i 0 ∧ (ps.map Prod.fst).getD i 0 ≤ 10000 from fun i => by rw [(xs_getD ps i).1]; exact ⟨(okPts_any hk.2.2 i).1, (okPts_any hk.2.2 i).2.1⟩)
  have HZY := Lib.hid (show ∀ i, -10000 ≤ (ps.map Prod.snd).getD i 0 ∧ (ps.map Prod.snd).getD i 0 ≤ 10000 from fun i => by rw [(xs_getD ps i).2]; exact ⟨(okPts_any hk.2.2 i).2.2.1, (okPts_any hk.2.2 i).2.2.2⟩)
  have HFX := Lib.hid (show (fun i => (ps.map Prod.fst).getD i 0) = pX ps from funext fun i => (xs_getD ps i).1)
  have HFY := Lib.hid (show (fun i => (ps.map Prod.snd).getD i 0) = pY ps from funext fun i => (xs_getD ps i).2)
  have HTX := Lib.hid (fun k (hk : k < len) => take_next (ps.map Prod.fst) k _ (xs_at ps k (by omega)).1)
  have HTY := Lib.hid (fun k (hk : k < len) => take_next (ps.map Prod.snd) k _ (xs_at ps k (by omega)).2)
  have HLX := Lib.hid (show (ps.map Prod.fst).length = len ∧ (ps.map Prod.snd).length = len by simp; omega)
  have HE := Lib.hid (show rndS (cas t (pX ps) (len - 1) 0) (sc (len - 1)) = curX ps t ∧ rndS (cas t (pY ps) (len - 1) 0) (sc (len - 1)) = curY ps t by rw [hle]; exact ⟨rfl, rfl⟩)
  have S0 : XY w (((w.alloc (.cells #[.int .i64 0, .int .i64 0] 31)).alloc (.cells #[] 3)).alloc (.cells #[] 3)) (.slice (some ⟨w.heap.size + 1, 0, none⟩) 0 0) (.slice (some ⟨w.heap.size + 1 + 1, 0, none⟩) 0 0) [] [] := by
    have e1 : (w.alloc (.cells #[.int .i64 0, .int .i64 0] 31)).heap.size = w.heap.size + 1 := by simp
    have e2 : ((w.alloc (.cells #[.int .i64 0, .int .i64 0] 31)).alloc (.cells #[] 3)).heap.size = w.heap.size + 1 + 1 := by simp
    have o1 := ownI_empty7 (w.alloc (.cells #[.int .i64 0, .int .i64 0] 31)) (w.heap.size + 1) (by omega) 3 rfl
    have o2 := ownI_empty7 ((w.alloc (.cells #[.int .i64 0, .int .i64 0] 31)).alloc (.cells #[] 3)) (w.heap.size + 1) (by omega) 3 rfl
    rw [e1] at o1
    rw [e2] at o2
    exact ⟨o1.next (below_box _ _), o2, .inr (.inr (by simp [Value.ownBlock])), ((OwnP.box w 0 0 31).alloc7 _).alloc7 _, below_box3 _ _ _ _⟩
  clear h hk hc hle
  go_enter Try.func45, Try.ntmps45
  go_wp2
  generalize ((w.alloc (.cells #[.int .i64 0, .int .i64 0] 31)).alloc (.cells #[] 3)).alloc (.cells #[] 3) = u0 at *
  have W0 := Lib.hid S0.bel
  go_loopw [5, 6, 7, 8] (fun vx vy s iv wr => ∃ k : Nat, k ≤ len ∧ iv = .int .i64 (k : Int) ∧ s = .int .i64 (sc (k - 1)) ∧ Hid (XY w wr vx vy ((ps.map Prod.fst).take k) ((ps.map Prod.snd).take k))) (fun _ _ _ iv _ => len - (intOf iv).toNat)
  case atStart => exact ⟨0, Nat.zero_le _, rfl, rfl, Lib.hid S0⟩
  case round =>
    obtain ⟨k, hk, rfl, rfl, HX⟩ := hrel
    clear S0
    by_cases hlt : k < len
    · have d1 : wr.cell? ⟨b, k * 2, none⟩ = _ := (HX.out.bel.cell (p := ⟨b, k * 2, none⟩) lt).trans (HC.out k hlt).1
      have d2 := (HC.out k hlt).2
      have HTXk := Lib.hid (HTX.out k hlt)
      have HTYk := Lib.hid (HTY.out k hlt)
      have HLk := Lib.hid (show ((ps.map Prod.fst).take k).length = k ∧ ((ps.map Prod.snd).take k).length = k by have := HLX.out; simp only [List.length_take]; omega)
      generalize pX ps k = x at *
      generalize pY ps k = y at *
      have j1 : (0 : Int) ≤ (k : Int) := by omega
      have j2 : (k : Int) < (len : Int) := by omega
      have HXa := Lib.hid (HX.out.next (below_box wr (.cells #[.int .i64 x] 3)))
      have HN := Lib.hid (cell_one_new' wr (.int .i64 x) 3)
      have HOX := Lib.hid (show (wr.alloc (.cells #[.int .i64 x] 3)).ownsRow (w.heap.size + 1) 3 1 u5 k (vals ((ps.map Prod.fst).take k)) by have o := HXa.out.ox; unfold OwnI at o; rw [HLk.out.1] at o; exact o)
      go_upto_region 8 with (at_builtin; refine wpList_append_lies _ rfl (.tmp 17) (.tmp 23) 54 rfl (w.heap.size + 1) 3 i0 (.int .i64 0) 1 8 Try.underlying54 hi0 hz0 hz1 hz2 rfl (by decide) _ k (vals ((ps.map Prod.fst).take k)) rfl HOX.out ⟨wr.heap.size, 0, none⟩ 1 1 [.int .i64 x] rfl rfl HN.out (by intro u hu; simp at hu; subst hu; rfl) (by omega) (by unfold maxLen; omega) (by omega) HXa.out.base _ rfl ?_; intro g7 cap7 w7 own7 grow7 at7 ltg7; have HA7 := Lib.hid (And.intro own7 (And.intro grow7 at7)); clear own7 grow7 at7 ltg7)
      have HAP : Hid (App (wr.alloc (.cells #[.int .i64 x] 3)) w7 (w.heap.size + 1) u5 ((ps.map Prod.fst).take (k + 1)) g7 (k + 1) cap7) := Lib.hid ⟨by rw [HTXk.out]; exact HA7.out.1, HA7.out.2.1, HA7.out.2.2⟩
      have HX7 := Lib.hid (HXa.out.appX HAP.out)
      have d3 : w7.cell? ⟨b, k * 2 + 1, none⟩ = _ := (HX7.out.bel.cell (p := ⟨b, k * 2 + 1, none⟩) lt).trans d2
      have HXb := Lib.hid (HX7.out.next (below_box w7 (.cells #[.int .i64 y] 3)))
      have HNb := Lib.hid (cell_one_new' w7 (.int .i64 y) 3)
      have HOY := Lib.hid (show (w7.alloc (.cells #[.int .i64 y] 3)).ownsRow (w.heap.size + 1) 3 1 u6 k (vals ((ps.map Prod.snd).take k)) by have o := HXb.out.oy; unfold OwnI at o; rw [HLk.out.2] at o; exact o)
      clear d1 d2 HXa HN HOX HA7 HAP
      go_upto_region 9 with (at_builtin; refine wpList_append_lies _ rfl (.tmp 25) (.tmp 31) 54 rfl (w.heap.size + 1) 3 i0 (.int .i64 0) 1 8 Try.underlying54 hi0 hz0 hz1 hz2 rfl (by decide) _ k (vals ((ps.map Prod.snd).take k)) rfl HOY.out ⟨w7.heap.size, 0, none⟩ 1 1 [.int .i64 y] rfl rfl HNb.out (by intro u hu; simp at hu; subst hu; rfl) (by omega) (by unfold maxLen; omega) (by omega) HXb.out.base _ rfl ?_; intro g8 cap8 w8 own8 grow8 at8 ltg8; have HA8 := Lib.hid (And.intro own8 (And.intro grow8 at8)); clear own8 grow8 at8 ltg8)
      have HAP : Hid (App (w7.alloc (.cells #[.int .i64 y] 3)) w8 (w.heap.size + 1) u6 ((ps.map Prod.snd).take (k + 1)) g8 (k + 1) cap8) := Lib.hid ⟨by rw [HTYk.out]; exact HA8.out.1, HA8.out.2.1, HA8.out.2.2⟩
      have HX8 := Lib.hid (HXb.out.appY HAP.out)
      clear d3 HXb HNb HOY HA8 HAP HX7 HX
      by_cases hk0 : k = 0
      · subst hk0
        go_wp2
        go_roundw
        case rel => exact ⟨1, by omega, rfl, rfl, HX8⟩
        case measure => simp [intOf]; omega
      · obtain ⟨s1, s2⟩ := sc_le (show k - 1 ≤ 3 by omega)
        have hk0' : (0 : Int) < (k : Int) := by omega
        have HSC := Lib.hid (show sc (k - 1) * 64 = sc (k + 1 - 1) by rw [← sc_succ, show k - 1 + 1 = k + 1 - 1 by omega])
        generalize sc (k - 1) = s at *
        go_wp2
        go_roundw
        case rel => exact ⟨k + 1, by omega, by congr 1, by rw [HSC.out], HX8⟩
        case measure => simp [intOf]; omega
    · obtain rfl : k = len := by omega
      have HX' : Hid (XY w wr u5 u6 (ps.map Prod.fst) (ps.map Prod.snd)) := Lib.hid (by have o := HX.out; have := HLX.out; rw [List.take_of_length_le (by omega), List.take_of_length_le (by omega)] at o; exact o)
      clear HX
      obtain ⟨s1, s2⟩ := sc_le (show k - 1 ≤ 3 by omega)
      by_cases h1 : k = 1
      · subst h1
        obtain ⟨c0, c1⟩ := HC.out 0 (by omega)
        have d0 : wr.cell? ⟨b, 0, none⟩ = _ := (HX'.out.bel.cell (p := ⟨b, 0, none⟩) lt).trans c0
        have d1 : wr.cell? ⟨b, 1, none⟩ = _ := (HX'.out.bel.cell (p := ⟨b, 1, none⟩) lt).trans c1
        have HV := Lib.hid (show curX ps t = pX ps 0 ∧ curY ps t = pY ps 0 from ⟨HE.out.1.symm.trans (rndS_one _), HE.out.2.symm.trans (rndS_one _)⟩)
        have hs : (sc (1 - 1) == 1) = true := rfl
        obtain ⟨⟨_, v8, v9⟩, z1, z2⟩ := id HX'.out.res
        have hne : b ≠ w.heap.size := by omega
        generalize pX ps 0 = x at *
        generalize pY ps 0 = y at *
        clear c0 c1
        go_wp2
        exact bodyPost_ret (v := pt x y) (by simp [results, Try.results45, go_sem, v8, v9]) rfl ⟨pt_eq7 HV.out.1 HV.out.2, below_set HX'.out.bel (Nat.le_refl _) _ _⟩
      · have hs : (sc (k - 1) == 1) = false := by
          have : k - 1 = 1 ∨ k - 1 = 2 ∨ k - 1 = 3 := by omega
          rcases this with e | e | e <;> rw [e] <;> rfl
        obtain ⟨gx, cx, rfl, _, _⟩ := HX'.out.ox.at (by rw [HLX.out.1]; omega)
        obtain ⟨gy, cy, rfl, _, _⟩ := HX'.out.oy.at (by rw [HLX.out.2]; omega)
        rw [HLX.out.1, HLX.out.2] at HX'
        rw [HLX.out.1, HLX.out.2]
        obtain ⟨bx1, bx2⟩ := HBX.out (k - 1) 0
        obtain ⟨by1, by2⟩ := HBY.out (k - 1) 0
        have HVX := Lib.hid (l7Value gx 0 k cx (ps.map Prod.fst) t wr HX'.out.ox.ints n1 n4 t0 t1 HZX.out)
        have HVY := Lib.hid (fun u (hu : Below wr.heap.size wr u) => l7Value gy 0 k cy (ps.map Prod.snd) t u (HX'.out.next hu).oy.ints n1 n4 t0 t1 HZY.out)
        rw [HFX.out] at HVX
        rw [HFY.out] at HVY
        generalize cas t (pX ps) (k - 1) 0 = ax at *
        generalize cas t (pY ps) (k - 1) 0 = ay at *
        generalize sc (k - 1) = s at *
        go_wp2_with fail
        refine HVX.out.mono ?_
        rintro e w1 ⟨rfl, B1⟩
        go_wp2_with fail
        refine (l1RoundS ax s _ s1 s2 (by omega) (by omega)).mono ?_
        rintro e w' ⟨rfl, rfl⟩
        go_wp2_with fail
        refine (HVY.out _ B1).mono ?_
        rintro e w2 ⟨rfl, B2⟩
        have HX2 := Lib.hid ((HX'.out.next B1).next B2)
        clear B1 B2 HVX HVY
        go_wp2_with fail
        refine (l1RoundS ay s _ s1 s2 (by omega) (by omega)).mono ?_
        rintro e w' ⟨rfl, rfl⟩
        obtain ⟨⟨_, v8, v9⟩, z1, z2⟩ := id HX2.out.res
        go_wp2
        exact bodyPost_ret (v := pt (rndS ax s) (rndS ay s)) (by simp [results, Try.results45, go_sem, v8, v9]) rfl ⟨pt_eq7 HE.out.1.symm HE.out.2.symm, below_set HX2.out.bel (Nat.le_refl _) _ _⟩
end Go.Proofs.Ytlbheofomjakmaa
