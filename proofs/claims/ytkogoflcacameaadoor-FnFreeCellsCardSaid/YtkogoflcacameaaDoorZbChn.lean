/- Several of my texts in one: Chain, Chain2, Arm3d, Open3, EArmValid, Chain3, Chain4, Chain5. -/
import Derived.Test.YtkogoflcacameaaDoorZbArm
import Derived.Deep.RegionHeld3
import Derived.Laws.MakeOwn
import Derived.Outline
import Derived.Test.YtkogoflcacameaaDoorZbNs
import Derived.OpenShut
import Derived.Lib.SmallJoins
import Derived.Laws.Cover3
namespace Go.Proofs.YtkogoflcacameaaDoor
set_option maxRecDepth 100000
open Go.RowKit
attribute [local go_sem ↓] Go.wp_at_zero Go.wp_at_succ

/-- A link's value. -/
abbrev lk (l o h : Int) : Value := .agg #[.int .i64 l, .int .i64 o, .int .i64 h]
theorem linkValidY (l o h : Int) (w : World) (hk : okLink l o h) :
    Calls Tryd.prog 62 #[lk l o h] w fun e w' => e = .returned (.bool true) ∧ Below w.heap.size w w' := by
  obtain ⟨k1, k2, k3, k4, k5, k6⟩ := hk
  have HB := Lib.hid (below_box w (.cells #[.int .i64 l, .int .i64 o, .int .i64 h] 84))
  go_enter Tryd.func62, Tryd.ntmps62
  go_wp2
  go_ret
  exact ⟨rfl, HB.out⟩
theorem linkValidN (l o h : Int) (w : World) (hk : ¬ okLink l o h) :
    Calls Tryd.prog 62 #[lk l o h] w fun e w' => e = .returned (.bool false) ∧ Below w.heap.size w w' := by
  have HB := Lib.hid (below_box w (.cells #[.int .i64 l, .int .i64 o, .int .i64 h] 84))
  have HK := Lib.hid hk
  clear hk
  by_cases k1 : 1 ≤ l
  · by_cases k2 : l ≤ 500
    · by_cases k3 : -180 ≤ o
      · by_cases k4 : o ≤ h
        · have k5 : decide (h ≤ 180) = false := decide_eq_false fun k5 => HK.out ⟨k1, k2, k3, by omega, k4, k5⟩
          go_enter Tryd.func62, Tryd.ntmps62
          go_wp2
          go_ret
          exact ⟨rfl, HB.out⟩
        · replace k4 : decide (o ≤ h) = false := decide_eq_false k4
          go_enter Tryd.func62, Tryd.ntmps62
          go_wp2
          go_ret
          exact ⟨rfl, HB.out⟩
      · replace k3 : decide (-180 ≤ o) = false := decide_eq_false k3
        go_enter Tryd.func62, Tryd.ntmps62
        go_wp2
        go_ret
        exact ⟨rfl, HB.out⟩
    · replace k2 : decide (l ≤ 500) = false := decide_eq_false k2
      go_enter Tryd.func62, Tryd.ntmps62
      go_wp2
      go_ret
      exact ⟨rfl, HB.out⟩
  · replace k1 : decide (1 ≤ l) = false := decide_eq_false k1
    go_enter Tryd.func62, Tryd.ntmps62
    go_wp2
    go_ret
    exact ⟨rfl, HB.out⟩
theorem nearest (l o h d : Int) (w : World) :
    Calls Tryd.prog 82 #[lk l o h, .int .i64 d] w fun e w' => e = .returned (.int .i64 (clip d o h)) ∧ Below w.heap.size w w' := by
  have HB := Lib.hid (below_box w (.cells #[.int .i64 l, .int .i64 o, .int .i64 h] 84))
  have HE := Lib.hid (show clip d o h = max o (min h d) from rfl)
  go_enter Tryd.func82, Tryd.ntmps82
  go_wp2
  all_goals
    go_ret
    exact ⟨ret_int (by rw [HE.out]; omega), HB.out⟩
theorem clip_in {d o h : Int} (h1 : o ≤ d) (h2 : d ≤ h) : clip d o h = d := by unfold clip; omega
theorem clip_ne {d o h : Int} (hk : ¬ (o ≤ d ∧ d ≤ h)) (hr : o ≤ h) : clip d o h ≠ d := by unfold clip; omega
theorem linkAllowsY (l o h d : Int) (w : World) (h1 : o ≤ d) (h2 : d ≤ h) :
    Calls Tryd.prog 70 #[lk l o h, .int .i64 d] w fun e w' => e = .returned (.bool true) ∧ Below w.heap.size w w' := by
  have HB := Lib.hid (below_box w (.cells #[.int .i64 l, .int .i64 o, .int .i64 h] 84))
  have e0 : (d == d) = true := by simp
  have HE := Lib.hid (clip_in h1 h2)
  clear h1 h2
  go_enter Tryd.func70, Tryd.ntmps70
  go_wp2_with fail
  refine (nearest l o h d _).mono ?_
  rw [HE.out]
  rintro e w1 ⟨rfl, B1⟩
  have HB1 := Lib.hid (below_call HB.out B1)
  clear B1
  go_wp2
  go_ret
  exact ⟨rfl, HB1.out⟩
theorem linkAllowsN (l o h d : Int) (w : World) (hr : o ≤ h) (hk : ¬ (o ≤ d ∧ d ≤ h)) :
    Calls Tryd.prog 70 #[lk l o h, .int .i64 d] w fun e w' => e = .returned (.bool false) ∧ Below w.heap.size w w' := by
  have HB := Lib.hid (below_box w (.cells #[.int .i64 l, .int .i64 o, .int .i64 h] 84))
  have HE := Lib.hid (clip_ne hk hr)
  clear hk hr
  go_enter Tryd.func70, Tryd.ntmps70
  go_wp2_with fail
  refine (nearest l o h d _).mono ?_
  rintro e w1 ⟨rfl, B1⟩
  have HB1 := Lib.hid (below_call HB.out B1)
  have e0 : (clip d o h == d) = false := by simpa using HE.out
  generalize clip d o h = c at *
  clear B1
  go_wp2
  go_ret
  exact ⟨rfl, HB1.out⟩
/-- The cells of the links, k of them there. -/
def fld (ls lo hi : List Int) (i j : Nat) : Int := if j = 0 then ls.getD i 0 else if j = 1 then lo.getD i 0 else hi.getD i 0
def lpart (ls lo hi : List Int) (n k : Nat) : List Value := (List.range (n * 3)).map fun (j : Nat) => Value.int .i64 (if j / 3 < k then fld ls lo hi (j / 3) (j % 3) else 0)
theorem lpart_len (ls lo hi : List Int) (n k : Nat) : (lpart ls lo hi n k).length = n * 3 := by simp [lpart]
theorem lpart_at (ls lo hi : List Int) (n k j : Nat) (h : j < n * 3) : (lpart ls lo hi n k)[j]? = some (Value.int .i64 (if j / 3 < k then fld ls lo hi (j / 3) (j % 3) else 0)) := by
  unfold lpart; rw [List.getElem?_map, List.getElem?_range h]; rfl
theorem lpart_set (ls lo hi : List Int) (n k : Nat) :
    (((lpart ls lo hi n k).set (k * 3) (.int .i64 (ls.getD k 0))).set (k * 3 + 1) (.int .i64 (lo.getD k 0))).set (k * 3 + 2) (.int .i64 (hi.getD k 0)) = lpart ls lo hi n (k + 1) := by
  apply List.ext_getElem?
  intro j
  by_cases hj : j < n * 3
  · rw [List.getElem?_set, List.getElem?_set, List.getElem?_set, lpart_at ls lo hi n k j hj, lpart_at ls lo hi n (k + 1) j hj]
    simp only [List.length_set, lpart_len]
    by_cases h2 : k * 3 + 2 = j
    · subst h2
      rw [if_pos rfl, if_pos hj, if_pos (by omega), show (k * 3 + 2) / 3 = k by omega, show (k * 3 + 2) % 3 = 2 by omega]; rfl
    · rw [if_neg h2]
      by_cases h1 : k * 3 + 1 = j
      · subst h1
        rw [if_pos rfl, if_pos hj, if_pos (by omega), show (k * 3 + 1) / 3 = k by omega, show (k * 3 + 1) % 3 = 1 by omega]; rfl
      · rw [if_neg h1]
        by_cases h0 : k * 3 = j
        · subst h0
          rw [if_pos rfl, if_pos hj, if_pos (by omega), show (k * 3) / 3 = k by omega, show (k * 3) % 3 = 0 by omega]; rfl
        · rw [if_neg h0]
          by_cases hq : j / 3 < k
          · rw [if_pos hq, if_pos (by omega)]
          · rw [if_neg hq, if_neg (by omega)]
  · rw [List.getElem?_eq_none (by simp [lpart_len]; omega), List.getElem?_eq_none (by rw [lpart_len]; omega)]
theorem lpart_made (ls lo hi : List Int) (n : Nat) : (madeCells (lk 0 0 0).cells (n * 3)).toList = lpart ls lo hi n 0 := by
  unfold lpart madeCells
  show (Array.map _ (Array.range (n * 3))).toList = _
  rw [Array.toList_map, Array.toList_range]
  apply List.map_congr_left
  intro j _
  have hm : j % 3 = 0 ∨ j % 3 = 1 ∨ j % 3 = 2 := by omega
  show (#[Value.int .i64 0, Value.int .i64 0, Value.int .i64 0] : Array Value)[j % 3]! = _
  rcases hm with h | h | h <;> rw [h] <;> simp
/-- The links lie in block b. -/
structure ChainAt (w : World) (b n : Nat) (ls lo hi : List Int) : Prop where
  lt : b < w.heap.size
  c : ∀ i, i < n → w.cell? ⟨b, i * 3, none⟩ = some (.int .i64 (ls.getD i 0)) ∧ w.cell? ⟨b, i * 3 + 1, none⟩ = some (.int .i64 (lo.getD i 0)) ∧ w.cell? ⟨b, i * 3 + 2, none⟩ = some (.int .i64 (hi.getD i 0))
theorem ChainAt.next {w w' : World} {b n : Nat} {ls lo hi : List Int} (h : ChainAt w b n ls lo hi) (hb : Below w.heap.size w w') : ChainAt w' b n ls lo hi :=
  ⟨Nat.lt_of_lt_of_le h.lt hb.size, fun i hi => ⟨(hb.cell (p := ⟨b, i * 3, none⟩) h.lt).trans (h.c i hi).1, (hb.cell (p := ⟨b, i * 3 + 1, none⟩) h.lt).trans (h.c i hi).2.1, (hb.cell (p := ⟨b, i * 3 + 2, none⟩) h.lt).trans (h.c i hi).2.2⟩⟩
theorem chainAt_of {w : World} {B g n cap t : Nat} {ls lo hi : List Int} (h : w.ownsRow B t 3 (.slice (some ⟨g, 0, none⟩) n cap) n (lpart ls lo hi n n)) : ChainAt w g n ls lo hi := by
  refine ⟨(World.ownsRow.lt h g rfl).2, fun i hi' => ?_⟩
  have c0 := h.cellAt (i * 3) (by omega)
  have c1 := h.cellAt (i * 3 + 1) (by omega)
  have c2 := h.cellAt (i * 3 + 2) (by omega)
  rw [lpart_at ls lo hi n n _ (by omega), if_pos (by omega)] at c0 c1 c2
  rw [show (i * 3) / 3 = i by omega, show (i * 3) % 3 = 0 by omega] at c0
  rw [show (i * 3 + 1) / 3 = i by omega, show (i * 3 + 1) % 3 = 1 by omega] at c1
  rw [show (i * 3 + 2) / 3 = i by omega, show (i * 3 + 2) % 3 = 2 by omega] at c2
  exact ⟨c0, c1, c2⟩
/-- What making the links says: they are there for a valid arm, and nil for an invalid one. -/
def Chained (ls lo hi : List Int) (w : World) (e : Ending) (w' : World) : Prop :=
  Below w.heap.size w w' ∧ ((okArm ls lo hi ∧ ∃ b, e = .returned (.slice (some ⟨b, 0, none⟩) ls.length ls.length) ∧ w.heap.size ≤ b ∧ ChainAt w' b ls.length ls lo hi) ∨ (¬ okArm ls lo hi ∧ e = .returned (.slice none 0 0)))
theorem infoLink : (Tryd.prog.info? 84).map (fun i => (i.zero, i.size, i.bytes)) = some (some (lk 0 0 0), 3, 24) := by kernel_rfl
end Go.Proofs.YtkogoflcacameaaDoor
namespace Go.Proofs.YtkogoflcacameaaDoor
set_option maxRecDepth 100000
open Go.RowKit
attribute [local go_sem ↓] Go.wp_at_zero Go.wp_at_succ
set_option maxHeartbeats 1000000 in
theorem chainOfLoop (x y z : Sl) (n : Nat) (ls lo hi : List Int) (w : World) (hx : IntsAt w x.a x.len ls) (hy : IntsAt w y.a y.len lo) (hz : IntsAt w z.a z.len hi) (n1 : 1 ≤ n) (n2 : n ≤ 4) (m1 : x.len = n) (m2 : y.len = n) (m3 : z.len = n) :
    Calls Tryd.prog 35 #[av x y z] w (Chained ls lo hi w) := by
  obtain ⟨i0, hi0, hz0, hz1, hz2⟩ := info_parts infoLink
  obtain ⟨xa, xl, xc⟩ := x
  obtain ⟨ya, yl, yc⟩ := y
  obtain ⟨za, zl, zc⟩ := z
  simp only at *
  obtain rfl : n = xl := m1.symm
  obtain rfl : n = yl := m2.symm
  obtain rfl : n = zl := m3.symm
  clear m1 m2 m3
  have HL1 := Lib.hid hx.1
  have HL2 := Lib.hid hy.1
  have HL3 := Lib.hid hz.1
  obtain ⟨b1, o1, rfl, lt1, c1⟩ := hx.some n1
  obtain ⟨b2, o2, rfl, lt2, c2⟩ := hy.some n1
  obtain ⟨b3, o3, rfl, lt3, c3⟩ := hz.some n1
  have C1 := Lib.hid c1
  have C2 := Lib.hid c2
  have C3 := Lib.hid c3
  have HB := Lib.hid (below_box w (.cells #[.slice (some ⟨b1, o1, none⟩) n xc, .slice (some ⟨b2, o2, none⟩) n yc, .slice (some ⟨b3, o3, none⟩) n zc] 25))
  have P := AtA.box w (.slice (some ⟨b1, o1, none⟩) n xc) (.slice (some ⟨b2, o2, none⟩) n yc) (.slice (some ⟨b3, o3, none⟩) n zc) 25
  have HM := Lib.hid (lpart_made ls lo hi n)
  have e1 : ((n : Int) != (n : Int)) = false := by simp
  clear hx hy hz c1 c2 c3
  go_enter Tryd.func35, Tryd.ntmps35
  go_wp2_with (first
    | (at_make; refine wpList_make_full _ rfl _ _ 59 rfl (w.heap.size + 1) 84 i0 (lk 0 0 0) 3 Tryd.underlying59 hi0 hz0 hz1 .i64 .i64 _ _ n rfl rfl rfl rfl (by rw [hz2]; omega) (by unfold maxLen; omega) (by simp) ?_; intro w1 own1 grow1))
  have own2 : w1.ownsRow (w.heap.size + 1) 84 3 (.slice (some ⟨w.heap.size + 1, 0, none⟩) n n) n (lpart ls lo hi n 0) := by rw [← HM.out]; simpa using own1
  have HG : Below w.heap.size w w1 := HB.out.grown grow1 HB.out.size (fun k hk => by cases hk)
  have P1 := P.kept grow1 (by simp)
  clear own1 grow1 HM P HB
  go_loopw [33] (fun i wr => ∃ k : Nat, k ≤ n ∧ i = .int .i64 (k : Int) ∧ Hid (∀ j, j < k → okLink (ls.getD j 0) (lo.getD j 0) (hi.getD j 0)) ∧ Hid (wr.ownsRow (w.heap.size + 1) 84 3 (.slice (some ⟨w.heap.size + 1, 0, none⟩) n n) n (lpart ls lo hi n k)) ∧ Hid (Below w.heap.size w wr) ∧ Hid (AtA wr w.heap.size (.slice (some ⟨b1, o1, none⟩) n xc) (.slice (some ⟨b2, o2, none⟩) n yc) (.slice (some ⟨b3, o3, none⟩) n zc))) (fun i _ => n - (intOf i).toNat)
  case atStart => exact ⟨0, Nat.zero_le _, rfl, Lib.hid (fun j hj => absurd hj (by omega)), Lib.hid own2, Lib.hid HG, Lib.hid P1⟩
  case round =>
    obtain ⟨k, hk, rfl, HJ, HO, HW, HP⟩ := hrel
    clear own2 HG P1
    by_cases hlt : k < n
    · obtain ⟨_, d1, d2, d3, _, _, _⟩ := HP.out
      have d4 : wr.cell? ⟨b1, o1 + k, none⟩ = _ := (HW.out.cell (p := ⟨b1, o1 + k, none⟩) lt1).trans (C1.out k hlt)
      have d5 : wr.cell? ⟨b2, o2 + k, none⟩ = _ := (HW.out.cell (p := ⟨b2, o2 + k, none⟩) lt2).trans (C2.out k hlt)
      have d6 : wr.cell? ⟨b3, o3 + k, none⟩ = _ := (HW.out.cell (p := ⟨b3, o3 + k, none⟩) lt3).trans (C3.out k hlt)
      have j1 : (0 : Int) ≤ (k : Int) := by omega
      have j2 : (k : Int) < (n : Int) := by omega
      have HX := Lib.hid (fun (hok : okLink (ls.getD k 0) (lo.getD k 0) (hi.getD k 0)) j (hj : j < k + 1) => show okLink (ls.getD j 0) (lo.getD j 0) (hi.getD j 0) from if hjk : j < k then HJ.out j hjk else by rw [show j = k by omega]; exact hok)
      generalize hl : ls.getD k 0 = l at *
      generalize ho : lo.getD k 0 = o at *
      generalize hh : hi.getD k 0 = h at *
      replace hl := Lib.hid hl
      replace ho := Lib.hid ho
      replace hh := Lib.hid hh
      have g0 := HO.out.cellAt (k * 3) (by omega)
      have g1 := HO.out.cellAt (k * 3 + 1) (by omega)
      have g2 := HO.out.cellAt (k * 3 + 2) (by omega)
      rw [lpart_at ls lo hi n k _ (by omega)] at g0 g1 g2
      have f0 := HO.out.frozenAt (k * 3)
      have f1 := HO.out.frozenAt (k * 3 + 1)
      have f2 := HO.out.frozenAt (k * 3 + 2)
      have nb : w.heap.size + 1 ≠ w.heap.size := by omega
      have nc : w.heap.size ≤ w.heap.size + 1 := by omega
      have s1 := HO.out.stored (k * 3) (.int .i64 l)
      have s2 := s1.1.stored (k * 3 + 1) (.int .i64 o)
      have s3 := s2.1.stored (k * 3 + 2) (.int .i64 h)
      have HO3 := Lib.hid s3.1.drew
      have HP3 := Lib.hid ((((HP.out.far (o := k * 3) nb (.int .i64 l)).far (o := k * 3 + 1) nb (.int .i64 o)).far (o := k * 3 + 2) nb (.int .i64 h)).next (below_drew' _))
      have HW3 := Lib.hid ((((HW.out.setCell (p := ⟨w.heap.size + 1, k * 3, none⟩) nc (.int .i64 l)).setCell (p := ⟨w.heap.size + 1, k * 3 + 1, none⟩) nc (.int .i64 o)).setCell (p := ⟨w.heap.size + 1, k * 3 + 2, none⟩) nc (.int .i64 h)).drew)
      have E4 := Lib.hid ((C1.out k hlt).trans (by rw [hl.out]))
      have E5 := Lib.hid ((C2.out k hlt).trans (by rw [ho.out]))
      have E6 := Lib.hid ((C3.out k hlt).trans (by rw [hh.out]))
      rw [← hl.out, ← ho.out, ← hh.out, lpart_set, hl.out, ho.out, hh.out] at HO3
      clear s1 s2 s3 HO HP HW
      go_wp2
      go_region_held3 (fun u => u.cell? ⟨w.heap.size, 0, none⟩ = some (.slice (some ⟨b1, o1, none⟩) n xc) ∧ u.cell? ⟨w.heap.size, 1, none⟩ = some (.slice (some ⟨b2, o2, none⟩) n yc) ∧ u.cell? ⟨w.heap.size, 2, none⟩ = some (.slice (some ⟨b3, o3, none⟩) n zc) ∧ u.cell? ⟨b1, o1 + k, none⟩ = some (.int .i64 l) ∧ u.cell? ⟨b2, o2 + k, none⟩ = some (.int .i64 o) ∧ u.cell? ⟨b3, o3 + k, none⟩ = some (.int .i64 h)) (first | exact ⟨d1, d2, d3, d4, d5, d6⟩ | exact ⟨HP3.out.c0, HP3.out.c1, HP3.out.c2, (HW3.out.cell (p := ⟨b1, o1 + k, none⟩) lt1).trans E4.out, (HW3.out.cell (p := ⟨b2, o2 + k, none⟩) lt2).trans E5.out, (HW3.out.cell (p := ⟨b3, o3 + k, none⟩) lt3).trans E6.out⟩) (fail)
      generalize (((wr.setCell ⟨w.heap.size + 1, k * 3, none⟩ (.int .i64 l)).setCell ⟨w.heap.size + 1, k * 3 + 1, none⟩ (.int .i64 o)).setCell ⟨w.heap.size + 1, k * 3 + 2, none⟩ (.int .i64 h)).drew = wu at *
      have v0 := HO3.out.cellAt (k * 3) (by omega)
      have v1 := HO3.out.cellAt (k * 3 + 1) (by omega)
      have v2 := HO3.out.cellAt (k * 3 + 2) (by omega)
      rw [lpart_at ls lo hi n (k + 1) _ (by omega), if_pos (by omega)] at v0 v1 v2
      rw [show k * 3 / 3 = k by omega, show k * 3 % 3 = 0 by omega, show fld ls lo hi k 0 = l from hl.out] at v0
      rw [show (k * 3 + 1) / 3 = k by omega, show (k * 3 + 1) % 3 = 1 by omega, show fld ls lo hi k 1 = o from ho.out] at v1
      rw [show (k * 3 + 2) / 3 = k by omega, show (k * 3 + 2) % 3 = 2 by omega, show fld ls lo hi k 2 = h from hh.out] at v2
      clear g0 g1 g2 f0 f1 f2 d1 d2 d3 d4 d5 d6
      by_cases hok : okLink l o h
      · go_wp2_with fail
        refine (linkValidY l o h _ hok).mono ?_
        rintro e w2 ⟨rfl, B2⟩
        have HO4 := Lib.hid (World.ownsRow.kept (row := none) HO3.out ⟨B2.os, B2.tape, B2.output, B2.size, fun k hk _ => B2.block k hk⟩ (.inr (by simp [Value.ownBlock])))
        have HW4 := Lib.hid (below_call HW3.out B2)
        have HP4 := Lib.hid (HP3.out.next B2)
        clear HO3 HW3 HP3 B2 v0 v1 v2
        go_wp2
        go_roundw
        case rel => exact ⟨k + 1, by omega, by congr 1, Lib.hid (HX.out hok), HO4, HW4, HP4⟩
        case measure => simp [intOf]; omega
      · have HK := Lib.hid hok
        clear hok
        go_wp2_with fail
        refine (linkValidN l o h _ HK.out).mono ?_
        rintro e w2 ⟨rfl, B2⟩
        have HW4 := Lib.hid (below_call HW3.out B2)
        have HN := Lib.hid (show ¬ okArm ls lo hi from fun hA => HK.out (by have := hA.2.2.2.2 k (by rw [← HL1.out]; exact hlt); rw [hl.out, ho.out, hh.out] at this; exact this))
        clear HO3 HW3 HP3 B2 v0 v1 v2
        go_wp2
        go_ret
        exact ⟨HW4.out, .inr ⟨HN.out, rfl⟩⟩
    · obtain rfl : k = n := by omega
      have HE := Lib.hid (show okArm ls lo hi from ⟨by rw [← HL1.out]; exact n1, by rw [← HL1.out]; exact n2, by rw [← HL1.out, ← HL2.out], by rw [← HL1.out, ← HL3.out], fun j hj => HJ.out j (by rw [HL1.out]; exact hj)⟩)
      go_wp2
      go_ret
      refine ⟨HW.out, .inl ⟨HE.out, w.heap.size + 1, ?_, Nat.le_succ _, ?_⟩⟩
      · show Ending.returned (.slice (some ⟨w.heap.size + 1, 0, none⟩) k k) = _
        rw [← HL1.out]
      · rw [← HL1.out]; exact chainAt_of HO.out
theorem chainOf (x y z : Sl) (ls lo hi : List Int) (w : World) (hx : IntsAt w x.a x.len ls) (hy : IntsAt w y.a y.len lo) (hz : IntsAt w z.a z.len hi) (bx : x.len ≤ 9223372036854775807) (b_y : y.len ≤ 9223372036854775807) (bz : z.len ≤ 9223372036854775807) :
    Calls Tryd.prog 35 #[av x y z] w (Chained ls lo hi w) := by
  have m1 := hx.1
  have m2 := hy.1
  have m3 := hz.1
  by_cases n1 : 1 ≤ x.len ∧ x.len ≤ 4
  · by_cases n3 : y.len = x.len
    · by_cases n4 : z.len = x.len
      · exact chainOfLoop x y z x.len ls lo hi w hx hy hz n1.1 n1.2 rfl n3 n4
      · have HN := Lib.hid (show ¬ okArm ls lo hi from fun hA => n4 (by rw [m3, m1]; exact hA.2.2.2.1))
        obtain ⟨xa, xl, xc⟩ := x
        obtain ⟨ya, yl, yc⟩ := y
        obtain ⟨za, zl, zc⟩ := z
        simp only at *
        obtain ⟨n1, n2⟩ := n1
        obtain rfl : xl = yl := n3.symm
        have e1 : ((xl : Int) != (xl : Int)) = false := by simp
        have e2 : ((zl : Int) != (xl : Int)) = true := by simp; omega
        clear m1 m2 m3 hx hy hz n3 n4
        go_enter Tryd.func35, Tryd.ntmps35
        go_wp2
        go_ret
        exact ⟨below_box _ _, .inr ⟨HN.out, rfl⟩⟩
    · have HN := Lib.hid (show ¬ okArm ls lo hi from fun hA => n3 (by rw [m2, m1]; exact hA.2.2.1))
      obtain ⟨xa, xl, xc⟩ := x
      obtain ⟨ya, yl, yc⟩ := y
      obtain ⟨za, zl, zc⟩ := z
      simp only at *
      obtain ⟨n1, n2⟩ := n1
      have e2 : ((yl : Int) != (xl : Int)) = true := by simp; omega
      clear m1 m2 m3 hx hy hz n3
      go_enter Tryd.func35, Tryd.ntmps35
      go_wp2
      go_ret
      exact ⟨below_box _ _, .inr ⟨HN.out, rfl⟩⟩
  · have HN := Lib.hid (show ¬ okArm ls lo hi from fun hA => n1 (by rw [m1]; exact ⟨hA.1, hA.2.1⟩))
    obtain ⟨xa, xl, xc⟩ := x
    obtain ⟨ya, yl, yc⟩ := y
    obtain ⟨za, zl, zc⟩ := z
    simp only at *
    have HH := Lib.hid n1
    clear m1 m2 m3 hx hy hz n1
    by_cases c1 : (xl : Int) < 1
    · clear HH
      go_enter Tryd.func35, Tryd.ntmps35
      go_wp2
      go_ret
      exact ⟨below_box _ _, .inr ⟨HN.out, rfl⟩⟩
    · have c2 : (4 : Int) < (xl : Int) := by have := HH.out; omega
      clear HH
      go_enter Tryd.func35, Tryd.ntmps35
      go_wp2
      go_ret
      exact ⟨below_box _ _, .inr ⟨HN.out, rfl⟩⟩
end Go.Proofs.YtkogoflcacameaaDoor
namespace Go.Proofs.YtkogoflcacameaaDoor
set_option maxRecDepth 100000
open Go.RowKit
attribute [local go_sem ↓] Go.wp_at_zero Go.wp_at_succ

theorem ret_2 {a b c d : Int} (h1 : a = c) (h2 : b = d) : Ending.returned (.tuple #[.int .i64 a, .int .i64 b]) = .returned (.tuple #[.int .i64 c, .int .i64 d]) := by rw [h1, h2]
end Go.Proofs.YtkogoflcacameaaDoor
namespace Go.Proofs.YtkogoflcacameaaDoor
set_option maxRecDepth 100000
open Go.ChangeShapes Go.WideShapes Go.ChangeAt Go.RowKit Go.Joins

/-- The numbers fit. -/
def Fit (zs : List Int) : Prop := ∀ i, -9223372036854775808 ≤ zs.getD i 0 ∧ zs.getD i 0 ≤ 9223372036854775807
theorem ints_of {H : Type} {enc : TypeId × Value → H} {W : World} {v : Value} {n : Nat} {y : DataW H × List MemPlace} (hf : DataW.trod enc Tryd.prog W 0 (fun _ => true) true n 23 [v] = some y) :
    ∃ (s : Sl) (zs : List Int), v = .slice s.a s.len s.cap ∧ IntsAt W s.a s.len zs ∧ Fit zs ∧ s.len ≤ 9223372036854775807 := by
  rcases open_ints Tryd.underlying23 Tryd.underlying3 (by kernel_rfl) hf with ⟨hcs, _⟩ | ⟨x, l, c, zs, hcs, _, hl, hm, hz, _, hcell, hwz⟩
  · simp at hcs
    subst hcs
    exact ⟨⟨none, 0, 0⟩, [], rfl, ⟨rfl, .inl rfl⟩, fun i => by simp, Nat.zero_le _⟩
  · simp at hcs
    subst hcs
    unfold maxLen at hm
    have hz' : zs.length = c := by simpa using hz
    refine ⟨⟨some x, l, c⟩, zs.take l, rfl, ⟨by simp; omega, ?_⟩, ?_, by simp only; omega⟩
    · by_cases h0 : l = 0
      · left; subst h0; simp
      · right
        obtain ⟨b, off, spot⟩ := x
        have hc := hcell 0 (by omega)
        have hspot : spot = none := by simpa [Addr.add] using World.cell?_spot hc
        subst hspot
        refine ⟨b, off, rfl, World.block_lt_of_cell? W ⟨b, off + 0, none⟩ (by simpa [Addr.add] using hc), fun i hi => ?_⟩
        simp at hi
        have hi' := hcell i (by omega)
        have e : (zs.take l).getD i 0 = zs.getD i 0 := by rw [List.getD_eq_getElem?_getD, List.getD_eq_getElem?_getD, List.getElem?_take_of_lt (by omega)]
        rw [e]
        by_cases h1 : i = 0
        · subst h1; simpa [Addr.add] using hi'
        · simpa [Addr.add, h1] using hi'
    · intro i
      rw [List.getD_eq_getElem?_getD, List.getElem?_take]
      split
      · by_cases hi : i < zs.length
        · rw [List.getElem?_eq_getElem hi]
          exact bounds_i64 (hwz _ (List.getElem_mem hi))
        · rw [List.getElem?_eq_none (by omega)]; simp
      · simp
theorem open_intsArg {H : Type} {enc : TypeId × Value → H} {W : World} {base : Nat} {v : Value} {d : DataW H} {p : List MemPlace} (hv : Value.okWide Tryd.prog W .any base 23 v) (h : DataW.Trod enc Tryd.prog W 0 (fun _ => true) true 23 v d p) :
    ∃ (s : Sl) (zs : List Int), v = .slice s.a s.len s.cap ∧ IntsAt W s.a s.len zs ∧ Fit zs ∧ s.len ≤ 9223372036854775807 := by
  obtain ⟨a, len, cap, rfl⟩ := okWide_slice Tryd.underlying23 hv
  obtain ⟨fuel, hf⟩ := h
  exact ints_of (y := (d, p)) (n := fuel) (by simpa [Value.cells] using hf)
theorem cellsArm : Tryd.prog.cellsOf 40 = 3 := by kernel_rfl
theorem open_arm {H : Type} {enc : TypeId × Value → H} {W : World} {base : Nat} {v : Value} {d : DataW H} {p : List MemPlace} (hv : Value.okWide Tryd.prog W .any base 40 v) (h : DataW.Trod enc Tryd.prog W 0 (fun _ => true) true 40 v d p) :
    ∃ (x y z : Sl) (ls lo hi : List Int), v = av x y z ∧ IntsAt W x.a x.len ls ∧ IntsAt W y.a y.len lo ∧ IntsAt W z.a z.len hi ∧ Fit ls ∧ Fit lo ∧ Fit hi ∧ x.len ≤ 9223372036854775807 ∧ y.len ≤ 9223372036854775807 ∧ z.len ≤ 9223372036854775807 := by
  obtain ⟨c0, c1, c2, y0, y1, y2, n, rfl, rfl, rfl, h0, h1, h2⟩ := open_agg3 Tryd.underlying40 (by kernel_rfl) cellsArm hv h
  obtain ⟨x, ls, rfl, a1, a2, a3⟩ := ints_of h0
  obtain ⟨y, lo, rfl, b1, b2, b3⟩ := ints_of h1
  obtain ⟨z, hi, rfl, c1, c2, c3⟩ := ints_of h2
  exact ⟨x, y, z, ls, lo, hi, rfl, a1, b1, c1, a2, b2, c2, a3, b3, c3⟩
end Go.Proofs.YtkogoflcacameaaDoor
namespace Go.Proofs.YtkogoflcacameaaDoor
set_option maxRecDepth 100000
open Go.RowKit
attribute [local go_sem ↓] Go.wp_at_zero Go.wp_at_succ
theorem specArmValid (x y z : Sl) (ls lo hi : List Int) (w : World) (hx : IntsAt w x.a x.len ls) (hy : IntsAt w y.a y.len lo) (hz : IntsAt w z.a z.len hi) (bx : x.len ≤ 9223372036854775807) (b_y : y.len ≤ 9223372036854775807) (bz : z.len ≤ 9223372036854775807) :
    Calls Tryd.prog 56 #[av x y z] w fun e w' => e = .returned (.bool (decide (okArm ls lo hi))) ∧ Below w.heap.size w w' := by
  by_cases h : okArm ls lo hi
  · rw [decide_eq_true h]; exact specArmValidY x y z ls lo hi w hx hy hz h
  · rw [decide_eq_false h]; exact specArmValidN x y z ls lo hi w hx hy hz h bx b_y bz
theorem NewArm.ints {w : World} {B : Nat} {x y z : Sl} {ls lo hi : List Int} (h : NewArm w B x y z ls lo hi) : IntsAt w x.a x.len ls ∧ IntsAt w y.a y.len lo ∧ IntsAt w z.a z.len hi := ⟨h.ox.ints, h.oy.ints, h.oz.ints⟩
theorem keepA {w u : World} {b c : Nat} {x y z x2 y2 z2 : Value} (h : Below w.heap.size w u) (A : AtA w b x y z) (B : AtA w c x2 y2 z2) :
    u.cell? ⟨b, 0, none⟩ = some x ∧ u.cell? ⟨b, 1, none⟩ = some y ∧ u.cell? ⟨b, 2, none⟩ = some z ∧ u.cell? ⟨c, 0, none⟩ = some x2 ∧ u.cell? ⟨c, 1, none⟩ = some y2 ∧ u.cell? ⟨c, 2, none⟩ = some z2 :=
  ⟨(A.next h).c0, (A.next h).c1, (A.next h).c2, (B.next h).c0, (B.next h).c1, (B.next h).c2⟩
theorem toArmR (x y z : Sl) (ls lo hi : List Int) (w0 w : World) (hw : Below w0.heap.size w0 w) (hx : IntsAt w0 x.a x.len ls) (hy : IntsAt w0 y.a y.len lo) (hz : IntsAt w0 z.a z.len hi) (lx : x.len ≤ 1048576) (ly : y.len ≤ 1048576) (lz : z.len ≤ 1048576) :
    Calls Tryd.prog 14 #[av x y z] w fun e w' => ∃ x2 y2 z2 : Sl, e = .returned (av x2 y2 z2) ∧ IntsAt w' x2.a x2.len ls ∧ IntsAt w' y2.a y2.len lo ∧ IntsAt w' z2.a z2.len hi ∧ Below w0.heap.size w0 w' :=
  (toArm x y z ls lo hi w (hx.next hw) (hy.next hw) (hz.next hw) lx ly lz).mono fun _ _ ⟨x2, y2, z2, he, _, _, _, hN, hb⟩ => ⟨x2, y2, z2, he, hN.ints.1, hN.ints.2.1, hN.ints.2.2, below_call hw hb⟩
theorem eqArmR (x y z x2 y2 z2 : Sl) (ls lo hi : List Int) (w0 w : World) (hw : Below w0.heap.size w0 w) (hx : IntsAt w x.a x.len ls) (hy : IntsAt w y.a y.len lo) (hz : IntsAt w z.a z.len hi) (hx2 : IntsAt w x2.a x2.len ls) (hy2 : IntsAt w y2.a y2.len lo) (hz2 : IntsAt w z2.a z2.len hi)
    (bx : x.len ≤ 9223372036854775807) (b_y : y.len ≤ 9223372036854775807) (bz : z.len ≤ 9223372036854775807) :
    Calls Tryd.prog 17 #[av x y z, av x2 y2 z2] w fun e w' => e = .returned (.bool true) ∧ Below w0.heap.size w0 w' :=
  (eqArm x y z x2 y2 z2 ls lo hi w hx hy hz hx2 hy2 hz2 bx b_y bz).mono fun _ _ ⟨he, hb⟩ => ⟨he, below_call hw hb⟩
end Go.Proofs.YtkogoflcacameaaDoor
namespace Go.Proofs.YtkogoflcacameaaDoor
set_option maxRecDepth 100000
open Go.RowKit
attribute [local go_sem ↓] Go.wp_at_zero Go.wp_at_succ
theorem matchesY (a b : Option Addr) (n cap cap2 : Nat) (w : World) (h : 1 ≤ n) :
    Calls Tryd.prog 69 #[.slice a n cap, .slice b n cap2] w fun e w' => e = .returned (.bool true) ∧ w = w' := by
  have h0 : 0 < n := h
  have h2 : decide (0 < n) = true := decide_eq_true h
  have e0 : ((n : Int) == (n : Int)) = true := by simp
  go_enter Tryd.func69, Tryd.ntmps69
  go_wp2
  go_ret
  exact ⟨rfl, rfl⟩
theorem matchesN (a b : Option Addr) (n m cap cap2 : Nat) (w : World) (h : ¬ (1 ≤ n ∧ m = n)) :
    Calls Tryd.prog 69 #[.slice a n cap, .slice b m cap2] w fun e w' => e = .returned (.bool false) ∧ w = w' := by
  by_cases h0 : 1 ≤ n
  · have e0 : ((m : Int) == (n : Int)) = false := by simp; omega
    have h1 : 0 < n := h0
    have h2 : decide (0 < n) = true := decide_eq_true h0
    clear h
    go_enter Tryd.func69, Tryd.ntmps69
    go_wp2
    go_ret
    exact ⟨rfl, rfl⟩
  · obtain rfl : n = 0 := by omega
    clear h h0
    go_enter Tryd.func69, Tryd.ntmps69
    go_wp2
    go_ret
    exact ⟨rfl, rfl⟩
theorem linkAllowsRY (l o h d : Int) (w0 w : World) (hw : Below w0.heap.size w0 w) (hk : o ≤ d ∧ d ≤ h) :
    Calls Tryd.prog 70 #[lk l o h, .int .i64 d] w fun e w' => e = .returned (.bool true) ∧ Below w0.heap.size w0 w' :=
  (linkAllowsY l o h d w hk.1 hk.2).mono fun _ _ ⟨he, hb⟩ => ⟨he, below_call hw hb⟩
theorem linkAllowsRN (l o h d : Int) (w0 w : World) (hw : Below w0.heap.size w0 w) (hr : o ≤ h) (hk : ¬ (o ≤ d ∧ d ≤ h)) :
    Calls Tryd.prog 70 #[lk l o h, .int .i64 d] w fun e w' => e = .returned (.bool false) ∧ Below w0.heap.size w0 w' :=
  (linkAllowsN l o h d w hr hk).mono fun _ _ ⟨he, hb⟩ => ⟨he, below_call hw hb⟩
theorem keepL {w u : World} {b c o : Nat} {x y z d : Value} (h : Below w.heap.size w u) (hb : b < w.heap.size) (hc : c < w.heap.size) (h0 : w.cell? ⟨b, 0, none⟩ = some x) (h1 : w.cell? ⟨b, 1, none⟩ = some y) (h2 : w.cell? ⟨b, 2, none⟩ = some z) (h3 : w.cell? ⟨c, o, none⟩ = some d) :
    u.cell? ⟨b, 0, none⟩ = some x ∧ u.cell? ⟨b, 1, none⟩ = some y ∧ u.cell? ⟨b, 2, none⟩ = some z ∧ u.cell? ⟨c, o, none⟩ = some d :=
  ⟨(h.cell (p := ⟨b, 0, none⟩) hb).trans h0, (h.cell (p := ⟨b, 1, none⟩) hb).trans h1, (h.cell (p := ⟨b, 2, none⟩) hb).trans h2, (h.cell (p := ⟨c, o, none⟩) hc).trans h3⟩
set_option maxHeartbeats 1000000 in
theorem allows (b cap : Nat) (j : Sl) (ls lo hi js : List Int) (w : World) (hc : ChainAt w b ls.length ls lo hi) (hok : okArm ls lo hi) (hj : IntsAt w j.a j.len js) (bj : j.len ≤ 9223372036854775807) :
    Calls Tryd.prog 52 #[.slice (some ⟨b, 0, none⟩) ls.length cap, .slice j.a j.len j.cap] w fun e w' => e = .returned (.bool (decide (okJoints ls lo hi js))) ∧ Below w.heap.size w w' := by
  obtain ⟨ja, jl, jc⟩ := j
  simp only at *
  have m4 := hj.1
  obtain ⟨n1, n2, n3, n4, n5⟩ := id hok
  by_cases hl : jl = ls.length
  · obtain ⟨b4, o4, rfl, lt4, c4⟩ := hj.some (by omega)
    have HK := Lib.hid (fun k (h : k < ls.length) => (n5 k h).2.2.2.2.1)
    have HC := Lib.hid hc
    have HC4 := Lib.hid (fun k (h : k < ls.length) => c4 k (by rw [hl]; exact h))
    have HL := Lib.hid (show js.length = ls.length by omega)
    have HOK := Lib.hid hok
    have lt5 := hc.lt
    generalize hn : ls.length = n at *
    subst hl
    replace hn := Lib.hid hn
    clear m4 n3 n4 n5 hok hc c4 hj bj
    go_enter Tryd.func52, Tryd.ntmps52
    go_wp2_with fail
    refine (matchesY _ _ jl _ _ _ n1).mono ?_
    rintro e w' ⟨rfl, rfl⟩
    go_wp2
    go_loopw [13] (fun i wr => ∃ k : Nat, k ≤ jl ∧ i = .int .i64 (k : Int) ∧ Hid (∀ j, j < k → lo.getD j 0 ≤ js.getD j 0 ∧ js.getD j 0 ≤ hi.getD j 0) ∧ Hid (Below w.heap.size w wr)) (fun i _ => jl - (intOf i).toNat)
    case atStart => exact ⟨0, Nat.zero_le _, rfl, Lib.hid (fun j hj => absurd hj (by omega)), Lib.hid (Below.refl _ _)⟩
    case round =>
      obtain ⟨k, hk, rfl, HJ, HW⟩ := hrel
      by_cases hlt : k < jl
      · obtain ⟨d1, d2, d3⟩ := (HC.out.next HW.out).c k hlt
        have d4 : wr.cell? ⟨b4, o4 + k, none⟩ = _ := (HW.out.cell (p := ⟨b4, o4 + k, none⟩) lt4).trans (HC4.out k hlt)
        have j1 : (0 : Int) ≤ (k : Int) := by omega
        have j2 : (k : Int) < (jl : Int) := by omega
        have hr := HK.out k hlt
        have HIN := Lib.hid (fun (hin : lo.getD k 0 ≤ js.getD k 0 ∧ js.getD k 0 ≤ hi.getD k 0) j (hj : j < k + 1) => show lo.getD j 0 ≤ js.getD j 0 ∧ js.getD j 0 ≤ hi.getD j 0 from if hjk : j < k then HJ.out j hjk else by rw [show j = k by omega]; exact hin)
        have HNI := Lib.hid (fun (hin : ¬ (lo.getD k 0 ≤ js.getD k 0 ∧ js.getD k 0 ≤ hi.getD k 0)) => show ¬ okJoints ls lo hi js from fun ho => hin (ho.2.2 k (by rw [HL.out]; exact hlt)))
        generalize ls.getD k 0 = l at *
        generalize lo.getD k 0 = o at *
        generalize hi.getD k 0 = h at *
        generalize js.getD k 0 = d at *
        have HX := Lib.hid (below_call HW.out (below_box wr (.cells #[.int .i64 l, .int .i64 o, .int .i64 h] 84)))
        obtain ⟨x0, x1, x2, x3, _, _, _⟩ := AtA.box wr (.int .i64 l) (.int .i64 o) (.int .i64 h) 84
        have d5 : (wr.alloc (.cells #[.int .i64 l, .int .i64 o, .int .i64 h] 84)).cell? ⟨b4, o4 + k, none⟩ = _ := ((below_box wr _).cell (p := ⟨b4, o4 + k, none⟩) (Nat.lt_of_lt_of_le lt4 HW.out.size)).trans d4
        have lt6 : b4 < (wr.alloc (.cells #[.int .i64 l, .int .i64 o, .int .i64 h] 84)).heap.size := Nat.lt_of_lt_of_le lt4 HX.out.size
        by_cases hin : o ≤ d ∧ d ≤ h
        · go_wp2
          generalize wr.alloc (.cells #[.int .i64 l, .int .i64 o, .int .i64 h] 84) = wb at *
          have g0 : Below wb.heap.size wb wb := Below.refl _ _
          go_region_held3 (fun u => u.cell? ⟨wr.heap.size, 0, none⟩ = some (.int .i64 l) ∧ u.cell? ⟨wr.heap.size, 1, none⟩ = some (.int .i64 o) ∧ u.cell? ⟨wr.heap.size, 2, none⟩ = some (.int .i64 h) ∧ u.cell? ⟨b4, o4 + k, none⟩ = some (.int .i64 d)) (exact keepL (by repeat (first | (with_reducible assumption) | (with_reducible apply Below.drew))) x0 lt6 x1 x2 x3 d5) (first
            | (go_at_call 70
               refine (linkAllowsRY l o h d wb _ (by repeat (first | (with_reducible assumption) | (with_reducible apply Below.drew))) hin).mono ?_
               rintro e w2 ⟨rfl, K2⟩))
          have HW2 := Lib.hid (below_call HX.out K2)
          go_wp2
          go_roundw
          case rel => exact ⟨k + 1, by omega, by congr 1, Lib.hid (HIN.out hin), HW2⟩
          case measure => simp [intOf]; omega
        · have HD := Lib.hid (decide_eq_false (HNI.out hin))
          have HH := Lib.hid hin
          clear hin
          go_wp2
          generalize wr.alloc (.cells #[.int .i64 l, .int .i64 o, .int .i64 h] 84) = wb at *
          have g0 : Below wb.heap.size wb wb := Below.refl _ _
          go_region_held3 (fun u => u.cell? ⟨wr.heap.size, 0, none⟩ = some (.int .i64 l) ∧ u.cell? ⟨wr.heap.size, 1, none⟩ = some (.int .i64 o) ∧ u.cell? ⟨wr.heap.size, 2, none⟩ = some (.int .i64 h) ∧ u.cell? ⟨b4, o4 + k, none⟩ = some (.int .i64 d)) (exact keepL (by repeat (first | (with_reducible assumption) | (with_reducible apply Below.drew))) x0 lt6 x1 x2 x3 d5) (first
            | (go_at_call 70
               refine (linkAllowsRN l o h d wb _ (by repeat (first | (with_reducible assumption) | (with_reducible apply Below.drew))) hr HH.out).mono ?_
               rintro e w2 ⟨rfl, K2⟩))
          have HW2 := Lib.hid (below_call HX.out K2)
          go_wp2
          go_ret
          exact ⟨ret_bool HD.out.symm, HW2.out⟩
      · obtain rfl : k = jl := by omega
        have HD := Lib.hid (decide_eq_true (show okJoints ls lo hi js from ⟨HOK.out, by rw [HL.out, hn.out], fun j hj => HJ.out j (by rw [← HL.out]; exact hj)⟩))
        go_wp2
        go_ret
        exact ⟨ret_bool HD.out.symm, HW.out⟩
  · have HD := Lib.hid (decide_eq_false (show ¬ okJoints ls lo hi js from fun ho => hl (by rw [m4]; exact ho.2.1)))
    have HH := Lib.hid (show ¬ (1 ≤ ls.length ∧ jl = ls.length) from fun h => hl h.2)
    clear hl m4 n1 n2 n3 n4 n5 hok hc hj
    go_enter Tryd.func52, Tryd.ntmps52
    go_wp2_with fail
    refine (matchesN _ _ _ _ _ _ _ HH.out).mono ?_
    rintro e w' ⟨rfl, rfl⟩
    go_wp2
    go_ret
    exact ⟨ret_bool HD.out.symm, Below.refl _ _⟩
theorem allowsNil (j : Sl) (w : World) :
    Calls Tryd.prog 52 #[.slice none 0 0, .slice j.a j.len j.cap] w fun e w' => e = .returned (.bool false) ∧ w = w' := by
  go_enter Tryd.func52, Tryd.ntmps52
  go_wp2_with fail
  refine (matchesN _ _ _ _ _ _ _ (by omega)).mono ?_
  rintro e w' ⟨rfl, rfl⟩
  go_wp2
  go_ret
  exact ⟨rfl, rfl⟩
end Go.Proofs.YtkogoflcacameaaDoor
namespace Go.Proofs.YtkogoflcacameaaDoor
set_option maxRecDepth 100000
open Go.RowKit
attribute [local go_sem ↓] Go.wp_at_zero Go.wp_at_succ
/-- What ReachOf returns. -/
def reachV (ls lo hi : List Int) : Value := if okArm ls lo hi then .tuple #[.int .i64 (farV ls), .int .i64 (nearV ls)] else .tuple #[.int .i64 0, .int .i64 0]
theorem reachV_in {ls lo hi : List Int} (h : okArm ls lo hi) : reachV ls lo hi = .tuple #[.int .i64 (farV ls), .int .i64 (nearV ls)] := by unfold reachV; rw [if_pos h]
theorem reachV_out {ls lo hi : List Int} (h : ¬ okArm ls lo hi) : reachV ls lo hi = .tuple #[.int .i64 0, .int .i64 0] := by unfold reachV; rw [if_neg h]
/-- The clamped angles of an arm: none where they can't be. -/
def clampV (ls lo hi js : List Int) : List Int := if okArm ls lo hi ∧ js.length = ls.length then clampL lo hi js else []
theorem clampV_in {ls lo hi js : List Int} (h : okArm ls lo hi ∧ js.length = ls.length) : clampV ls lo hi js = clampL lo hi js := by unfold clampV; rw [if_pos h]
theorem clampV_out {ls lo hi js : List Int} (h : ¬ (okArm ls lo hi ∧ js.length = ls.length)) : clampV ls lo hi js = [] := by unfold clampV; rw [if_neg h]
/-- What clamping says: a row of the call's own. -/
def Clamped (ls lo hi js : List Int) (w : World) (e : Ending) (w' : World) : Prop :=
  ∃ s : Sl, e = .returned (.slice s.a s.len s.cap) ∧ OwnI w' w.heap.size (.slice s.a s.len s.cap) (clampV ls lo hi js) ∧ s.len = (clampV ls lo hi js).length ∧ Below w.heap.size w w'
theorem OwnI.sl {w : World} {B : Nat} {v : Value} {zs : List Int} (h : OwnI w B v zs) : ∃ s : Sl, v = .slice s.a s.len s.cap ∧ s.len = zs.length := by
  rcases h.2 with ⟨hv, hn⟩ | ⟨g, c, cur, hv, _⟩
  · exact ⟨⟨none, 0, 0⟩, hv, hn.symm⟩
  · exact ⟨⟨some ⟨g, 0, none⟩, zs.length, c⟩, hv, rfl⟩
end Go.Proofs.YtkogoflcacameaaDoor
namespace Go.Proofs.YtkogoflcacameaaDoor
set_option maxRecDepth 100000
open Go.RowKit
theorem OwnI.same {w w' : World} {B n cap : Nat} {a : Option Addr} {zs : List Int} (h : OwnI w B (.slice a n cap) zs) (hb : ∀ g, (Value.slice a n cap).ownBlock = some g → w'.heap[g]? = w.heap[g]?) : OwnI w' B (.slice a n cap) zs := by
  refine ⟨h.1, ?_⟩
  rcases h.2 with h2 | ⟨g, c, cur, hv, hb', hg, rest⟩
  · exact .inl h2
  · exact .inr ⟨g, c, cur, hv, hb', by rw [hb g (by rw [hv]; rfl)]; exact hg, rest⟩
theorem NewArm.apart {w : World} {B c : Nat} {x y z : Sl} {ls lo hi : List Int} (h : NewArm w B x y z ls lo hi) (hc : w.heap.size ≤ c) : ∀ g, (x.a = some ⟨g, 0, none⟩ ∨ y.a = some ⟨g, 0, none⟩ ∨ z.a = some ⟨g, 0, none⟩) → c ≠ g := by
  obtain ⟨g, h1, h2, h3, h4, h5, k3, h6, h7, h8⟩ := h.bx
  rintro q (hq | hq | hq)
  · rw [h1] at hq; simp at hq; omega
  · rw [h4] at hq; simp at hq; omega
  · rw [h6] at hq; simp at hq; omega
theorem clampV_len (ls lo hi js : List Int) : (clampV ls lo hi js).length ≤ 4 := by
  unfold clampV
  split
  · rename_i h; rw [clampL_len, h.2]; exact h.1.2.1
  · simp
theorem ownBlock_some {a : Option Addr} {n cap g : Nat} (h : (Value.slice a n cap).ownBlock = some g) : ∃ x : Addr, a = some x ∧ x.block = g := by
  cases a with
  | none => simp [Value.ownBlock] at h
  | some x => exact ⟨x, rfl, by simpa [Value.ownBlock] using h⟩
end Go.Proofs.YtkogoflcacameaaDoor
