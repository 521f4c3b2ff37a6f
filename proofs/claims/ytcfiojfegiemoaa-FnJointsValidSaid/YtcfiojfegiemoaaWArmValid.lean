/- The walk of the law FnArmValid: it returns true at every code. -/
import Derived.Test.YtcfiojfegiemoaaDraw3
import Derived.Test.YtcfiojfegiemoaaChain3
import Derived.Outline
namespace Go.Proofs.Ytcfiojfegiemoaa
open Go.RowKit
attribute [local go_sem ↓] Go.wp_at_zero Go.wp_at_succ
/-- A slice without its first number. -/
theorem IntsAt.tail {w : World} {b off len : Nat} {zs : List Int} (h : IntsAt w (Option.some ⟨b, off, none⟩) len zs) (hl : 1 ≤ len) (a : Option Addr) (ha : len = 1 ∨ a = Option.some ⟨b, off + 1, none⟩) : IntsAt w a (len - 1) zs.tail := by
  have e := h.1
  refine ⟨by simp; omega, ?_⟩
  rcases ha with h1 | rfl
  · left
    apply List.eq_nil_of_length_eq_zero
    simp; omega
  · rcases h.2 with h2 | ⟨b', off', h3, h4, h5⟩
    · rw [h2] at e; simp at e; omega
    · simp at h3
      obtain ⟨rfl, rfl⟩ := h3
      refine .inr ⟨b, off + 1, rfl, h4, fun i hi => ?_⟩
      simp at hi
      rw [show off + 1 + i = off + (i + 1) by omega, h5 (i + 1) (by omega), List.getD_eq_getElem?_getD, List.getD_eq_getElem?_getD, List.getElem?_tail]
theorem noHigh {ls lo hi : List Int} (h : okArm ls lo hi) : ¬ okArm ls lo hi.tail := fun k => by
  have h1 := h.1
  have h2 := h.2.2.2.1
  have h3 := k.2.2.2.1
  simp at h3
  omega
theorem noLink {ls' lo hi : List Int} (h : ls'.getD 0 0 = 0) : ¬ okArm ls' lo hi := fun k => by
  have h1 := (k.2.2.2.2 0 (by have := k.1; omega)).1
  omega
theorem ints_news {w : World} {b off n : Nat} {zs : List Int} (h : IntsAt w (some ⟨b, off, none⟩) n zs) : ∀ j u, (vals zs)[j]? = some u → w.cell? ((⟨b, off, none⟩ : Addr).add j) = some u := by
  intro j u hu
  have hj : j < zs.length := by have := (List.getElem?_eq_some_iff.1 hu).1; simpa [vals] using this
  rcases h.2 with h2 | ⟨b', off', h3, h4, h5⟩
  · rw [h2] at hj; simp at hj
  · simp at h3
    obtain ⟨rfl, rfl⟩ := h3
    have e : (⟨b, off, none⟩ : Addr).add j = ⟨b, off + j, none⟩ := by unfold Addr.add; split <;> simp_all
    rw [e, h5 j hj]
    rw [vals, List.getElem?_map, List.getElem?_eq_getElem hj] at hu
    simp at hu
    rw [← hu, List.getD_eq_getElem?_getD, List.getElem?_eq_getElem hj]
    rfl
theorem vals_one (zs : List Int) : ∀ u ∈ vals zs, u.oneCell' = true := by
  intro u hu
  obtain ⟨z, _, rfl⟩ := List.mem_map.1 hu
  rfl
theorem ints_off {w : World} {b off n c o : Nat} {zs : List Int} {v : Value} (h : IntsAt w (some ⟨b, off, none⟩) n zs) (hc : c ≠ b) : IntsAt (w.setCell ⟨c, o, none⟩ v) (some ⟨b, off, none⟩) n zs := by
  refine ⟨h.1, h.2.imp id fun ⟨b', off', h3, h4, h5⟩ => ⟨b', off', h3, by simpa [World.setCell] using h4, fun i hi => ?_⟩⟩
  simp at h3
  obtain ⟨rfl, rfl⟩ := h3
  exact (World.cell?_setCell_far _ _ _ _ hc).trans (h5 i hi)
set_option maxHeartbeats 2000000 in
theorem walkFnArmValid (w : World) (a : Option Addr) (len cap : Nat) (zs : List Int) (h : Bytes w a len cap zs) :
    Calls Try.prog 3 #[.slice a len cap] w fun e w' => e = .returned (.bool true) ∧ Below w.heap.size w w' := by
  obtain ⟨i0, hi0, hz0, hz1, hz2⟩ := info_parts infoInt
  have hle := h.len_le
  obtain ⟨hl, hm⟩ := hle
  unfold maxLen at hm
  by_cases hlen : len ≤ 1048576
  · go_enter Try.func3, Try.ntmps3
    go_wp2_with fail
    refine (drawArmValid w a len cap zs h).mono ?_
    rintro e w1 ⟨⟨xa, xl, xc⟩, ⟨ya, yl, yc⟩, ⟨za, zl, zc⟩, ls, lo, hi, rfl, i1, i2, i3, lx, ly, lz, kx, ky, kz, _, _, _, B1⟩
    simp only at i1 i2 i3 lx ly lz kx ky kz
    have P := AtA.box w1 (.slice xa xl xc) (.slice ya yl yc) (.slice za zl zc) 25
    have Bx := below_box w1 (.cells #[.slice xa xl xc, .slice ya yl yc, .slice za zl zc] 25)
    replace i1 := i1.next Bx
    replace i2 := i2.next Bx
    replace i3 := i3.next Bx
    have HB := Lib.hid (below_call B1 Bx)
    clear B1 Bx h
    by_cases hok : okArm ls lo hi
    · go_wp2_with fail
      refine (implArmValid ⟨xa, xl, xc⟩ ⟨ya, yl, yc⟩ ⟨za, zl, zc⟩ ls lo hi _ i1 i2 i3 (by simp only; omega) (by simp only; omega) (by simp only; omega)).mono ?_
      generalize w1.alloc (.cells #[.slice xa xl xc, .slice ya yl yc, .slice za zl zc] 25) = w2 at *
      rw [decide_eq_true hok]
      rintro e w3 ⟨rfl, B3⟩
      replace i1 := i1.next B3
      replace i2 := i2.next B3
      replace i3 := i3.next B3
      replace P := P.next B3
      replace HB := Lib.hid (below_call HB.out B3)
      obtain ⟨_, p1, p2, p3, _, _, _⟩ := id P
      clear B3
      go_wp2_with fail
      refine (specArmValidY ⟨xa, xl, xc⟩ ⟨ya, yl, yc⟩ ⟨za, zl, zc⟩ ls lo hi _ i1 i2 i3 hok).mono ?_
      rintro e w4 ⟨rfl, B4⟩
      replace i1 := i1.next B4
      replace i2 := i2.next B4
      replace i3 := i3.next B4
      replace P := P.next B4
      replace HB := Lib.hid (below_call HB.out B4)
      clear B4 p1 p2 p3
      obtain ⟨_, p1, p2, p3, _, _, _⟩ := id P
      have m1 := i1.1
      have m3 := i3.1
      have n1 : 1 ≤ xl := by rw [m1]; exact hok.1
      have n3 : 1 ≤ zl := by rw [m3, hok.2.2.2.1]; exact hok.1
      obtain ⟨b1, o1, rfl, lt1, _⟩ := i1.some n1
      obtain ⟨b3, o3, rfl, lt3, _⟩ := i3.some n3
      have HI := Lib.hid (And.intro i1 (And.intro i2 i3))
      have HOK := Lib.hid hok
      have HM := Lib.hid m1
      clear i1 i2 i3 hok m1 m3
      obtain ⟨az, haz⟩ : ∃ az : Option Addr, (if zc = 1 then some ⟨b3, o3, none⟩ else some ⟨b3, o3 + 1, none⟩) = az := ⟨_, rfl⟩
      have HZA := Lib.hid (show zl = 1 ∨ az = some ⟨b3, o3 + 1, none⟩ by
        rw [← haz]
        by_cases hc : zc = 1
        · left; omega
        · right; rw [if_neg hc])
      go_upto_region 12 with fail
      have Bb := below_box2 w4 (.cells #[(.slice (some ⟨b1, o1, none⟩) xl xc), (.slice ya yl yc), (.slice az (zl - 1) (zc - 1))] 25) (.cells #[(.slice (some ⟨b1, o1, none⟩) xl xc), (.slice ya yl yc), (.slice (some ⟨b3, o3, none⟩) zl zc)] 25)
      have Pb := (AtA.box w4 (.slice (some ⟨b1, o1, none⟩) xl xc) (.slice ya yl yc) (.slice az (zl - 1) (zc - 1)) 25).alloc (.cells #[(.slice (some ⟨b1, o1, none⟩) xl xc), (.slice ya yl yc), (.slice (some ⟨b3, o3, none⟩) zl zc)] 25)
      have Pc := AtA.box (w4.alloc (.cells #[(.slice (some ⟨b1, o1, none⟩) xl xc), (.slice ya yl yc), (.slice az (zl - 1) (zc - 1))] 25)) (.slice (some ⟨b1, o1, none⟩) xl xc) (.slice ya yl yc) (.slice (some ⟨b3, o3, none⟩) zl zc) 25
      rw [show (w4.alloc (.cells #[(.slice (some ⟨b1, o1, none⟩) xl xc), (.slice ya yl yc), (.slice az (zl - 1) (zc - 1))] 25)).heap.size = w4.heap.size + 1 by simp] at Pc
      have Pa := P.next Bb
      have SU := Lib.hid (show ((w4.alloc (.cells #[(.slice (some ⟨b1, o1, none⟩) xl xc), (.slice ya yl yc), (.slice az (zl - 1) (zc - 1))] 25)).alloc (.cells #[(.slice (some ⟨b1, o1, none⟩) xl xc), (.slice ya yl yc), (.slice (some ⟨b3, o3, none⟩) zl zc)] 25)).heap.size = w4.heap.size + 1 + 1 by simp)
      clear haz p1 p2 p3 P
      generalize (w4.alloc (.cells #[(.slice (some ⟨b1, o1, none⟩) xl xc), (.slice ya yl yc), (.slice az (zl - 1) (zc - 1))] 25)).alloc (.cells #[(.slice (some ⟨b1, o1, none⟩) xl xc), (.slice ya yl yc), (.slice (some ⟨b3, o3, none⟩) zl zc)] 25) = u at *
      have O : (u.alloc (.cells #[.int .i64 0] 3)).ownsRow u.heap.size 3 1 (.slice (some ⟨u.heap.size, 0, none⟩) 1 1) 1 [.int .i64 0] := by
        have := World.ownsRow_lit (base := u.heap.size) (e := 3) (size := 1) u #[.int .i64 0] 1 (Nat.le_refl _) (by unfold maxLen; omega) rfl
        simpa using this
      have HO := Lib.hid O
      have Bl := below_box u (.cells #[.int .i64 0] 3)
      have HBl := Lib.hid (below_call Bb Bl)
      have HPs := Lib.hid (And.intro (Pb.next Bl) (Pc.next Bl))
      have HH := Lib.hid Bl.size
      obtain ⟨_, p1, p2, p3, _, _, _⟩ := id Pa
      have SX : ∀ b, b < w4.heap.size + 1 + 1 → ¬ u.heap.size = b := fun b hb e => by rw [SU.out] at e; omega
      have HSX := Lib.hid SX
      clear O Pb Pc Pa Bb Bl SX
      by_cases k1 : xl = 1
      · subst k1
        obtain ⟨ax, hax⟩ : ∃ ax : Addr, (if xc = 1 then some ⟨b1, o1, none⟩ else some ⟨b1, o1 + 1, none⟩) = some ax := by split <;> exact ⟨_, rfl⟩
        go_upto_region 13 with (at_builtin; refine wpList_append_fits _ rfl (.tmp 27) (.tmp 30) 23 rfl u.heap.size 3 i0 1 Try.underlying23 hi0 hz1 u.heap.size 1 1 [.int .i64 0] rfl HO.out ax 0 (xc - 1) [] rfl rfl (by intro j v hv; simp at hv) (by intro v hv; simp at hv) (by omega) ?_; intro w6 own6 grow6; have HA6 := Lib.hid (And.intro own6 grow6); have HC6 := Lib.hid (HPs.out.2.kept grow6 (by simp; have := SU.out; omega)); obtain ⟨_, f0, f1, f2, z0, z1, z2⟩ := id HC6.out; clear own6 grow6)
        have HL : Hid (IntsAt w6 (some ⟨u.heap.size, 0, none⟩) 1 (0 :: ls.tail)) := Lib.hid (by
          have e : ls.tail = [] := List.eq_nil_of_length_eq_zero (by simp; rw [← HM.out])
          rw [e]
          have h : OwnI w6 u.heap.size (.slice (some ⟨u.heap.size, 0, none⟩) 1 1) [0] := HA6.out.1
          exact h.ints)
        have HB6 : Hid (Below w4.heap.size w4 w6) := Lib.hid (HBl.out.grown HA6.out.2 HBl.out.size (fun q hq => by simp at hq; have := SU.out; omega))
        have Pb := (HPs.out.1.kept HA6.out.2 (by simp; have := SU.out; omega)).far (c := w4.heap.size + 1) (o := 0) (by omega) (.slice (some ⟨u.heap.size, 0, none⟩) 1 1)
        have Pc := HC6.out.put0 (.slice (some ⟨u.heap.size, 0, none⟩) 1 1)
        have Bs := Lib.hid (HB6.out.setCell (p := ⟨w4.heap.size + 1, 0, none⟩) (by show w4.heap.size ≤ w4.heap.size + 1; omega) (.slice (some ⟨u.heap.size, 0, none⟩) 1 1))
        have HLs := Lib.hid (ints_off HL.out (c := w4.heap.size + 1) (o := 0) (v := (.slice (some ⟨u.heap.size, 0, none⟩) 1 1)) (by have := SU.out; omega))
        generalize w6.setCell ⟨w4.heap.size + 1, 0, none⟩ (.slice (some ⟨u.heap.size, 0, none⟩) 1 1) = w7 at *
        have I1 := HI.out.1.next Bs.out
        have I2 := HI.out.2.1.next Bs.out
        have I3 := HI.out.2.2.next Bs.out
        have I4 := I3.tail n3 az HZA.out
        have NB := noHigh HOK.out
        have NC := noLink (ls' := 0 :: ls.tail) (lo := lo) (hi := hi) rfl
        have HBs := Lib.hid (below_call HB.out Bs.out)
        clear f0 f1 f2 z0 z1 z2 p1 p2 p3 Bs HPs HC6 HB6 HA6 HL HZA HSX hax
        obtain ⟨_, p1, p2, p3, _, _, _⟩ := id Pb
        go_wp2_with fail
        refine (implArmValid ⟨some ⟨b1, o1, none⟩, 1, xc⟩ ⟨ya, yl, yc⟩ ⟨az, zl - 1, zc - 1⟩ ls lo hi.tail _ I1 I2 I4 (by simp only; omega) (by simp only; omega) (by simp only; omega)).mono ?_
        rw [decide_eq_false NB]
        rintro e w8 ⟨rfl, B8⟩
        replace Pc := Pc.next B8
        replace HBs := Lib.hid (below_call HBs.out B8)
        have J1 := HLs.out.next B8
        have J2 := I2.next B8
        have J3 := I3.next B8
        clear p1 p2 p3 B8 I1 I2 I3 I4 HLs
        obtain ⟨_, p1, p2, p3, _, _, _⟩ := id Pc
        go_wp2_with fail
        refine (implArmValid ⟨some ⟨u.heap.size, 0, none⟩, 1, 1⟩ ⟨ya, yl, yc⟩ ⟨some ⟨b3, o3, none⟩, zl, zc⟩ (0 :: ls.tail) lo hi _ J1 J2 J3 (by simp only; omega) (by simp only; omega) (by simp only; omega)).mono ?_
        rw [decide_eq_false NC]
        rintro e w9 ⟨rfl, B9⟩
        replace HBs := Lib.hid (below_call HBs.out B9)
        clear p1 p2 p3 B9 J1 J2 J3 NB NC
        go_wp2
        go_ret
        exact ⟨rfl, HBs.out⟩
      · have k2 : 2 ≤ xl := by omega
        have hax : (if xc = 1 then some ⟨b1, o1, none⟩ else some ⟨b1, o1 + 1, none⟩) = some (⟨b1, o1 + 1, none⟩ : Addr) := if_neg (by omega)
        have HN := Lib.hid (ints_news ((HI.out.1.tail n1 (some ⟨b1, o1 + 1, none⟩) (.inr rfl)).next HBl.out))
        have HNL := Lib.hid (show (vals ls.tail).length = (xl - 1) * 1 by simp [vals]; rw [← HM.out])
        go_upto_region 13 with (at_builtin; refine wpList_append_lies _ rfl (.tmp 27) (.tmp 30) 23 rfl u.heap.size 3 i0 (.int .i64 0) 1 8 Try.underlying23 hi0 hz0 hz1 hz2 rfl (by decide) (.slice (some ⟨u.heap.size, 0, none⟩) 1 1) 1 [.int .i64 0] rfl HO.out ⟨b1, o1 + 1, none⟩ (xl - 1) (xc - 1) (vals ls.tail) rfl HNL.out HN.out (vals_one _) (by omega) (by unfold maxLen; omega) (by omega) HH.out _ rfl ?_; intro g cap6 w6 own6 grow6 at6 ltg6; have HA6 := Lib.hid (And.intro own6 grow6); have HC6 := Lib.hid (HPs.out.2.kept grow6 (by simp [Value.ownBlock]; have := SU.out; omega)); obtain ⟨_, f0, f1, f2, z0, z1, z2⟩ := id HC6.out; clear own6 grow6 at6 ltg6)
        have HL : Hid (IntsAt w6 (some ⟨g, 0, none⟩) xl (0 :: ls.tail)) := Lib.hid (by
          have e : (0 :: ls.tail : List Int).length = xl := by simp; have := HM.out; omega
          have o := HA6.out.1
          rw [show 1 + (xl - 1) = xl by omega] at o
          have h : OwnI w6 u.heap.size (.slice (some ⟨g, 0, none⟩) xl cap6) (0 :: ls.tail) := by unfold OwnI; rw [e]; exact o
          exact h.ints)
        have HB6 : Hid (Below w4.heap.size w4 w6) := Lib.hid (HBl.out.grown HA6.out.2 HBl.out.size (fun q hq => by simp [Value.ownBlock] at hq; have := SU.out; omega))
        have Pb := (HPs.out.1.kept HA6.out.2 (by simp [Value.ownBlock]; have := SU.out; omega)).far (c := w4.heap.size + 1) (o := 0) (by omega) (.slice (some ⟨g, 0, none⟩) xl cap6)
        have Pc := HC6.out.put0 (.slice (some ⟨g, 0, none⟩) xl cap6)
        have Bs := Lib.hid (HB6.out.setCell (p := ⟨w4.heap.size + 1, 0, none⟩) (by show w4.heap.size ≤ w4.heap.size + 1; omega) (.slice (some ⟨g, 0, none⟩) xl cap6))
        have HLs := Lib.hid (ints_off HL.out (c := w4.heap.size + 1) (o := 0) (v := (.slice (some ⟨g, 0, none⟩) xl cap6)) (by have := (HA6.out.1.lt g rfl).1; have := SU.out; omega))
        generalize w6.setCell ⟨w4.heap.size + 1, 0, none⟩ (.slice (some ⟨g, 0, none⟩) xl cap6) = w7 at *
        have I1 := HI.out.1.next Bs.out
        have I2 := HI.out.2.1.next Bs.out
        have I3 := HI.out.2.2.next Bs.out
        have I4 := I3.tail n3 az HZA.out
        have NB := noHigh HOK.out
        have NC := noLink (ls' := 0 :: ls.tail) (lo := lo) (hi := hi) rfl
        have HBs := Lib.hid (below_call HB.out Bs.out)
        clear f0 f1 f2 z0 z1 z2 p1 p2 p3 Bs HPs HC6 HB6 HA6 HL HZA HSX hax
        obtain ⟨_, p1, p2, p3, _, _, _⟩ := id Pb
        go_wp2_with fail
        refine (implArmValid ⟨some ⟨b1, o1, none⟩, xl, xc⟩ ⟨ya, yl, yc⟩ ⟨az, zl - 1, zc - 1⟩ ls lo hi.tail _ I1 I2 I4 (by simp only; omega) (by simp only; omega) (by simp only; omega)).mono ?_
        rw [decide_eq_false NB]
        rintro e w8 ⟨rfl, B8⟩
        replace Pc := Pc.next B8
        replace HBs := Lib.hid (below_call HBs.out B8)
        have J1 := HLs.out.next B8
        have J2 := I2.next B8
        have J3 := I3.next B8
        clear p1 p2 p3 B8 I1 I2 I3 I4 HLs
        obtain ⟨_, p1, p2, p3, _, _, _⟩ := id Pc
        go_wp2_with fail
        refine (implArmValid ⟨some ⟨g, 0, none⟩, xl, cap6⟩ ⟨ya, yl, yc⟩ ⟨some ⟨b3, o3, none⟩, zl, zc⟩ (0 :: ls.tail) lo hi _ J1 J2 J3 (by simp only; omega) (by simp only; omega) (by simp only; omega)).mono ?_
        rw [decide_eq_false NC]
        rintro e w9 ⟨rfl, B9⟩
        replace HBs := Lib.hid (below_call HBs.out B9)
        clear p1 p2 p3 B9 J1 J2 J3 NB NC
        go_wp2
        go_ret
        exact ⟨rfl, HBs.out⟩
    · go_wp2_with fail
      refine (implArmValid ⟨xa, xl, xc⟩ ⟨ya, yl, yc⟩ ⟨za, zl, zc⟩ ls lo hi _ i1 i2 i3 (by simp only; omega) (by simp only; omega) (by simp only; omega)).mono ?_
      generalize w1.alloc (.cells #[.slice xa xl xc, .slice ya yl yc, .slice za zl zc] 25) = w2 at *
      rw [decide_eq_false hok]
      rintro e w3 ⟨rfl, B3⟩
      replace i1 := i1.next B3
      replace i2 := i2.next B3
      replace i3 := i3.next B3
      replace P := P.next B3
      replace HB := Lib.hid (below_call HB.out B3)
      obtain ⟨_, p1, p2, p3, _, _, _⟩ := id P
      clear B3
      go_wp2_with fail
      refine (specArmValidN ⟨xa, xl, xc⟩ ⟨ya, yl, yc⟩ ⟨za, zl, zc⟩ ls lo hi _ i1 i2 i3 hok (by simp only; omega) (by simp only; omega) (by simp only; omega)).mono ?_
      rintro e w4 ⟨rfl, B4⟩
      replace HB := Lib.hid (below_call HB.out B4)
      clear B4 p1 p2 p3 i1 i2 i3 hok P
      go_wp2_with fail
      refine (alive _).mono ?_
      rintro e w' ⟨rfl, rfl⟩
      go_wp2
      go_ret
      exact ⟨rfl, HB.out⟩
  · clear h
    go_enter Try.func3, Try.ntmps3
    go_wp2
    go_ret
    exact ⟨rfl, Below.refl _ _⟩
end Go.Proofs.Ytcfiojfegiemoaa
