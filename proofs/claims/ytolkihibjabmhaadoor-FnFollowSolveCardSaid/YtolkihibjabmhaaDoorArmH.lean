/- Arms as values: three slices of whole numbers; the contracts of the laws' own helpers over them. -/
import Derived.Test.YtolkihibjabmhaaDoorInts
namespace Go.Proofs.YtolkihibjabmhaaDoor
set_option maxRecDepth 100000
open Go.RowKit

/-- A slice. -/
structure Sl where
  a : Option Addr
  len : Nat
  cap : Nat
/-- An arm's value. -/
abbrev av (x y z : Sl) : Value := .agg #[.slice x.a x.len x.cap, .slice y.a y.len y.cap, .slice z.a z.len z.cap]
/-- An arm lies in block b, of the call's own. -/
structure AtA (w : World) (b : Nat) (x y z : Value) : Prop where
  lt : b < w.heap.size
  c0 : w.cell? ⟨b, 0, none⟩ = some x
  c1 : w.cell? ⟨b, 1, none⟩ = some y
  c2 : w.cell? ⟨b, 2, none⟩ = some z
  z0 : w.frozen? ⟨b, 0, none⟩ = false
  z1 : w.frozen? ⟨b, 1, none⟩ = false
  z2 : w.frozen? ⟨b, 2, none⟩ = false
theorem AtA.next {w w' : World} {b : Nat} {x y z : Value} (h : AtA w b x y z) (hb : Below w.heap.size w w') : AtA w' b x y z :=
  ⟨Nat.lt_of_lt_of_le h.lt hb.size, by rw [hb.cell (p := ⟨b, 0, none⟩) h.lt]; exact h.c0, by rw [hb.cell (p := ⟨b, 1, none⟩) h.lt]; exact h.c1, by rw [hb.cell (p := ⟨b, 2, none⟩) h.lt]; exact h.c2,
    (hb.frozen (p := ⟨b, 0, none⟩) h.lt).trans h.z0, (hb.frozen (p := ⟨b, 1, none⟩) h.lt).trans h.z1, (hb.frozen (p := ⟨b, 2, none⟩) h.lt).trans h.z2⟩
theorem AtA.kept {w w' : World} {b : Nat} {x y z : Value} {row : Option Nat} (h : AtA w b x y z) (hg : w.grownBy w' row) (hne : some b ≠ row) : AtA w' b x y z :=
  have e := hg.block b h.lt hne
  ⟨Nat.lt_of_lt_of_le h.lt hg.size, (World.cell?_of_block (a := ⟨b, 0, none⟩) e).trans h.c0, (World.cell?_of_block (a := ⟨b, 1, none⟩) e).trans h.c1, (World.cell?_of_block (a := ⟨b, 2, none⟩) e).trans h.c2,
    (World.frozen?_of_block (a := ⟨b, 0, none⟩) e).trans h.z0, (World.frozen?_of_block (a := ⟨b, 1, none⟩) e).trans h.z1, (World.frozen?_of_block (a := ⟨b, 2, none⟩) e).trans h.z2⟩
theorem AtA.box (w : World) (x y z : Value) (t : Nat) : AtA (w.alloc (.cells #[x, y, z] t)) w.heap.size x y z :=
  ⟨by simp, by simp, by simp, by simp, World.frozen?_alloc_at _ _ _ _ rfl, World.frozen?_alloc_at _ _ _ _ rfl, World.frozen?_alloc_at _ _ _ _ rfl⟩
theorem AtA.alloc {w : World} {b : Nat} {x y z : Value} (h : AtA w b x y z) (o : Obj) : AtA (w.alloc o) b x y z := h.next (below_box w o)
theorem AtA.far {w : World} {b c o : Nat} {x y z : Value} (h : AtA w b x y z) (hc : c ≠ b) (v : Value) : AtA (w.setCell ⟨c, o, none⟩ v) b x y z :=
  ⟨by simpa [World.setCell] using h.lt, (World.cell?_setCell_far _ _ _ _ hc).trans h.c0, (World.cell?_setCell_far _ _ _ _ hc).trans h.c1, (World.cell?_setCell_far _ _ _ _ hc).trans h.c2,
    (World.frozen?_setCell _ _ _ _).trans h.z0, (World.frozen?_setCell _ _ _ _).trans h.z1, (World.frozen?_setCell _ _ _ _).trans h.z2⟩
theorem AtA.put0 {w : World} {b : Nat} {x y z : Value} (h : AtA w b x y z) (u : Value) : AtA (w.setCell ⟨b, 0, none⟩ u) b u y z :=
  ⟨by simpa [World.setCell] using h.lt, World.cell?_setCell_same _ _ _ h.c0, (World.cell?_setCell_other _ _ _ _ (by simp)).trans h.c1, (World.cell?_setCell_other _ _ _ _ (by simp)).trans h.c2,
    (World.frozen?_setCell _ _ _ _).trans h.z0, (World.frozen?_setCell _ _ _ _).trans h.z1, (World.frozen?_setCell _ _ _ _).trans h.z2⟩
theorem AtA.put1 {w : World} {b : Nat} {x y z : Value} (h : AtA w b x y z) (u : Value) : AtA (w.setCell ⟨b, 1, none⟩ u) b x u z :=
  ⟨by simpa [World.setCell] using h.lt, (World.cell?_setCell_other _ _ _ _ (by simp)).trans h.c0, World.cell?_setCell_same _ _ _ h.c1, (World.cell?_setCell_other _ _ _ _ (by simp)).trans h.c2,
    (World.frozen?_setCell _ _ _ _).trans h.z0, (World.frozen?_setCell _ _ _ _).trans h.z1, (World.frozen?_setCell _ _ _ _).trans h.z2⟩
theorem AtA.put2 {w : World} {b : Nat} {x y z : Value} (h : AtA w b x y z) (u : Value) : AtA (w.setCell ⟨b, 2, none⟩ u) b x y u :=
  ⟨by simpa [World.setCell] using h.lt, (World.cell?_setCell_other _ _ _ _ (by simp)).trans h.c0, (World.cell?_setCell_other _ _ _ _ (by simp)).trans h.c1, World.cell?_setCell_same _ _ _ h.c2,
    (World.frozen?_setCell _ _ _ _).trans h.z0, (World.frozen?_setCell _ _ _ _).trans h.z1, (World.frozen?_setCell _ _ _ _).trans h.z2⟩
theorem szArm (x y z : Sl) (left : Int) (w : World) (h0 : 0 ≤ left) (h1 : left ≤ 1048576) (hx : x.len ≤ 9223372036854775807) (hy : y.len ≤ 9223372036854775807) (hz : z.len ≤ 9223372036854775807) :
    Calls Tryd.prog 22 #[av x y z, .int .i64 left] w fun e w' => ∃ r : Int, e = .returned (.int .i64 r) ∧ (r = -1 ∨ (0 ≤ r ∧ (x.len : Int) + y.len + z.len + r = left)) ∧ Below w.heap.size w w' := by
  have HB := Lib.hid (below_box w (.cells #[.slice x.a x.len x.cap, .slice y.a y.len y.cap, .slice z.a z.len z.cap] 37))
  obtain ⟨xa, xl, xc⟩ := x
  obtain ⟨ya, yl, yc⟩ := y
  obtain ⟨za, zl, zc⟩ := z
  simp only at *
  by_cases c1 : left < xl
  · go_enter Tryd.func22, Tryd.ntmps22
    go_wp2_with fail
    refine (szIntS xa xl xc left _ h0 h1 hx).mono ?_
    rw [if_pos (by omega)]
    rintro e w' ⟨rfl, rfl⟩
    go_wp2
    go_ret
    exact ⟨_, rfl, .inl rfl, HB.out⟩
  · by_cases c2 : left - xl < yl
    · go_enter Tryd.func22, Tryd.ntmps22
      go_wp2_with fail
      refine (szIntS xa xl xc left _ h0 h1 hx).mono ?_
      rw [if_neg (by omega)]
      rintro e w' ⟨rfl, rfl⟩
      go_wp2_with fail
      refine (szIntS ya yl yc _ _ (by omega) (by omega) hy).mono ?_
      rw [if_pos (by omega)]
      rintro e w' ⟨rfl, rfl⟩
      go_wp2
      go_ret
      exact ⟨_, rfl, .inl rfl, HB.out⟩
    · by_cases c3 : left - xl - yl < zl
      · go_enter Tryd.func22, Tryd.ntmps22
        go_wp2_with fail
        refine (szIntS xa xl xc left _ h0 h1 hx).mono ?_
        rw [if_neg (by omega)]
        rintro e w' ⟨rfl, rfl⟩
        go_wp2_with fail
        refine (szIntS ya yl yc _ _ (by omega) (by omega) hy).mono ?_
        rw [if_neg (by omega)]
        rintro e w' ⟨rfl, rfl⟩
        go_wp2_with fail
        refine (szIntS za zl zc _ _ (by omega) (by omega) hz).mono ?_
        rw [if_pos (by omega)]
        rintro e w' ⟨rfl, rfl⟩
        go_wp2
        go_ret
        exact ⟨_, rfl, .inl rfl, HB.out⟩
      · go_enter Tryd.func22, Tryd.ntmps22
        go_wp2_with fail
        refine (szIntS xa xl xc left _ h0 h1 hx).mono ?_
        rw [if_neg (by omega)]
        rintro e w' ⟨rfl, rfl⟩
        go_wp2_with fail
        refine (szIntS ya yl yc _ _ (by omega) (by omega) hy).mono ?_
        rw [if_neg (by omega)]
        rintro e w' ⟨rfl, rfl⟩
        go_wp2_with fail
        refine (szIntS za zl zc _ _ (by omega) (by omega) hz).mono ?_
        rw [if_neg (by omega)]
        rintro e w' ⟨rfl, rfl⟩
        go_wp2
        go_ret
        exact ⟨_, rfl, .inr ⟨by omega, by omega⟩, HB.out⟩
/-- What eqArm says of two arms that read the same. -/
theorem eqArm (x y z x2 y2 z2 : Sl) (ls lo hi : List Int) (w : World) (hx : IntsAt w x.a x.len ls) (hy : IntsAt w y.a y.len lo) (hz : IntsAt w z.a z.len hi) (hx2 : IntsAt w x2.a x2.len ls) (hy2 : IntsAt w y2.a y2.len lo) (hz2 : IntsAt w z2.a z2.len hi)
    (bx : x.len ≤ 9223372036854775807) (b_y : y.len ≤ 9223372036854775807) (bz : z.len ≤ 9223372036854775807) :
    Calls Tryd.prog 26 #[av x y z, av x2 y2 z2] w fun e w' => e = .returned (.bool true) ∧ Below w.heap.size w w' := by
  obtain ⟨xa, xl, xc⟩ := x
  obtain ⟨ya, yl, yc⟩ := y
  obtain ⟨za, zl, zc⟩ := z
  obtain ⟨xa2, xl2, xc2⟩ := x2
  obtain ⟨ya2, yl2, yc2⟩ := y2
  obtain ⟨za2, zl2, zc2⟩ := z2
  simp only at *
  have HB := Lib.hid (below_box2 w (.cells #[.slice xa xl xc, .slice ya yl yc, .slice za zl zc] 25) (.cells #[.slice xa2 xl2 xc2, .slice ya2 yl2 yc2, .slice za2 zl2 zc2] 25))
  have P := (AtA.box w (.slice xa xl xc) (.slice ya yl yc) (.slice za zl zc) 25).alloc (.cells #[.slice xa2 xl2 xc2, .slice ya2 yl2 yc2, .slice za2 zl2 zc2] 25)
  have Q := AtA.box (w.alloc (.cells #[.slice xa xl xc, .slice ya yl yc, .slice za zl zc] 25)) (.slice xa2 xl2 xc2) (.slice ya2 yl2 yc2) (.slice za2 zl2 zc2) 25
  rw [show (w.alloc (.cells #[.slice xa xl xc, .slice ya yl yc, .slice za zl zc] 25)).heap.size = w.heap.size + 1 by simp] at Q
  replace hx := hx.next HB.out
  replace hy := hy.next HB.out
  replace hz := hz.next HB.out
  replace hx2 := hx2.next HB.out
  replace hy2 := hy2.next HB.out
  replace hz2 := hz2.next HB.out
  go_enter Tryd.func26, Tryd.ntmps26
  go_wp2_with fail
  refine (eqIntS xa xa2 xl xl2 xc xc2 ls _ hx hx2 bx).mono ?_
  rintro e w1 ⟨rfl, B1⟩
  replace P := P.next B1
  replace Q := Q.next B1
  replace HB := Lib.hid (below_call HB.out B1)
  obtain ⟨p1, p2, p3, p4, _, _, _⟩ := id P
  obtain ⟨q1, q2, q3, q4, _, _, _⟩ := id Q
  go_wp2_with fail
  refine (eqIntS ya ya2 yl yl2 yc yc2 lo _ (hy.next B1) (hy2.next B1) b_y).mono ?_
  rintro e w2 ⟨rfl, B2⟩
  replace P := P.next B2
  replace Q := Q.next B2
  replace HB := Lib.hid (below_call HB.out B2)
  clear p1 p2 p3 p4 q1 q2 q3 q4
  obtain ⟨p1, p2, p3, p4, _, _, _⟩ := id P
  obtain ⟨q1, q2, q3, q4, _, _, _⟩ := id Q
  go_wp2_with fail
  refine (eqIntS za za2 zl zl2 zc zc2 hi _ ((hz.next B1).next B2) ((hz2.next B1).next B2) bz).mono ?_
  rintro e w3 ⟨rfl, B3⟩
  replace HB := Lib.hid (below_call HB.out B3)
  go_wp2
  go_ret
  exact ⟨rfl, HB.out⟩
/-- A fresh arm that reads as the three lists: its rows are of the call's own, no block of them lies below B, and no two are the same. -/
structure NewArm (w : World) (B : Nat) (x y z : Sl) (ls lo hi : List Int) : Prop where
  ox : OwnI w B (.slice x.a x.len x.cap) ls
  oy : OwnI w B (.slice y.a y.len y.cap) lo
  oz : OwnI w B (.slice z.a z.len z.cap) hi
  bx : ∃ g, x.a = some ⟨g, 0, none⟩ ∧ B ≤ g ∧ ∃ h, y.a = some ⟨h, 0, none⟩ ∧ g < h ∧ ∃ k, z.a = some ⟨k, 0, none⟩ ∧ h < k ∧ k < w.heap.size
theorem NewArm.next {w w' : World} {B : Nat} {x y z : Sl} {ls lo hi : List Int} (h : NewArm w B x y z ls lo hi) (hb : Below w.heap.size w w') : NewArm w' B x y z ls lo hi := by
  obtain ⟨g, h1, h2, h3, h4, h5, k, h6, h7, h8⟩ := h.bx
  exact ⟨h.ox.next hb, h.oy.next hb, h.oz.next hb, g, h1, h2, h3, h4, h5, k, h6, h7, Nat.lt_of_lt_of_le h8 hb.size⟩
theorem OwnI.mono {w : World} {B B' : Nat} {v : Value} {zs : List Int} (h : OwnI w B v zs) (hB : B' ≤ B) : OwnI w B' v zs := by
  refine ⟨h.1, ?_⟩
  rcases h.2 with h2 | ⟨g, cap, cur, hv, hb, rest⟩
  · exact .inl h2
  · exact .inr ⟨g, cap, cur, hv, Nat.le_trans hB hb, rest⟩
theorem OwnI.far {w : World} {B g c o n cap : Nat} {zs : List Int} (h : OwnI w B (.slice (some ⟨g, 0, none⟩) n cap) zs) (hc : c ≠ g) (u : Value) : OwnI (w.setCell ⟨c, o, none⟩ u) B (.slice (some ⟨g, 0, none⟩) n cap) zs :=
  World.ownsRow.kept (row := some c) h ⟨rfl, rfl, rfl, by simp [World.setCell], fun k _ hk => Below.heap_setCell w _ _ k (by rintro rfl; exact hk rfl)⟩ (by simp [Value.ownBlock]; omega)
set_option maxHeartbeats 1000000 in
theorem toArm (x y z : Sl) (ls lo hi : List Int) (w : World) (hx : IntsAt w x.a x.len ls) (hy : IntsAt w y.a y.len lo) (hz : IntsAt w z.a z.len hi) (lx : x.len ≤ 1048576) (ly : y.len ≤ 1048576) (lz : z.len ≤ 1048576) :
    Calls Tryd.prog 23 #[av x y z] w fun e w' => ∃ x2 y2 z2 : Sl, e = .returned (av x2 y2 z2) ∧ x2.len = x.len ∧ y2.len = y.len ∧ z2.len = z.len ∧ NewArm w' w.heap.size x2 y2 z2 ls lo hi ∧ Below w.heap.size w w' := by
  obtain ⟨xa, xl, xc⟩ := x
  obtain ⟨ya, yl, yc⟩ := y
  obtain ⟨za, zl, zc⟩ := z
  simp only at *
  have HB := Lib.hid (below_box3 w (.cells #[.slice xa xl xc, .slice ya yl yc, .slice za zl zc] 37) (.cells #[.slice none 0 0, .slice none 0 0, .slice none 0 0] 25) (.cells #[.slice none 0 0, .slice none 0 0, .slice none 0 0] 25))
  have P := ((AtA.box w (.slice xa xl xc) (.slice ya yl yc) (.slice za zl zc) 37).alloc (.cells #[.slice none 0 0, .slice none 0 0, .slice none 0 0] 25)).alloc (.cells #[.slice none 0 0, .slice none 0 0, .slice none 0 0] 25)
  have R := (AtA.box (w.alloc (.cells #[.slice xa xl xc, .slice ya yl yc, .slice za zl zc] 37)) (.slice none 0 0) (.slice none 0 0) (.slice none 0 0) 25).alloc (.cells #[.slice none 0 0, .slice none 0 0, .slice none 0 0] 25)
  have V := AtA.box ((w.alloc (.cells #[.slice xa xl xc, .slice ya yl yc, .slice za zl zc] 37)).alloc (.cells #[.slice none 0 0, .slice none 0 0, .slice none 0 0] 25)) (.slice none 0 0) (.slice none 0 0) (.slice none 0 0) 25
  rw [show (w.alloc (.cells #[.slice xa xl xc, .slice ya yl yc, .slice za zl zc] 37)).heap.size = w.heap.size + 1 by simp] at R
  rw [show ((w.alloc (.cells #[.slice xa xl xc, .slice ya yl yc, .slice za zl zc] 37)).alloc (.cells #[.slice none 0 0, .slice none 0 0, .slice none 0 0] 25)).heap.size = w.heap.size + 1 + 1 by simp] at V
  replace hx := hx.next HB.out
  have HY := Lib.hid hy
  have HZ := Lib.hid hz
  clear hy hz
  have H0 := Lib.hid (show w.heap.size ≤ (((w.alloc (.cells #[.slice xa xl xc, .slice ya yl yc, .slice za zl zc] 37)).alloc (.cells #[.slice none 0 0, .slice none 0 0, .slice none 0 0] 25)).alloc (.cells #[.slice none 0 0, .slice none 0 0, .slice none 0 0] 25)).heap.size from HB.out.size)
  have S0 := V.lt
  go_enter Tryd.func23, Tryd.ntmps23
  go_wp2_with fail
  refine (toIntS xa xl xc ls _ hx lx).mono ?_
  generalize (((w.alloc (.cells #[.slice xa xl xc, .slice ya yl yc, .slice za zl zc] 37)).alloc (.cells #[.slice none 0 0, .slice none 0 0, .slice none 0 0] 25)).alloc (.cells #[.slice none 0 0, .slice none 0 0, .slice none 0 0] 25)) = w0 at *
  rintro e w1 ⟨rfl, o1, B1⟩
  have n0 : w.heap.size + 1 + 1 ≠ w.heap.size := by omega
  have n1 : w.heap.size + 1 + 1 ≠ w.heap.size + 1 := by omega
  have nb : w.heap.size ≤ w.heap.size + 1 + 1 := by omega
  have g1 : w.heap.size + 1 + 1 ≠ w0.heap.size := by omega
  have l1 := (World.ownsRow.lt o1 _ rfl).2
  replace P := (P.next B1).far (o := 0) n0 (.slice (some ⟨w0.heap.size, 0, none⟩) xl xl)
  replace R := (R.next B1).far (o := 0) n1 (.slice (some ⟨w0.heap.size, 0, none⟩) xl xl)
  have V0 := V.next B1
  obtain ⟨v1, v2, v3, v4, v5, v6, v7⟩ := id V0
  replace V := V0.put0 (.slice (some ⟨w0.heap.size, 0, none⟩) xl xl)
  have O1 := (o1.mono H0.out).far (o := 0) g1 (.slice (some ⟨w0.heap.size, 0, none⟩) xl xl)
  replace HB := Lib.hid ((below_call HB.out B1).setCell (p := ⟨w.heap.size + 1 + 1, 0, none⟩) nb (.slice (some ⟨w0.heap.size, 0, none⟩) xl xl))
  have q4 : w0.heap.size < (w1.setCell ⟨w.heap.size + 1 + 1, 0, none⟩ (.slice (some ⟨w0.heap.size, 0, none⟩) xl xl)).heap.size := by simpa [World.setCell] using l1
  obtain ⟨p1, p2, p3, p4, _, _, _⟩ := id P
  clear o1 V0 hx B1
  go_wp2_with fail
  refine (toIntS ya yl yc lo _ (HY.out.next HB.out) ly).mono ?_
  generalize w1.setCell ⟨w.heap.size + 1 + 1, 0, none⟩ (.slice (some ⟨w0.heap.size, 0, none⟩) xl xl) = u1 at *
  rintro e w2 ⟨rfl, o2, B2⟩
  clear v1 v2 v3 v4 v5 v6 v7 p1 p2 p3 p4
  have g2 : w.heap.size + 1 + 1 ≠ u1.heap.size := by have := V.lt; omega
  have l2 := (World.ownsRow.lt o2 _ rfl).2
  have H1 := Lib.hid HB.out.size
  replace P := (P.next B2).far (o := 1) n0 (.slice (some ⟨u1.heap.size, 0, none⟩) yl yl)
  replace R := (R.next B2).far (o := 1) n1 (.slice (some ⟨u1.heap.size, 0, none⟩) yl yl)
  have V0 := V.next B2
  obtain ⟨v1, v2, v3, v4, v5, v6, v7⟩ := id V0
  replace V := V0.put1 (.slice (some ⟨u1.heap.size, 0, none⟩) yl yl)
  replace O1 := (O1.next B2).far (o := 1) g1 (.slice (some ⟨u1.heap.size, 0, none⟩) yl yl)
  have O2 := (o2.mono H1.out).far (o := 1) g2 (.slice (some ⟨u1.heap.size, 0, none⟩) yl yl)
  replace HB := Lib.hid ((below_call HB.out B2).setCell (p := ⟨w.heap.size + 1 + 1, 1, none⟩) nb (.slice (some ⟨u1.heap.size, 0, none⟩) yl yl))
  have q5 : u1.heap.size < (w2.setCell ⟨w.heap.size + 1 + 1, 1, none⟩ (.slice (some ⟨u1.heap.size, 0, none⟩) yl yl)).heap.size := by simpa [World.setCell] using l2
  obtain ⟨p1, p2, p3, p4, _, _, _⟩ := id P
  clear o2 V0 B2
  go_wp2_with fail
  refine (toIntS za zl zc hi _ (HZ.out.next HB.out) lz).mono ?_
  generalize w2.setCell ⟨w.heap.size + 1 + 1, 1, none⟩ (.slice (some ⟨u1.heap.size, 0, none⟩) yl yl) = u2 at *
  rintro e w3 ⟨rfl, o3, B3⟩
  clear v1 v2 v3 v4 v5 v6 v7 p1 p2 p3 p4
  have g3 : w.heap.size + 1 + 1 ≠ u2.heap.size := by have := V.lt; omega
  have l3 := (World.ownsRow.lt o3 _ rfl).2
  have H2 := Lib.hid HB.out.size
  have S3 := B3.size
  have R3 := R.next B3
  have V0 := V.next B3
  obtain ⟨v1, v2, v3, v4, v5, v6, v7⟩ := id V0
  obtain ⟨r1, r2, r3, r4, r5, r6, r7⟩ := id R3
  have V3 := V0.put2 (.slice (some ⟨u2.heap.size, 0, none⟩) zl zl)
  have HN := Lib.hid (And.intro ((O1.next B3).far (o := 2) g1 (.slice (some ⟨u2.heap.size, 0, none⟩) zl zl)) (And.intro ((O2.next B3).far (o := 2) g2 (.slice (some ⟨u2.heap.size, 0, none⟩) zl zl)) ((o3.mono H2.out).far (o := 2) g3 (.slice (some ⟨u2.heap.size, 0, none⟩) zl zl))))
  replace HB := Lib.hid ((below_call HB.out B3).setCell (p := ⟨w.heap.size + 1 + 1, 2, none⟩) nb (.slice (some ⟨u2.heap.size, 0, none⟩) zl zl))
  have q1 : w.heap.size + 1 ≠ w0.heap.size := by omega
  have q2 : w.heap.size + 1 ≠ u1.heap.size := by have := R.lt; omega
  have q3 : w.heap.size + 1 ≠ u2.heap.size := by have := R.lt; omega
  clear O1 O2 o3 P R V V0 V3 R3 B3
  go_wp2
  refine bodyPost_ret (v := av ⟨some ⟨w0.heap.size, 0, none⟩, xl, xl⟩ ⟨some ⟨u1.heap.size, 0, none⟩, yl, yl⟩ ⟨some ⟨u2.heap.size, 0, none⟩, zl, zl⟩) (by simp [results, Tryd.results23, go_sem, r2, r3, r4]) rfl
    ⟨_, _, _, rfl, rfl, rfl, rfl, ⟨((HN.out.1.far q1 _).far q1 _).far q1 _, ((HN.out.2.1.far q2 _).far q2 _).far q2 _, ((HN.out.2.2.far q3 _).far q3 _).far q3 _, _, rfl, H0.out, _, rfl, q4, _, rfl, q5, ?_⟩, ?_⟩
  · simpa [World.setCell] using l3
  · exact ((HB.out.setCell (p := ⟨w.heap.size + 1, 0, none⟩) (Nat.le_succ _) _).setCell (p := ⟨w.heap.size + 1, 1, none⟩) (Nat.le_succ _) _).setCell (p := ⟨w.heap.size + 1, 2, none⟩) (Nat.le_succ _) _
theorem OwnI.kept {w w' : World} {B g n cap : Nat} {zs : List Int} {row : Option Nat} (h : OwnI w B (.slice (some ⟨g, 0, none⟩) n cap) zs) (hg : w.grownBy w' row) (hne : row ≠ some g) : OwnI w' B (.slice (some ⟨g, 0, none⟩) n cap) zs :=
  World.ownsRow.kept h hg (.inr (by simpa [Value.ownBlock] using hne.symm))
/-- What marking a fresh arm says: from block C on nothing has changed, nor anything below B. -/
theorem markArm (x y z : Sl) (B : Nat) (ls lo hi : List Int) (k : Int) (w : World) (h : NewArm w B x y z ls lo hi) (hk0 : 0 ≤ k) (hk1 : k ≤ 1000000000) (lx : x.len ≤ 1048576) (ly : y.len ≤ 1048576) (lz : z.len ≤ 1048576) :
    Calls Tryd.prog 28 #[av x y z, .int .i64 k] w fun e w' => e = .returned (.int .i64 (k + x.len + y.len + z.len)) ∧ Below B w w' ∧
      ∀ c, c < w.heap.size → (∀ g, (x.a = some ⟨g, 0, none⟩ ∨ y.a = some ⟨g, 0, none⟩ ∨ z.a = some ⟨g, 0, none⟩) → c ≠ g) → w'.heap[c]? = w.heap[c]? := by
  obtain ⟨xa, xl, xc⟩ := x
  obtain ⟨ya, yl, yc⟩ := y
  obtain ⟨za, zl, zc⟩ := z
  obtain ⟨g, h1, h2, h3, h4, h5, k3, h6, h7, h8⟩ := h.bx
  simp only at *
  subst h1 h4 h6
  have Bx := below_box w (.cells #[.slice (some ⟨g, 0, none⟩) xl xc, .slice (some ⟨h3, 0, none⟩) yl yc, .slice (some ⟨k3, 0, none⟩) zl zc] 25)
  have P := AtA.box w (.slice (some ⟨g, 0, none⟩) xl xc) (.slice (some ⟨h3, 0, none⟩) yl yc) (.slice (some ⟨k3, 0, none⟩) zl zc) 25
  have ox := h.ox.next Bx
  have oy := h.oy.next Bx
  have oz := h.oz.next Bx
  clear h
  go_enter Tryd.func28, Tryd.ntmps28
  go_wp2_with fail
  refine (markIntS _ xl xc B ls k _ ox hk0 (by omega) (by omega)).mono ?_
  rintro e w1 ⟨rfl, _, g1, s1⟩
  have m1 : some w.heap.size ≠ some g := by simp; omega
  have HS1 := Lib.hid s1
  clear s1
  replace P := P.kept g1 m1
  replace oy := oy.kept g1 (by show some g ≠ some h3; simp; omega)
  replace oz := oz.kept g1 (by show some g ≠ some k3; simp; omega)
  obtain ⟨p1, p2, p3, p4, _, _, _⟩ := id P
  go_wp2_with fail
  refine (markIntS _ yl yc B lo _ _ oy (by omega) (by omega) (by omega)).mono ?_
  rintro e w2 ⟨rfl, _, g2, s2⟩
  have m2 : some w.heap.size ≠ some h3 := by simp; omega
  have HS2 := Lib.hid s2
  clear s2
  replace P := P.kept g2 m2
  replace oz := oz.kept g2 (by show some h3 ≠ some k3; simp; omega)
  clear p1 p2 p3 p4
  obtain ⟨p1, p2, p3, p4, _, _, _⟩ := id P
  go_wp2_with fail
  refine (markIntS _ zl zc B hi _ _ oz (by omega) (by omega) (by omega)).mono ?_
  rintro e w3 ⟨rfl, _, g3, s3⟩
  have HS3 := Lib.hid s3
  clear s3
  have HG := Lib.hid (And.intro g1 (And.intro g2 g3))
  clear g1 g2 g3
  go_wp2
  go_ret
  obtain ⟨g1, g2, g3⟩ := HG.out
  refine ⟨rfl, ?_, ?_⟩
  · have b0 : Below B w _ := (Below.refl B w).alloc (by omega) (.cells #[.slice (some ⟨g, 0, none⟩) xl xc, .slice (some ⟨h3, 0, none⟩) yl yc, .slice (some ⟨k3, 0, none⟩) zl zc] 25)
    have b1 := b0.grown g1 (by simp; omega) (fun q hq => by simp [Value.ownBlock] at hq; omega)
    have b2 := b1.grown g2 (by have := b1.size; omega) (fun q hq => by simp [Value.ownBlock] at hq; omega)
    exact b2.grown g3 (by have := b2.size; omega) (fun q hq => by simp [Value.ownBlock] at hq; omega)
  · intro c hc hne
    have c1 := hne g (.inl rfl)
    have c2 := hne h3 (.inr (.inl rfl))
    have c3 := hne k3 (.inr (.inr rfl))
    have z1 := HS1.out
    have z2 := HS2.out
    simp at z1
    rw [g3.block c (by omega) (by show some c ≠ some k3; simpa using c3), g2.block c (by omega) (by show some c ≠ some h3; simpa using c2), g1.block c (by simp; omega) (by show some c ≠ some g; simpa using c1)]
    exact Below.heap_alloc w _ c hc
end Go.Proofs.YtolkihibjabmhaaDoor
