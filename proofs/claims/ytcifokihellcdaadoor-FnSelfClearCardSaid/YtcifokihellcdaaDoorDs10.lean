/- What DrawSelfClear draws: an arm whose joints may fold it, and angles. -/
import Derived.Test.YtcifokihellcdaaDoorDk10
namespace Go.Proofs.YtcifokihellcdaaDoor
set_option maxRecDepth 100000
open Go.RowKit
attribute [local go_sem ↓] Go.wp_at_zero Go.wp_at_succ
theorem Wr.next {u u' : World} {x y z : Sl} {hi : List Int} {base : Nat} (h : Wr u x y z) (hz : IntsFrom u base z.a z.len hi) (hb : ∀ g, base ≤ g → g < u.heap.size → ∀ j, u'.frozen? ⟨g, j, none⟩ = u.frozen? ⟨g, j, none⟩) : Wr u' x y z := by
  rcases h with h | ⟨g, off, h1, h2, h3, h4⟩
  · exact .inl h
  · rcases hz.2 with k | ⟨b, o, k1, k2, k3, _⟩
    · left; rw [hz.1, k]; rfl
    · rw [k1] at h1
      injection h1 with h1
      injection h1 with h1 _ _
      subst h1
      exact .inr ⟨b, o, k1, fun j => (hb b k2 k3 j).trans (h2 j), h3, h4⟩
theorem IntsFrom.far {w : World} {base len c o : Nat} {a : Option Addr} {zs : List Int} (h : IntsFrom w base a len zs) (hc : len = 0 ∨ ∃ b o', a = some ⟨b, o', none⟩ ∧ b ≠ c) (v : Value) : IntsFrom (w.setCell ⟨c, o, none⟩ v) base a len zs := by
  refine ⟨h.1, ?_⟩
  rcases h.2 with h2 | ⟨b, off, h1, h2, h3, h4⟩
  · exact .inl h2
  · rcases hc with hc | ⟨b', o', k1, k2⟩
    · left; exact List.eq_nil_of_length_eq_zero (by rw [← h.1]; exact hc)
    · rw [h1] at k1
      injection k1 with k1
      injection k1 with k1 _ _
      subst k1
      exact .inr ⟨b, off, h1, h2, by simpa [World.setCell] using h3, fun i hi => (World.cell?_setCell_far _ _ _ _ (by show c ≠ b; exact fun e => k2 e.symm)).trans (h4 i hi)⟩
theorem IntsFrom.putAt {w : World} {base len g off k : Nat} {zs : List Int} (h : IntsFrom w base (some ⟨g, off, none⟩) len zs) (hk : k < len) (t : Int) : IntsFrom (w.setCell ⟨g, off + k, none⟩ (.int .i64 t)) base (some ⟨g, off, none⟩) len (zs.set k t) := by
  refine ⟨by rw [List.length_set]; exact h.1, ?_⟩
  rcases h.2 with h2 | ⟨b, o, h1, h2, h3, h4⟩
  · have := h.1; rw [h2] at this; simp at this; omega
  · injection h1 with h1
    injection h1 with h1 h1' _
    subst h1 h1'
    refine .inr ⟨g, off, rfl, h2, by simpa [World.setCell] using h3, fun i hi => ?_⟩
    rw [List.length_set] at hi
    have hkl : k < zs.length := by have := h.1; omega
    by_cases e : i = k
    · subst e
      rw [World.cell?_setCell_same _ _ _ (h4 i hi), List.getD_eq_getElem?_getD, List.getElem?_set_self hkl]; rfl
    · have hne : (⟨g, off + k, none⟩ : Addr) ≠ ⟨g, off + i, none⟩ := fun hh => e (by injection hh with _ h2 _; omega)
      rw [(World.cell?_setCell_other _ _ _ _ (by first | exact hne | exact hne.symm)).trans (h4 i hi), List.getD_eq_getElem?_getD, List.getD_eq_getElem?_getD, List.getElem?_set_ne (by omega)]
theorem Sm.setAt {N : Int} {zs : List Int} (h : Sm N zs) (k : Nat) {t : Int} (t0 : -N ≤ t) (t1 : t ≤ N) : Sm N (zs.set k t) := by
  intro i
  by_cases e : i = k
  · subst e
    by_cases hl : i < zs.length
    · rw [List.getD_eq_getElem?_getD, List.getElem?_set_self hl]; exact ⟨t0, t1⟩
    · have := h i; rw [List.set_eq_of_length_le (by omega)]; exact this
  · have := h i
    rw [List.getD_eq_getElem?_getD, List.getElem?_set_ne (by omega), ← List.getD_eq_getElem?_getD]; exact this
theorem wr_at {u : World} {x y : Sl} {g off zl zc : Nat} (h : Wr u x y ⟨some ⟨g, off, none⟩, zl, zc⟩) (hz : zl ≠ 0) : ∀ j, u.frozen? ⟨g, j, none⟩ = false := by
  rcases h with h | ⟨b, o, h1, h2, _, _⟩
  · exact absurd h hz
  · injection h1 with h1
    injection h1 with h1 _ _
    subst h1
    exact h2
theorem grown10 {w u : World} {r : Option Nat} (h : Below w.heap.size w u) : w.grownBy u r := ⟨h.os, h.tape, h.output, h.size, fun i hi _ => h.block i hi⟩
/-- What DrawSelfClear holds: the reader, the result's box, the variable's, the lists, both of which may be written. -/
structure QS (w : World) (r V M : Nat) (u : World) (x y z : Sl) (ls lo hi : List Int) : Prop where
  rd : Rd w.heap.size M u r
  old : Below w.heap.size w u
  res : AtA u w.heap.size (.slice none 0 0) (.slice none 0 0) (.slice none 0 0)
  var : AtA u V (.slice x.a x.len x.cap) (.slice y.a y.len y.cap) (.slice z.a z.len z.cap)
  ix : IntsFrom u (r + 1) x.a x.len ls
  iy : IntsFrom u (r + 1) y.a y.len lo
  iz : IntsFrom u (r + 1) z.a z.len hi
  wz : Wr u x y z
  wy : Wr u x z y
  bz : z.len = 0 ∨ ∃ g off, z.a = some ⟨g, off, none⟩ ∧ g < V
  bY : y.len = 0 ∨ ∃ g off, y.a = some ⟨g, off, none⟩ ∧ g < V
  sy : Sm 2000 lo
  sz : Sm 2000 hi
section
variable {w u u' : World} {r V M M' : Nat} {x y z : Sl} {ls lo hi : List Int}
theorem QS.next (h : QS w r V M u x y z ls lo hi) (hb : Below u.heap.size u u') : QS w r V M u' x y z ls lo hi :=
  ⟨h.rd.kept (grown10 hb : u.grownBy u' none) (by simp) (fun k hk => by cases hk), below_call h.old hb, h.res.next hb, h.var.next hb, h.ix.next hb, h.iy.next hb, h.iz.next hb, h.wz.next h.iz (fun g _ hg j => hb.frozen (p := ⟨g, j, none⟩) hg), h.wy.next h.iy (fun g _ hg j => hb.frozen (p := ⟨g, j, none⟩) hg), h.bz, h.bY, h.sy, h.sz⟩
theorem QS.grown (h : QS w r V M u x y z ls lo hi) (hr : Rd w.heap.size M' u' r) (hg : u.grownBy u' (some r)) (hwr : w.heap.size < r) (hV : r < V) : QS w r V M' u' x y z ls lo hi :=
  ⟨hr, h.old.grown hg h.old.size (fun k hk => by injection hk with hk; omega), h.res.kept hg (by simp; omega), h.var.kept hg (by simp; omega), h.ix.kept hg (fun k hk => by injection hk with hk; omega), h.iy.kept hg (fun k hk => by injection hk with hk; omega), h.iz.kept hg (fun k hk => by injection hk with hk; omega),
    h.wz.next h.iz (fun g hg1 hg2 j => World.frozen?_of_block (w := u) (a := ⟨g, j, none⟩) (hg.block g hg2 (by simp; omega))), h.wy.next h.iy (fun g hg1 hg2 j => World.frozen?_of_block (w := u) (a := ⟨g, j, none⟩) (hg.block g hg2 (by simp; omega))), h.bz, h.bY, h.sy, h.sz⟩
theorem blk10 {w : World} {base len g off : Nat} {zs : List Int} (h : IntsFrom w base (some ⟨g, off, none⟩) len zs) (hl : 0 < len) : base ≤ g ∧ g < w.heap.size := by
  rcases h.2 with k2 | ⟨b, o, k1, k2, k3, _⟩
  · have := h.1; rw [k2] at this; simp at this; omega
  · injection k1 with k1
    injection k1 with k1 _ _
    subst k1
    exact ⟨k2, k3⟩
theorem low10 {V len g off : Nat} (h : len = 0 ∨ ∃ g' off', (some ⟨g, off, none⟩ : Option Addr) = some ⟨g', off', none⟩ ∧ g' < V) (hl : 0 < len) : g < V := by
  rcases h with q | ⟨b, o, k1, k2⟩
  · omega
  · injection k1 with k1
    injection k1 with k1 _ _
    subst k1
    exact k2
theorem apart10 {u : World} {x y : Sl} {g off zl zc : Nat} (h : Wr u x y ⟨some ⟨g, off, none⟩, zl, zc⟩) (hl : 0 < zl) : (x.len = 0 ∨ ∃ b o, x.a = some ⟨b, o, none⟩ ∧ b ≠ g) ∧ (y.len = 0 ∨ ∃ b o, y.a = some ⟨b, o, none⟩ ∧ b ≠ g) := by
  rcases h with q | ⟨b, o, k1, _, k3, k4⟩
  · simp only at q; omega
  · injection k1 with k1
    injection k1 with k1 _ _
    subst k1
    exact ⟨k3, k4⟩
theorem QS.putZ {g off zl zc k : Nat} (h : QS w r V M u x y ⟨some ⟨g, off, none⟩, zl, zc⟩ ls lo hi) (hk : k < zl) (hwr : w.heap.size < r) {t : Int} (t0 : -2000 ≤ t) (t1 : t ≤ 2000) : QS w r V M (u.setCell ⟨g, off + k, none⟩ (.int .i64 t)) x y ⟨some ⟨g, off, none⟩, zl, zc⟩ ls lo (hi.set k t) := by
  have hg := blk10 h.iz (by simp only; omega)
  have hgV := low10 h.bz (by simp only; omega)
  have hxy := apart10 h.wz (by omega)
  exact ⟨h.rd.set' (by omega) (by omega) _, h.old.setCell (p := ⟨g, off + k, none⟩) (by show w.heap.size ≤ g; omega) _, h.res.far (by omega) _, h.var.far (by omega) _, h.ix.far hxy.1 _, h.iy.far hxy.2 _, h.iz.putAt hk t, h.wz.set _, h.wy.set _, h.bz, h.bY, h.sy, h.sz.setAt k t0 t1⟩
theorem QS.putY {g off yl yc k : Nat} (h : QS w r V M u x ⟨some ⟨g, off, none⟩, yl, yc⟩ z ls lo hi) (hk : k < yl) (hwr : w.heap.size < r) {t : Int} (t0 : -2000 ≤ t) (t1 : t ≤ 2000) : QS w r V M (u.setCell ⟨g, off + k, none⟩ (.int .i64 t)) x ⟨some ⟨g, off, none⟩, yl, yc⟩ z ls (lo.set k t) hi := by
  have hg := blk10 h.iy (by simp only; omega)
  have hgV := low10 h.bY (by simp only; omega)
  have hxz := apart10 h.wy (by omega)
  exact ⟨h.rd.set' (by omega) (by omega) _, h.old.setCell (p := ⟨g, off + k, none⟩) (by show w.heap.size ≤ g; omega) _, h.res.far (by omega) _, h.var.far (by omega) _, h.ix.far hxz.1 _, h.iy.putAt hk t, h.iz.far hxz.2 _, h.wz.set _, h.wy.set _, h.bz, h.bY, h.sy.setAt k t0 t1, h.sz⟩
theorem fit10 {base : Nat} {a : Option Addr} {len : Nat} {zs : List Int} (h : IntsFrom u base a len zs) : len = 0 ∨ ∃ g off, a = some ⟨g, off, none⟩ ∧ g < u.heap.size := by
  rcases h.2 with q | ⟨b, o, k1, _, k3, _⟩
  · left; rw [h.1, q]; rfl
  · exact .inr ⟨b, o, k1, k3⟩
end
def HasQ (w : World) (r V M : Nat) (u : World) (x y z : Sl) (ls : List Int) : Prop := ∃ lo hi, QS w r V M u x y z ls lo hi
/-- What a draw of an arm and angles says, with the room of the lists. -/
def GotSC (w : World) (e : Ending) (w' : World) : Prop :=
  ∃ (x y z j : Sl) (ls lo hi js : List Int), e = .returned (.tuple #[av x y z, .slice j.a j.len j.cap]) ∧ (IntsAt w' x.a x.len ls ∧ IntsAt w' y.a y.len lo ∧ IntsAt w' z.a z.len hi ∧ IntsAt w' j.a j.len js) ∧ (x.len ≤ 5 ∧ y.len ≤ 4 ∧ z.len ≤ 4 ∧ j.len ≤ 6) ∧ (x.len ≤ x.cap ∧ y.len ≤ y.cap ∧ z.len ≤ z.cap ∧ j.len ≤ j.cap) ∧ Below w.heap.size w w'
set_option maxHeartbeats 8000000 in
theorem drawSelfClear (w : World) (a : Option Addr) (len cap : Nat) (zs : List Int) (h : Bytes w a len cap zs) :
    Calls Tryd.prog 15 #[.slice a len cap] w (GotSC w) := by
  have HB := Lib.hid (below_box w (.cells #[.slice none 0 0, .slice none 0 0, .slice none 0 0] 25))
  have R0 := AtA.box w (.slice none 0 0) (.slice none 0 0) (.slice none 0 0) 25
  go_enter Tryd.func15, Tryd.ntmps15
  go_wp2_with fail
  refine (gopen w _ a len cap zs h HB.out (w.heap.size + 1) (by simp)).mono ?_
  rintro e w1 ⟨rfl, hr1, hb1⟩
  have R1' := Lib.hid (R0.next hb1)
  have H1 := Lib.hid (below_call HB.out hb1)
  clear R0 HB hb1 h
  go_wp2_with fail
  refine (pick _ _ _ 2 _ hr1 (by omega)).mono ?_
  rintro e w2 ⟨q, a1, b1, rfl, hr2, hg2, hs2⟩
  have b2 := b1 (by omega)
  obtain ⟨m, hm⟩ : ∃ m : Nat, 3 + q = (m : Int) := ⟨(3 + q).toNat, by omega⟩
  have hlt2 := hr2.lt
  clear b1 hs2 hr1
  go_wp2_with fail
  refine (l20ArmT _ _ _ m 14 _ hr2 (by omega) (by omega) (by omega) (by omega) (by omega)).mono ?_
  rintro e w3 ⟨⟨xa, xl, xc⟩, ⟨ya, yl, yc⟩, ⟨za, zl, zc⟩, ls, lo, hi, rfl, ⟨i1, i2, i3⟩, ⟨lx, ly, lz⟩, ⟨kx, ky, kz⟩, ⟨wz, wy⟩, ⟨_, sy, sz⟩, hr3, hg3⟩
  simp only at i1 i2 i3 lx ly lz kx ky kz
  have hg := hg2.trans hg3
  have H3 := Lib.hid (H1.out.grown hg H1.out.size (fun k hk => by injection hk with hk; omega))
  have Bv := below_box w3 (.cells #[.slice xa xl xc, .slice ya yl yc, .slice za zl zc] 25)
  have hlt3 := hr3.lt
  have Q4 : Hid (QS w (w.heap.size + 1) w3.heap.size (0 + 1 + 16) (w3.alloc (.cells #[.slice xa xl xc, .slice ya yl yc, .slice za zl zc] 25)) ⟨xa, xl, xc⟩ ⟨ya, yl, yc⟩ ⟨za, zl, zc⟩ ls lo hi) := Lib.hid
    ⟨hr3.alloc _, below_call H3.out Bv, (R1'.out.kept hg (by simp)).next Bv, AtA.box w3 _ _ _ _, (i1.down (by omega)).next Bv, (i2.down (by omega)).next Bv, (i3.down (by omega)).next Bv,
      wz.next i3 (fun g _ hg j => Bv.frozen (p := ⟨g, j, none⟩) hg), wy.next i2 (fun g _ hg j => Bv.frozen (p := ⟨g, j, none⟩) hg), fit10 i3, fit10 i2, sy, sz⟩
  obtain ⟨V1, hV1⟩ : ∃ V1, w3.heap.size = V1 := ⟨_, rfl⟩
  rw [hV1] at Q4 hlt3
  clear i1 i2 i3 hr2 hg2 hg3 hr3 hg H1 H3 R1' Bv wz wy sy sz
  go_upto_region 3 with fail
  clear hV1 hm
  generalize w3.alloc (.cells #[.slice xa xl xc, .slice ya yl yc, .slice za zl zc] 25) = w4 at *
  have hV1 : w.heap.size + 1 < V1 := hlt3
  have hrs : ∀ k ∈ [w.heap.size], k < w.heap.size + 1 := by simp
  have nV1r : V1 ≠ w.heap.size + 1 := by omega
  have nRV : w.heap.size ≠ V1 := by omega
  go_wp2_with fail
  refine (pick _ _ _ 2 _ Q4.out.rd (by omega)).mono ?_
  rintro e w5 ⟨x1, a5, b5, rfl, hr5, hg5, hs5⟩
  have Q5 := Lib.hid (Q4.out.grown hr5 hg5 (by omega) hV1)
  clear b5 hr5 hg5 hs5 Q4 hlt3
  by_cases hx : x1 = 0
  · subst hx
    have e1 : ((0 : Int) == 0) = true := rfl
    have HAV := Lib.hid (specArmValid ⟨xa, xl, xc⟩ ⟨ya, yl, yc⟩ ⟨za, zl, zc⟩ ls lo hi w5 Q5.out.ix.ints Q5.out.iy.ints Q5.out.iz.ints (by simp only; omega) (by simp only; omega) (by simp only; omega))
    obtain ⟨_, c0, c1, c2, _, _, _⟩ := Q5.out.var
    by_cases hok : okArm ls lo hi
    · rw [decide_eq_true hok] at HAV
      have hyz : zl = yl := by
        have k1 := Q5.out.iy.1
        have k2 := Q5.out.iz.1
        simp only at k1 k2
        rw [k1, k2, hok.2.2.1, hok.2.2.2.1]
      have hy1 : 1 ≤ yl := by
        have k1 := Q5.out.iy.1
        simp only at k1
        rw [k1, hok.2.2.1]; exact hok.1
      clear hok
      subst hyz
      go_wp2_with fail
      refine HAV.out.mono ?_
      rintro e w6 ⟨rfl, B6⟩
      have HL : Hid (HasQ w (w.heap.size + 1) V1 (0 + 1 + 16 + 1) w6 ⟨xa, xl, xc⟩ ⟨ya, zl, yc⟩ ⟨za, zl, zc⟩ ls) := Lib.hid ⟨lo, hi, Q5.out.next B6⟩
      clear Q5 HAV B6 c0 c1 c2
      go_wp2
      go_loopw [6] (fun kv wr => ∃ k : Nat, 1 ≤ k ∧ k ≤ zl ∧ kv = .int .i64 (k : Int) ∧ Hid (HasQ w (w.heap.size + 1) V1 (0 + 1 + 16 + 1) wr ⟨xa, xl, xc⟩ ⟨ya, zl, yc⟩ ⟨za, zl, zc⟩ ls)) (fun kv _ => zl - (intOf kv).toNat)
      case atStart => exact ⟨1, Nat.le_refl _, hy1, rfl, HL⟩
      case round =>
        obtain ⟨k, hk1, hk2, rfl, HS⟩ := hrel
        clear HL
        obtain ⟨lo2, hi2, S⟩ := HS.out
        by_cases hlt : k < zl
        · obtain ⟨gy, oy, ey, lty, cy⟩ := S.iy.ints.some (by simp only; omega)
          obtain ⟨gz, oz, ez, ltz, cz'⟩ := S.iz.ints.some (by simp only; omega)
          simp only at ey ez
          subst ey ez
          have j1 : (0 : Int) ≤ (k : Int) := by omega
          have j2 : (k : Int) < (zl : Int) := by omega
          have d1 := cy k (by simp only; omega)
          have f1 := wr_at S.wy (by omega) (oy + k)
          have S2 := S.putY (k := k) (t := 90) (by omega) (by omega) (by omega) (by omega)
          have S3 := Lib.hid (S2.putZ (k := k) (t := 170) (by omega) (by omega) (by omega) (by omega))
          have v1 := S.var.c1
          have v2 := S.var.c2
          have v3 := S2.var.c2
          have d2 := (S2.iz.ints.some (by simp only; omega))
          obtain ⟨gz', oz', ez', _, cz2⟩ := d2
          simp only [Option.some.injEq, Addr.mk.injEq, and_true] at ez'
          obtain ⟨rfl, rfl⟩ := ez'
          have d3 := cz2 k (by simp only; omega)
          have f3 := wr_at S2.wz (by omega) (oz + k)
          clear S S2 HS cy cz' cz2 lty ltz
          simp only at v1 v2 v3
          go_wp2
          go_roundw
          case rel => exact ⟨k + 1, by omega, by omega, by congr 1, Lib.hid ⟨_, _, S3.out⟩⟩
          case measure => simp [intOf]; omega
        · obtain rfl : k = zl := by omega
          have HQ := Lib.hid S
          have v1 := S.var.c1
          simp only at v1
          clear S HS
          have Q5 := Lib.hid (HQ.out.next (below_drew' wr))
          have P5 := Q5.out.var
          have k5 := Q5.out.rd
          have hs5 : w.heap.size + 1 < wr.drew.heap.size := k5.lt
          clear HQ
          go_upto_region 9 with fail
          have r1 : wr.drew.cell? ⟨V1, 0, none⟩ = some (.slice xa xl xc) ∧ wr.drew.cell? ⟨V1, 1, none⟩ = some (.slice ya k yc) ∧ wr.drew.cell? ⟨V1, 2, none⟩ = some (.slice za k zc) := ⟨P5.c0, P5.c1, P5.c2⟩
          go_region_held3 (fun u => u.cell? ⟨V1, 0, none⟩ = some (.slice xa xl xc) ∧ u.cell? ⟨V1, 1, none⟩ = some (.slice ya k yc) ∧ u.cell? ⟨V1, 2, none⟩ = some (.slice za k zc)) (first | exact r1 | exact r3 | exact r4) (first
            | (go_at_call 37
               (with_reducible refine (l20Joints _ _ _ 14 ⟨xa, xl, xc⟩ ⟨ya, k, yc⟩ ⟨za, k, zc⟩ ls _ _ _ k5 (by omega) (by omega) (by omega) Q5.out.ix Q5.out.iy Q5.out.iz lx ly lz Q5.out.sy Q5.out.sz).mono ?_)
               rintro e w6 ⟨⟨ja, jl, jc⟩, js, rfl, ij, lj, kj, hr6, hg6⟩
               have P6 := P5.kept hg6 (by simpa using nV1r)
               have r3 : w6.cell? ⟨V1, 0, none⟩ = some (.slice xa xl xc) ∧ w6.cell? ⟨V1, 1, none⟩ = some (.slice ya k yc) ∧ w6.cell? ⟨V1, 2, none⟩ = some (.slice za k zc) := ⟨P6.c0, P6.c1, P6.c2⟩
               have P7 := ((P6.far (c := w.heap.size) (o := 0) nRV (.slice xa xl xc)).far (c := w.heap.size) (o := 1) nRV (.slice ya k yc)).far (c := w.heap.size) (o := 2) nRV (.slice za k zc)
               have r4 := And.intro P7.c0 (And.intro P7.c1 P7.c2)
               obtain ⟨_, t0, t1, t2, u0, u1, u2⟩ := id (Q5.out.res.kept hg6 (by simp)))
            | fail)
          have Q6 := Q5.out.grown hr6 hg6 (by omega) hV1
          have G7 := Lib.hid ((GSt.start (rs := [w.heap.size]) hr6 Q6.old).set3 (k := w.heap.size) (by simp) (Nat.le_refl _) (by omega) (.slice xa xl xc) (.slice ya k yc) (.slice za k zc))
          have HF := Lib.hid (And.intro (G7.out.ints10 Q6.ix hrs).ints (And.intro (G7.out.ints10 Q6.iy hrs).ints (And.intro (G7.out.ints10 Q6.iz hrs).ints (G7.out.ints10 (ij.down (base' := w.heap.size + 1 + 1) (by omega)) hrs).ints)))
          have HO := Lib.hid G7.out.old
          have HLJ := Lib.hid (And.intro lj kj)
          clear r1 r3 r4 P5 P6 P7 k5 G7 Q6 Q5 ij hr6 hg6 lj kj
          go_wp2
          exact bodyPost_ret (v := .tuple #[av ⟨xa, xl, xc⟩ ⟨ya, k, yc⟩ ⟨za, k, zc⟩, .slice ja jl jc]) (by simp [results, Tryd.results15, go_sem, t0, t1, t2]) rfl
            ⟨⟨xa, xl, xc⟩, ⟨ya, k, yc⟩, ⟨za, k, zc⟩, ⟨ja, jl, jc⟩, ls, _, _, js, rfl, HF.out, ⟨lx, ly, lz, by have := HLJ.out.1; simp only; omega⟩, ⟨kx, ky, kz, HLJ.out.2⟩, HO.out⟩
    · rw [decide_eq_false hok] at HAV
      clear hok
      go_wp2_with fail
      refine HAV.out.mono ?_
      rintro e w6 ⟨rfl, B6⟩
      have HQ := Lib.hid (Q5.out.next B6)
      clear Q5 HAV B6 c0 c1 c2
      have Q5 := Lib.hid (HQ.out.next (below_drew' w6))
      have P5 := Q5.out.var
      have k5 := Q5.out.rd
      have hs5 : w.heap.size + 1 < w6.drew.heap.size := k5.lt
      clear HQ
      go_upto_region 9 with fail
      have r1 : w6.drew.cell? ⟨V1, 0, none⟩ = some (.slice xa xl xc) ∧ w6.drew.cell? ⟨V1, 1, none⟩ = some (.slice ya yl yc) ∧ w6.drew.cell? ⟨V1, 2, none⟩ = some (.slice za zl zc) := ⟨P5.c0, P5.c1, P5.c2⟩
      go_region_held3 (fun u => u.cell? ⟨V1, 0, none⟩ = some (.slice xa xl xc) ∧ u.cell? ⟨V1, 1, none⟩ = some (.slice ya yl yc) ∧ u.cell? ⟨V1, 2, none⟩ = some (.slice za zl zc)) (first | exact r1 | exact r3 | exact r4) (first
        | (go_at_call 37
           (with_reducible refine (l20Joints _ _ _ 14 ⟨xa, xl, xc⟩ ⟨ya, yl, yc⟩ ⟨za, zl, zc⟩ ls _ _ _ k5 (by omega) (by omega) (by omega) Q5.out.ix Q5.out.iy Q5.out.iz lx ly lz Q5.out.sy Q5.out.sz).mono ?_)
           rintro e w6 ⟨⟨ja, jl, jc⟩, js, rfl, ij, lj, kj, hr6, hg6⟩
           have P6 := P5.kept hg6 (by simpa using nV1r)
           have r3 : w6.cell? ⟨V1, 0, none⟩ = some (.slice xa xl xc) ∧ w6.cell? ⟨V1, 1, none⟩ = some (.slice ya yl yc) ∧ w6.cell? ⟨V1, 2, none⟩ = some (.slice za zl zc) := ⟨P6.c0, P6.c1, P6.c2⟩
           have P7 := ((P6.far (c := w.heap.size) (o := 0) nRV (.slice xa xl xc)).far (c := w.heap.size) (o := 1) nRV (.slice ya yl yc)).far (c := w.heap.size) (o := 2) nRV (.slice za zl zc)
           have r4 := And.intro P7.c0 (And.intro P7.c1 P7.c2)
           obtain ⟨_, t0, t1, t2, u0, u1, u2⟩ := id (Q5.out.res.kept hg6 (by simp)))
        | fail)
      have Q6 := Q5.out.grown hr6 hg6 (by omega) hV1
      have G7 := Lib.hid ((GSt.start (rs := [w.heap.size]) hr6 Q6.old).set3 (k := w.heap.size) (by simp) (Nat.le_refl _) (by omega) (.slice xa xl xc) (.slice ya yl yc) (.slice za zl zc))
      have HF := Lib.hid (And.intro (G7.out.ints10 Q6.ix hrs).ints (And.intro (G7.out.ints10 Q6.iy hrs).ints (And.intro (G7.out.ints10 Q6.iz hrs).ints (G7.out.ints10 (ij.down (base' := w.heap.size + 1 + 1) (by omega)) hrs).ints)))
      have HO := Lib.hid G7.out.old
      have HLJ := Lib.hid (And.intro lj kj)
      clear r1 r3 r4 P5 P6 P7 k5 G7 Q6 Q5 ij hr6 hg6 lj kj
      go_wp2
      exact bodyPost_ret (v := .tuple #[av ⟨xa, xl, xc⟩ ⟨ya, yl, yc⟩ ⟨za, zl, zc⟩, .slice ja jl jc]) (by simp [results, Tryd.results15, go_sem, t0, t1, t2]) rfl
        ⟨⟨xa, xl, xc⟩, ⟨ya, yl, yc⟩, ⟨za, zl, zc⟩, ⟨ja, jl, jc⟩, ls, _, _, js, rfl, HF.out, ⟨lx, ly, lz, by have := HLJ.out.1; simp only; omega⟩, ⟨kx, ky, kz, HLJ.out.2⟩, HO.out⟩
  · have e1 : (x1 == 0) = false := by simpa using hx
    clear hx
    have HQ := Lib.hid Q5.out
    clear Q5
    have Q5 := Lib.hid (HQ.out.next (below_drew' w5))
    have P5 := Q5.out.var
    have k5 := Q5.out.rd
    have hs5 : w.heap.size + 1 < w5.drew.heap.size := k5.lt
    clear HQ
    go_upto_region 9 with fail
    have r1 : w5.drew.cell? ⟨V1, 0, none⟩ = some (.slice xa xl xc) ∧ w5.drew.cell? ⟨V1, 1, none⟩ = some (.slice ya yl yc) ∧ w5.drew.cell? ⟨V1, 2, none⟩ = some (.slice za zl zc) := ⟨P5.c0, P5.c1, P5.c2⟩
    go_region_held3 (fun u => u.cell? ⟨V1, 0, none⟩ = some (.slice xa xl xc) ∧ u.cell? ⟨V1, 1, none⟩ = some (.slice ya yl yc) ∧ u.cell? ⟨V1, 2, none⟩ = some (.slice za zl zc)) (first | exact r1 | exact r3 | exact r4) (first
      | (go_at_call 37
         (with_reducible refine (l20Joints _ _ _ 14 ⟨xa, xl, xc⟩ ⟨ya, yl, yc⟩ ⟨za, zl, zc⟩ ls _ _ _ k5 (by omega) (by omega) (by omega) Q5.out.ix Q5.out.iy Q5.out.iz lx ly lz Q5.out.sy Q5.out.sz).mono ?_)
         rintro e w6 ⟨⟨ja, jl, jc⟩, js, rfl, ij, lj, kj, hr6, hg6⟩
         have P6 := P5.kept hg6 (by simpa using nV1r)
         have r3 : w6.cell? ⟨V1, 0, none⟩ = some (.slice xa xl xc) ∧ w6.cell? ⟨V1, 1, none⟩ = some (.slice ya yl yc) ∧ w6.cell? ⟨V1, 2, none⟩ = some (.slice za zl zc) := ⟨P6.c0, P6.c1, P6.c2⟩
         have P7 := ((P6.far (c := w.heap.size) (o := 0) nRV (.slice xa xl xc)).far (c := w.heap.size) (o := 1) nRV (.slice ya yl yc)).far (c := w.heap.size) (o := 2) nRV (.slice za zl zc)
         have r4 := And.intro P7.c0 (And.intro P7.c1 P7.c2)
         obtain ⟨_, t0, t1, t2, u0, u1, u2⟩ := id (Q5.out.res.kept hg6 (by simp)))
      | fail)
    have Q6 := Q5.out.grown hr6 hg6 (by omega) hV1
    have G7 := Lib.hid ((GSt.start (rs := [w.heap.size]) hr6 Q6.old).set3 (k := w.heap.size) (by simp) (Nat.le_refl _) (by omega) (.slice xa xl xc) (.slice ya yl yc) (.slice za zl zc))
    have HF := Lib.hid (And.intro (G7.out.ints10 Q6.ix hrs).ints (And.intro (G7.out.ints10 Q6.iy hrs).ints (And.intro (G7.out.ints10 Q6.iz hrs).ints (G7.out.ints10 (ij.down (base' := w.heap.size + 1 + 1) (by omega)) hrs).ints)))
    have HO := Lib.hid G7.out.old
    have HLJ := Lib.hid (And.intro lj kj)
    clear r1 r3 r4 P5 P6 P7 k5 G7 Q6 Q5 ij hr6 hg6 lj kj
    go_wp2
    exact bodyPost_ret (v := .tuple #[av ⟨xa, xl, xc⟩ ⟨ya, yl, yc⟩ ⟨za, zl, zc⟩, .slice ja jl jc]) (by simp [results, Tryd.results15, go_sem, t0, t1, t2]) rfl
      ⟨⟨xa, xl, xc⟩, ⟨ya, yl, yc⟩, ⟨za, zl, zc⟩, ⟨ja, jl, jc⟩, ls, _, _, js, rfl, HF.out, ⟨lx, ly, lz, by have := HLJ.out.1; simp only; omega⟩, ⟨kx, ky, kz, HLJ.out.2⟩, HO.out⟩
end Go.Proofs.YtcifokihellcdaaDoor
