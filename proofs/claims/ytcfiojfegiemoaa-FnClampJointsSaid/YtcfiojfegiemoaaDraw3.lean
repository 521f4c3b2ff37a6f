/- What the laws over arms draw: an arm. -/
import Derived.Test.YtcfiojfegiemoaaDrawB
namespace Go.Proofs.Ytcfiojfegiemoaa
open Go.RowKit
attribute [local go_sem ↓] Go.wp_at_zero Go.wp_at_succ
/-- A drawn arm: its lists are short, its numbers small; nothing that was there has changed. -/
def GotArm (w : World) (e : Ending) (w' : World) : Prop :=
  ∃ (x y z : Sl) (ls lo hi : List Int), e = .returned (av x y z) ∧ IntsAt w' x.a x.len ls ∧ IntsAt w' y.a y.len lo ∧ IntsAt w' z.a z.len hi ∧ x.len ≤ 5 ∧ y.len ≤ 4 ∧ z.len ≤ 4 ∧ x.len ≤ x.cap ∧ y.len ≤ y.cap ∧ z.len ≤ z.cap ∧ Sm 2000 ls ∧ Sm 2000 lo ∧ Sm 2000 hi ∧ Below w.heap.size w w'
theorem below_of' {w w1 w2 : World} {r : Nat} (hb : Below w.heap.size w w1) (hg : w1.grownBy w2 (some r)) (hr : w.heap.size ≤ r) : Below w.heap.size w w2 :=
  hb.grown hg hb.size (fun k hk => by injection hk with hk; omega)
theorem drawArmValid (w : World) (a : Option Addr) (len cap : Nat) (zs : List Int) (h : Bytes w a len cap zs) :
    Calls Try.prog 11 #[.slice a len cap] w (GotArm w) := by
  have HB := Lib.hid (below_box w (.cells #[.slice none 0 0, .slice none 0 0, .slice none 0 0] 25))
  have R := AtA.box w (.slice none 0 0) (.slice none 0 0) (.slice none 0 0) 25
  go_enter Try.func11, Try.ntmps11
  go_wp2_with fail
  refine (open_code _ a len cap zs (h.below HB.out)).mono ?_
  generalize w.alloc (.cells #[.slice none 0 0, .slice none 0 0, .slice none 0 0] 25) = w0 at *
  rintro e w1 ⟨rfl, hr1, hb1, hs1⟩
  have hR := R.lt
  have R1 := R.next hb1
  have HB1 := Lib.hid (below_call HB.out hb1)
  clear hs1 hb1 R h
  go_wp2_with fail
  refine (pick _ _ _ 4 _ hr1 (by omega)).mono ?_
  rintro e w2 ⟨x, a1, b1, rfl, hr2, hg2, hs2⟩
  have b2 := b1 (by omega)
  have R2 := R1.kept hg2 (by simp; omega)
  have HB2 := Lib.hid (below_of' HB1.out hg2 (by omega))
  obtain ⟨m, hm⟩ : ∃ m : Nat, 1 + x = (m : Int) := ⟨(1 + x).toNat, by omega⟩
  clear b1 hs2 hg2 hr1 R1
  go_wp2_with fail
  refine (l20Arm _ _ _ m 2 _ hr2 (by omega) (by omega) (by omega) (by omega) (by omega)).mono ?_
  rintro e w3 ⟨x, y, z, ls, lo, hi, rfl, i1, i2, i3, lx, ly, lz, kx, ky, kz, sx, sy, sz, hr3, hg3⟩
  have R3 := R2.kept hg3 (by simp; omega)
  have HB3 := Lib.hid (below_of' HB2.out hg3 (by omega))
  have hlt : w.heap.size < w2.heap.size := R2.lt
  have HI := Lib.hid (fun a b c => And.intro ((((i1.off (c := w.heap.size) (o := 0) hlt a).off (c := w.heap.size) (o := 1) hlt b).off (c := w.heap.size) (o := 2) hlt c).ints) (And.intro ((((i2.off (c := w.heap.size) (o := 0) hlt a).off (c := w.heap.size) (o := 1) hlt b).off (c := w.heap.size) (o := 2) hlt c).ints) ((((i3.off (c := w.heap.size) (o := 0) hlt a).off (c := w.heap.size) (o := 1) hlt b).off (c := w.heap.size) (o := 2) hlt c).ints)))
  have HS := Lib.hid (And.intro sx (And.intro sy sz))
  obtain ⟨_, r0, r1, r2, y0, y1, y2⟩ := id R3
  clear i1 i2 i3 sx sy sz hr3 hg3 hr2 R2 hm
  go_wp2
  refine bodyPost_ret (v := av x y z) (by simp [results, Try.results11, go_sem, r0, r1, r2]) rfl ⟨x, y, z, ls, lo, hi, rfl, (HI.out _ _ _).1, (HI.out _ _ _).2.1, (HI.out _ _ _).2.2, lx, ly, lz, kx, ky, kz, HS.out.1, HS.out.2.1, HS.out.2.2, ?_⟩
  exact ((HB3.out.setCell (p := ⟨w.heap.size, 0, none⟩) (Nat.le_refl _) _).setCell (p := ⟨w.heap.size, 1, none⟩) (Nat.le_refl _) _).setCell (p := ⟨w.heap.size, 2, none⟩) (Nat.le_refl _) _
theorem drawReachOf (w : World) (a : Option Addr) (len cap : Nat) (zs : List Int) (h : Bytes w a len cap zs) :
    Calls Try.prog 18 #[.slice a len cap] w (GotArm w) := by
  have HB := Lib.hid (below_box w (.cells #[.slice none 0 0, .slice none 0 0, .slice none 0 0] 25))
  have R := AtA.box w (.slice none 0 0) (.slice none 0 0) (.slice none 0 0) 25
  go_enter Try.func18, Try.ntmps18
  go_wp2_with fail
  refine (open_code _ a len cap zs (h.below HB.out)).mono ?_
  generalize w.alloc (.cells #[.slice none 0 0, .slice none 0 0, .slice none 0 0] 25) = w0 at *
  rintro e w1 ⟨rfl, hr1, hb1, hs1⟩
  have hR := R.lt
  have R1 := R.next hb1
  have HB1 := Lib.hid (below_call HB.out hb1)
  clear hs1 hb1 R h
  go_wp2_with fail
  refine (pick _ _ _ 4 _ hr1 (by omega)).mono ?_
  rintro e w2 ⟨x, a1, b1, rfl, hr2, hg2, hs2⟩
  have b2 := b1 (by omega)
  have R2 := R1.kept hg2 (by simp; omega)
  have HB2 := Lib.hid (below_of' HB1.out hg2 (by omega))
  obtain ⟨m, hm⟩ : ∃ m : Nat, 1 + x = (m : Int) := ⟨(1 + x).toNat, by omega⟩
  clear b1 hs2 hg2 hr1 R1
  go_wp2_with fail
  refine (l20Arm _ _ _ m 9 _ hr2 (by omega) (by omega) (by omega) (by omega) (by omega)).mono ?_
  rintro e w3 ⟨x, y, z, ls, lo, hi, rfl, i1, i2, i3, lx, ly, lz, kx, ky, kz, sx, sy, sz, hr3, hg3⟩
  have R3 := R2.kept hg3 (by simp; omega)
  have HB3 := Lib.hid (below_of' HB2.out hg3 (by omega))
  have hlt : w.heap.size < w2.heap.size := R2.lt
  have HI := Lib.hid (fun a b c => And.intro ((((i1.off (c := w.heap.size) (o := 0) hlt a).off (c := w.heap.size) (o := 1) hlt b).off (c := w.heap.size) (o := 2) hlt c).ints) (And.intro ((((i2.off (c := w.heap.size) (o := 0) hlt a).off (c := w.heap.size) (o := 1) hlt b).off (c := w.heap.size) (o := 2) hlt c).ints) ((((i3.off (c := w.heap.size) (o := 0) hlt a).off (c := w.heap.size) (o := 1) hlt b).off (c := w.heap.size) (o := 2) hlt c).ints)))
  have HS := Lib.hid (And.intro sx (And.intro sy sz))
  obtain ⟨_, r0, r1, r2, y0, y1, y2⟩ := id R3
  clear i1 i2 i3 sx sy sz hr3 hg3 hr2 R2 hm
  go_wp2
  refine bodyPost_ret (v := av x y z) (by simp [results, Try.results18, go_sem, r0, r1, r2]) rfl ⟨x, y, z, ls, lo, hi, rfl, (HI.out _ _ _).1, (HI.out _ _ _).2.1, (HI.out _ _ _).2.2, lx, ly, lz, kx, ky, kz, HS.out.1, HS.out.2.1, HS.out.2.2, ?_⟩
  exact ((HB3.out.setCell (p := ⟨w.heap.size, 0, none⟩) (Nat.le_refl _) _).setCell (p := ⟨w.heap.size, 1, none⟩) (Nat.le_refl _) _).setCell (p := ⟨w.heap.size, 2, none⟩) (Nat.le_refl _) _
end Go.Proofs.Ytcfiojfegiemoaa
