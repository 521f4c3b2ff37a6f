/- What the laws on turns draw from a code: two directions and a step. -/
import Derived.Test.YtpiabkihbbfmoaaDraw1
import Derived.Deep.RegionWith
import Derived.Deep.DrawnRows
namespace Go.Proofs.Ytpiabkihbbfmoaa
open Go.RowKit
attribute [local go_sem ↓] Go.wp_at_zero Go.wp_at_succ

theorem tab6 (x : Int) (h0 : 0 ≤ x) (h1 : x < 6) : ∃ t : Int, 0 ≤ t ∧ t < 4 ∧ ∀ h : x.toNat < 6, ([Value.int .i64 0, .int .i64 0, .int .i64 1, .int .i64 1, .int .i64 2, .int .i64 3] : List Value)[x.toNat]'h = .int .i64 t := by
  have hx : x = 0 ∨ x = 1 ∨ x = 2 ∨ x = 3 ∨ x = 4 ∨ x = 5 := by omega
  rcases hx with rfl | rfl | rfl | rfl | rfl | rfl
  · exact ⟨0, by omega, by omega, fun _ => rfl⟩
  · exact ⟨0, by omega, by omega, fun _ => rfl⟩
  · exact ⟨1, by omega, by omega, fun _ => rfl⟩
  · exact ⟨1, by omega, by omega, fun _ => rfl⟩
  · exact ⟨2, by omega, by omega, fun _ => rfl⟩
  · exact ⟨3, by omega, by omega, fun _ => rfl⟩
theorem tab4 (a b x : Int) (ha0 : 0 ≤ a) (ha1 : a < 181) (hb0 : 0 ≤ b) (hb1 : b < 9) (h0 : 0 ≤ x) (h1 : x < 4) : ∃ t : Int, -1 ≤ t ∧ t ≤ 181 ∧ ∀ h : x.toNat < 4, ([Value.int .i64 a, .int .i64 b, .int .i64 (-1), .int .i64 181] : List Value)[x.toNat]'h = .int .i64 t := by
  have hx : x = 0 ∨ x = 1 ∨ x = 2 ∨ x = 3 := by omega
  rcases hx with rfl | rfl | rfl | rfl
  · exact ⟨a, by omega, by omega, fun _ => rfl⟩
  · exact ⟨b, by omega, by omega, fun _ => rfl⟩
  · exact ⟨-1, by omega, by omega, fun _ => rfl⟩
  · exact ⟨181, by omega, by omega, fun _ => rfl⟩
theorem tab2 (a b x : Int) (ha0 : -9223372036854775808 ≤ a) (ha1 : a ≤ 9223372036854775807) (hb0 : -9223372036854775808 ≤ b) (hb1 : b ≤ 9223372036854775807) (h0 : 0 ≤ x) (h1 : x < 2) :
    ∃ t : Int, -9223372036854775808 ≤ t ∧ t ≤ 9223372036854775807 ∧ (#[Value.int .i64 a, .int .i64 b] : Array Value)[x.toNat]? = some (.int .i64 t) := by
  have hx : x = 0 ∨ x = 1 := by omega
  rcases hx with rfl | rfl
  · exact ⟨a, by omega, by omega, rfl⟩
  · exact ⟨b, by omega, by omega, rfl⟩
theorem tmod_1000 (x : Int) : -1000 < x.tmod 1000 ∧ x.tmod 1000 < 1000 := by
  rw [Int.tmod_eq_emod]; split <;> omega
/-- What a pick says, for a region that draws its order. -/
def PickedR (B M r : Nat) (n : Int) (w0 w : World) (e : Ending) (w' : World) : Prop :=
  ∃ x : Int, 0 ≤ x ∧ (1 ≤ n → x < n) ∧ e = .returned (.int .i64 x) ∧ Rd B (M + 1) w' r ∧ w0.grownBy w' (some r) ∧ w'.heap.size = w.heap.size ∧ ∀ b o, b ≠ r → b < w.heap.size → w'.cell? ⟨b, o, none⟩ = w.cell? ⟨b, o, none⟩
theorem pickR (B M r : Nat) (n : Int) (w0 w : World) (hr : Rd B M w r) (hM : M ≤ 1000000) (hg : w0.grownBy w (some r)) :
    Calls Try.prog 28 #[.pointer (some ⟨r, 0, none⟩), .int .i64 n] w (PickedR B M r n w0 w) :=
  (pick B M r n w hr hM).mono fun e w' ⟨x, h0, h1, h2, h3, h4, h5⟩ => ⟨x, h0, h1, h2, h3, hg.trans h4, h5, fun b o hb hlt => h4.cell_far ⟨b, o, none⟩ hlt (by simpa using hb)⟩
theorem Rd.drew {B M : Nat} {w : World} {r : Nat} (h : Rd B M w r) : Rd B M w.drew r := by
  obtain ⟨a, len, cap, p, hlen, hp, h0, h1, hf, hc⟩ := h.ex
  exact ⟨h.ge, h.lt, a, len, cap, p, hlen, by omega, h0, h1, hf, hc⟩
theorem only_drew {a w : World} {row : Option Nat} (h : a.grownBy w row) : a.grownBy w.drew row := ⟨h.os, h.tape, h.output, h.size, h.block⟩
set_option maxHeartbeats 1000000 in
theorem drawTurnToward (w : World) (a : Option Addr) (len cap : Nat) (zs : List Int) (h : Bytes w a len cap zs) :
    Calls Try.prog 21 #[.slice a len cap] w (Got3 w) := by
  go_enter Try.func21, Try.ntmps21
  go_wp2_with fail
  refine (open_code w a len cap zs h).mono ?_
  rintro e w1 ⟨rfl, hr1, hb1, hs1⟩
  have HS1 := Lib.hid hs1
  clear hs1
  go_wp2_with fail
  refine (l20Deg _ _ _ _ hr1 (by omega)).mono ?_
  rintro e w2 ⟨x, hx1, hx2, rfl, hr2, hg2⟩
  obtain ⟨m1, m2⟩ := tmod_1000 x
  go_wp2_with fail
  refine (l20Deg _ _ _ _ hr2 (by omega)).mono ?_
  rintro e w3 ⟨y, hy1, hy2, rfl, hr3, hg3⟩
  go_wp2_with fail
  refine (pick _ _ _ _ _ (by exact hr3.alloc _) (by omega)).mono ?_
  rintro e w4 ⟨z, hz0, hz1, rfl, hr4, hg4, hs4⟩
  have hz2 := hz1 (by omega)
  have hlt := hr3.lt
  have f0 := fun o => hg4.cell_far ⟨w3.heap.size, o, none⟩ (by simp) (by simp; omega)
  obtain ⟨y2, hy3, hy4, hT⟩ := tab2 y (x.tmod 1000 + 180) z hy1 hy2 (by omega) (by omega) hz0 hz2
  have fz : w4.cell? ⟨w3.heap.size, z.toNat, none⟩ = some (.int .i64 y2) := by rw [f0]; rw [World.cell?_alloc_at _ _ _ _ rfl]; exact hT
  have hn0 : ¬ w4.heap.size = w.heap.size := by rw [hs4]; simp; omega
  have hn1 : ¬ w4.heap.size + 1 = w.heap.size := by have := hr4.lt; omega
  have HB := Lib.hid (below_of hb1 ((hg2.trans hg3).trans ((only_alloc (World.grownBy.refl w3 (some w.heap.size)) _).trans hg4)))
  have gg : w4.grownBy w4 (some w.heap.size) := World.grownBy.refl _ _
  clear hs4 hz1 f0 hT hg4 hg3 hg2 hr3 hr2 hr1 hb1 HS1 h
  go_wp2
  go_region_with (first
    | (go_at_call_of 28 (Value.int IntKind.i64 181)
       refine (pickR w.heap.size ?_ _ _ w4 _ ?_ ?_ ?_).mono ?_
       rotate_left
       · repeat (first | (with_reducible assumption) | (with_reducible apply Rd.drew) | (with_reducible apply Rd.alloc))
       · omega
       · repeat (first | (with_reducible assumption) | (with_reducible apply only_drew) | (with_reducible apply only_alloc))
       rintro e u1 ⟨y1, p0, p1, rfl, k1, g1, s1, f1⟩
       have q1 := p1 (by omega)
       clear p1)
    | (go_at_call_of 28 (Value.int IntKind.i64 9)
       refine (pickR w.heap.size ?_ _ _ w4 _ ?_ ?_ ?_).mono ?_
       rotate_left
       · repeat (first | (with_reducible assumption) | (with_reducible apply Rd.drew) | (with_reducible apply Rd.alloc))
       · omega
       · repeat (first | (with_reducible assumption) | (with_reducible apply only_drew) | (with_reducible apply only_alloc))
       rintro e u2 ⟨y3, r0, r1, rfl, k2, g2, s2, f2⟩
       have q2 := r1 (by omega)
       clear r1)
    | (go_at_call_of 28 (Value.int IntKind.i64 6)
       refine (pickR w.heap.size ?_ _ _ w4 _ ?_ ?_ ?_).mono ?_
       rotate_left
       · repeat (first | (with_reducible assumption) | (with_reducible apply Rd.drew) | (with_reducible apply Rd.alloc))
       · omega
       · repeat (first | (with_reducible assumption) | (with_reducible apply only_drew) | (with_reducible apply only_alloc))
       rintro e u3 ⟨y4, t0, t1, rfl, k3, g3, s3, f3⟩
       have q3 := t1 (by omega)
       clear t1
       obtain ⟨y5, z0, z1, hT6⟩ := tab6 y4 t0 q3
       obtain ⟨y6, z2, z3, hT4⟩ := tab4 y1 y3 y5 p0 q1 r0 q2 z0 z1))
  all_goals
    go_wp2
    go_ret3
    refine ⟨x, y2, y6, hx1, hx2, hy3, hy4, by omega, by omega, rfl, below_of HB.out ?_⟩
    repeat (first | (with_reducible assumption) | (with_reducible apply only_drew) | (with_reducible apply only_alloc))
end Go.Proofs.Ytpiabkihbbfmoaa
