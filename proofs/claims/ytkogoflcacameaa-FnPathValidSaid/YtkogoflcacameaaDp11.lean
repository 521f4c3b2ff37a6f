/- What the laws on planned paths draw: a table and two cells; cells. -/
import Derived.Test.YtkogoflcacameaaTc11
import Derived.Deep.RegionHeld3
import Derived.Outline
namespace Go.Proofs.Ytkogoflcacameaa
set_option maxRecDepth 100000
open Go.RowKit
attribute [local go_sem ↓] Go.wp_at_zero Go.wp_at_succ
theorem AtP.kept11 {w w' : World} {b : Nat} {x y : Int} {row : Option Nat} (h : AtP w b x y) (hg : w.grownBy w' row) (hne : row ≠ some b) : AtP w' b x y := h.row11 hg hne
theorem AtP.far11 {w : World} {b c o : Nat} {x y : Int} (h : AtP w b x y) (hc : c ≠ b) (v : Value) : AtP (w.setCell ⟨c, o, none⟩ v) b x y :=
  ⟨by simpa [World.setCell] using h.lt, (World.cell?_setCell_far _ _ _ _ hc).trans h.c0, (World.cell?_setCell_far _ _ _ _ hc).trans h.c1⟩
theorem grown_setT (w : World) (c o : Nat) (v : Value) : w.grownBy (w.setCell ⟨c, o, none⟩ v) (some c) :=
  ⟨rfl, rfl, rfl, by simp [World.setCell], fun i hi hne => Below.heap_setCell w _ _ i (by rintro rfl; exact hne rfl)⟩
theorem TabF.off {w : World} {B c o : Nat} {s : Sl} {T : List (List Bool)} (h : TabF w B s T) (hc : c < B) (v : Value) : TabF (w.setCell ⟨c, o, none⟩ v) B s T :=
  h.kept (grown_setT w c o v) (fun k e => by injection e with e; omega)
/-- The table's sizes. -/
def SzT (T : List (List Bool)) : Prop := (1 ≤ T.length ∧ T.length ≤ 6) ∧ ∀ i, i < T.length → 1 ≤ (T.getD i []).length ∧ (T.getD i []).length ≤ 7
/-- A drawn cell. -/
def SmC2 (c : C2) : Prop := -1 ≤ c.1 ∧ c.1 ≤ 6 ∧ 0 ≤ c.2 ∧ c.2 ≤ 6
/-- What the draw of a table and two cells says. -/
def GotPP (w : World) (e : Ending) (w' : World) : Prop :=
  ∃ (s : Sl) (T : List (List Bool)) (a b : C2), e = .returned (.tuple #[.slice s.a s.len s.cap, pt a.1 a.2, pt b.1 b.2]) ∧ TabF w' w.heap.size s T ∧ SzT T ∧ SmC2 a ∧ SmC2 b ∧ Below w.heap.size w w'
set_option maxHeartbeats 4000000 in
theorem drawPlanPath (w : World) (a : Option Addr) (len cap : Nat) (zs : List Int) (h : Bytes w a len cap zs) :
    Calls Try.prog 18 #[.slice a len cap] w (GotPP w) := by
  have HB := Lib.hid (below_box2 w (.cells #[.int .i64 0, .int .i64 0] 33) (.cells #[.int .i64 0, .int .i64 0] 33))
  have O10 := (OwnP.box w 0 0 33).next (below_box _ (.cells #[.int .i64 0, .int .i64 0] 33))
  have O20 := OwnP.box (w.alloc (.cells #[.int .i64 0, .int .i64 0] 33)) 0 0 33
  rw [show (w.alloc (.cells #[.int .i64 0, .int .i64 0] 33)).heap.size = w.heap.size + 1 by simp] at O20
  go_enter Try.func18, Try.ntmps18
  go_wp2_with fail
  refine (gopen w _ a len cap zs h HB.out (w.heap.size + 1 + 1) (by simp)).mono ?_
  rintro e w1 ⟨rfl, hr1, hb1⟩
  have O11 := O10.next hb1
  have O21 := O20.next hb1
  have H1 := below_call HB.out hb1
  have hlt1 := hr1.lt
  clear O10 O20 HB hb1 h
  go_wp2_with fail
  refine (drawTable _ _ _ 14 _ hr1 (by omega) (by omega) (by omega)).mono ?_
  rintro e w2 ⟨s, T, rfl, hF2, hT1, hT2, hr2, hg2⟩
  have O12 := O11.grown hg2 (by omega)
  have O22 := O21.grown hg2 (by omega)
  have H2 := H1.grown hg2 H1.size (fun k hk => by injection hk with hk; omega)
  have HSZ := Lib.hid (show SzT T from ⟨hT1, hT2⟩)
  have hT3 := hT2 0 (by omega)
  clear O11 O21 H1 hg2 hr1 hT2
  go_wp2_with fail
  refine (drawCell w _ _ _ _ s T hr2 H2 (by omega) hF2 (by omega) hT1 hT3).mono ?_
  rintro e w3 ⟨⟨cx, cy⟩, hc, rfl, hr3, hg3⟩
  simp only at hc
  have HC := Lib.hid (show SmC2 (cx, cy) from hc)
  have O13 := O12.grown hg3 (by omega)
  have O23 := O22.grown hg3 (by omega)
  have H3 := H2.grown hg3 H2.size (fun k hk => by injection hk with hk; omega)
  have hF3 := hF2.kept hg3 (fun k hk => by injection hk with hk; omega)
  have hlt3 := hr3.lt
  have B4 := below_box w3 (.cells #[.int .i64 cx, .int .i64 cy] 33)
  have P4 := AtP.box w3 cx cy 33
  have B5 := below_drew' (w3.alloc (.cells #[.int .i64 cx, .int .i64 cy] 33))
  have hr5 := (hr3.alloc (.cells #[.int .i64 cx, .int .i64 cy] 33)).drew
  have H5 := below_call (below_call H3 B4) B5
  have hF5 := (hF3.next B4).next B5
  have O15 := (O13.next B4).next B5
  have O25 := (O23.next B4).next B5
  have P5 := P4.next B5
  obtain ⟨V, hV⟩ : ∃ V, w3.heap.size = V := ⟨_, rfl⟩
  rw [hV] at P5 P4 hlt3
  clear hr2 hg3 hF2 hF3 O12 O22 O13 O23 H2 H3 B4 B5 hc hr3
  go_upto_region 4 with fail
  clear hV
  generalize w3.alloc (.cells #[.int .i64 cx, .int .i64 cy] 33) = w4 at *
  have r1 : w4.drew.cell? ⟨V, 0, none⟩ = some (.int .i64 cx) ∧ w4.drew.cell? ⟨V, 1, none⟩ = some (.int .i64 cy) := ⟨P5.c0, P5.c1⟩
  have nV1 : w.heap.size ≠ V := by omega
  have nV2 : w.heap.size + 1 ≠ V := by omega
  have nR : w.heap.size ≠ w.heap.size + 1 := by omega
  go_region_held3 (fun u => u.cell? ⟨V, 0, none⟩ = some (.int .i64 cx) ∧ u.cell? ⟨V, 1, none⟩ = some (.int .i64 cy)) (first | exact r1 | exact r3 | exact r4 | exact r5) (first
    | (go_at_call 42
       (with_reducible refine (drawCell w _ _ _ _ s T hr5 H5 (by omega) hF5 (by omega) hT1 hT3).mono ?_)
       rintro e w6 ⟨⟨dx, dy⟩, hd, rfl, hr6, hg6⟩
       have P6 := P5.kept11 hg6 (by simp; omega)
       have r3 : w6.cell? ⟨V, 0, none⟩ = some (.int .i64 cx) ∧ w6.cell? ⟨V, 1, none⟩ = some (.int .i64 cy) := ⟨P6.c0, P6.c1⟩
       have P7 := (P6.far11 (c := w.heap.size) (o := 0) nV1 (.int .i64 cx)).far11 (c := w.heap.size) (o := 1) nV1 (.int .i64 cy)
       have r4 := And.intro P7.c0 P7.c1
       have P8 := (P7.far11 (c := w.heap.size + 1) (o := 0) nV2 (.int .i64 dx)).far11 (c := w.heap.size + 1) (o := 1) nV2 (.int .i64 dy)
       have r5 := And.intro P8.c0 P8.c1
       obtain ⟨⟨_, t0, t1⟩, u0, u1⟩ := id (O15.grown hg6 (by omega))
       obtain ⟨⟨_, t2, t3⟩, u2, u3⟩ := id (O25.grown hg6 (by omega)))
    | fail)
  have HD := Lib.hid (show SmC2 (dx, dy) from hd)
  have hF6 := hF5.kept hg6 (fun k hk => by injection hk with hk; omega)
  have HF := Lib.hid (((((hF6.off (c := w.heap.size) (o := 0) (by omega) (.int .i64 cx)).off (c := w.heap.size) (o := 1) (by omega) (.int .i64 cy)).off (c := w.heap.size + 1) (o := 0) (by omega) (.int .i64 dx)).off (c := w.heap.size + 1) (o := 1) (by omega) (.int .i64 dy)).down (show w.heap.size ≤ w1.heap.size by omega))
  have H6 := Lib.hid ((((((H5.grown hg6 H5.size (fun k hk => by injection hk with hk; omega)).setCell (p := ⟨w.heap.size, 0, none⟩) (Nat.le_refl _) (.int .i64 cx))).setCell (p := ⟨w.heap.size, 1, none⟩) (Nat.le_refl _) (.int .i64 cy)).setCell (p := ⟨w.heap.size + 1, 0, none⟩) (by simp) (.int .i64 dx)).setCell (p := ⟨w.heap.size + 1, 1, none⟩) (by simp) (.int .i64 dy))
  clear hF5 hF6 H5 hg6 r1 r3 r4 r5 P5 P6 P7 P8 hr5 hr6 O15 O25 hT3 hT1 hd
  go_wp2
  exact bodyPost_ret (v := .tuple #[.slice s.a s.len s.cap, pt cx cy, pt dx dy]) (by simp [results, Try.results18, go_sem, t0, t1, t2, t3]) rfl
    ⟨s, T, (cx, cy), (dx, dy), rfl, HF.out, HSZ.out, HC.out, HD.out, H6.out⟩
end Go.Proofs.Ytkogoflcacameaa
