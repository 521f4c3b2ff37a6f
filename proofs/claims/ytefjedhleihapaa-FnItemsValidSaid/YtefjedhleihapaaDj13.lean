/- What the laws on the conveyor draw: items, and items with a speed and a window. -/
import Derived.Test.YtefjedhleihapaaD13
import Derived.Test.YtefjedhleihapaaDi13
namespace Go.Proofs.Ytefjedhleihapaa
set_option maxRecDepth 100000
open Go.RowKit
attribute [local go_sem ↓] Go.wp_at_zero Go.wp_at_succ
/-- Items are drawn. -/
def GotI (w : World) (e : Ending) (w' : World) : Prop :=
  ∃ (s : Sl) (ps : List (Int × Int)), e = .returned (.slice s.a s.len s.cap) ∧ s.len = ps.length ∧ ps.length ≤ 16 ∧ Itm.OwnPt w' w.heap.size (.slice s.a s.len s.cap) ps ∧ Below w.heap.size w w'
/-- Items, a speed and a window are drawn. -/
def GotIW (w : World) (e : Ending) (w' : World) : Prop :=
  ∃ (s : Sl) (ps : List (Int × Int)) (v lo hi : Int), e = .returned (.tuple #[.slice s.a s.len s.cap, .int .i64 v, .int .i64 lo, .int .i64 hi]) ∧ s.len = ps.length ∧ ps.length ≤ 16 ∧ (-20 ≤ lo ∧ lo ≤ 39) ∧ (-80 ≤ hi ∧ hi ≤ 78) ∧ Itm.OwnPt w' w.heap.size (.slice s.a s.len s.cap) ps ∧ Below w.heap.size w w'
theorem drawItemsValid (w : World) (a : Option Addr) (len cap : Nat) (zs : List Int) (h : Bytes w a len cap zs) :
    Calls Try.prog 11 #[.slice a len cap] w (GotI w) := by
  go_enter Try.func11, Try.ntmps11
  go_wp2_with fail
  refine (gopen w _ a len cap zs h (Below.refl _ _) w.heap.size rfl).mono ?_
  rintro e w1 ⟨rfl, hr1, hb1⟩
  have HR1 := Lib.hid hr1
  have HB1 := Lib.hid hb1
  clear hb1 h hr1
  go_wp2_with fail
  refine (Itm.l20Items w.heap.size 0 w.heap.size 2 w1 HR1.out (by omega) (by omega) (by omega)).mono ?_
  rintro e w2 ⟨s, ps, rfl, hsl, hn, _, S⟩
  have HB2 := Lib.hid (HB1.out.grown S.gr HB1.out.size (fun q hq => by injection hq with hq; omega))
  have HO2 := Lib.hid (S.row.down6 HB1.out.size)
  have HSL := Lib.hid hsl
  have HN := Lib.hid hn
  clear S hsl hn
  go_wp2
  go_ret
  exact ⟨s, ps, rfl, HSL.out, HN.out, HO2.out, HB2.out⟩
theorem drawPickPlan (w : World) (a : Option Addr) (len cap : Nat) (zs : List Int) (h : Bytes w a len cap zs) :
    Calls Try.prog 18 #[.slice a len cap] w (GotIW w) := by
  go_enter Try.func18, Try.ntmps18
  go_wp2_with fail
  refine (gopen w _ a len cap zs h (Below.refl _ _) w.heap.size rfl).mono ?_
  rintro e w1 ⟨rfl, hr1, hb1⟩
  have HR1 := Lib.hid hr1
  have HB1 := Lib.hid hb1
  clear hb1 h hr1
  go_wp2_with fail
  refine (Itm.l20Items w.heap.size 0 w.heap.size 12 w1 HR1.out (by omega) (by omega) (by omega)).mono ?_
  rintro e w2 ⟨⟨sa, sl, sc⟩, ps, rfl, hsl, hn, _, S⟩
  have HB2 := Lib.hid (HB1.out.grown S.gr HB1.out.size (fun q hq => by injection hq with hq; omega))
  have HO2 := Lib.hid S.row
  have HR2 := Lib.hid S.rd
  have HSL := Lib.hid hsl
  have HN := Lib.hid hn
  have HLT := Lib.hid HR1.out.lt
  clear S hsl hn HR1
  go_wp2_with fail
  refine (l20Window w w2 _ w.heap.size HR2.out HB2.out (by omega)).mono ?_
  rintro e w3 ⟨v, lo, hi, hs, hlo, hhi, rfl, N3, hN3, G3⟩
  have HO3 := Lib.hid (Itm.OwnPt.down6 (HO2.out.same fun g hg => G3.keep g (World.ownsRow.lt HO2.out g hg).2 (by have := (World.ownsRow.lt HO2.out g hg).1; have := HLT.out; omega) (by simp)) HB1.out.size)
  have HB3 := Lib.hid G3.old
  have HLO := Lib.hid hlo
  have HHI := Lib.hid hhi
  clear G3 hs hlo hhi hN3
  go_wp2
  exact bodyPost_ret (v := .tuple #[.slice sa sl sc, .int .i64 v, .int .i64 lo, .int .i64 hi]) (by simp [results, Try.results18, go_sem]) rfl ⟨⟨sa, sl, sc⟩, ps, v, lo, hi, rfl, HSL.out, HN.out, HLO.out, HHI.out, HO3.out, HB3.out⟩
theorem drawMissedItems (w : World) (a : Option Addr) (len cap : Nat) (zs : List Int) (h : Bytes w a len cap zs) :
    Calls Try.prog 22 #[.slice a len cap] w (GotIW w) := by
  go_enter Try.func22, Try.ntmps22
  go_wp2_with fail
  refine (drawPickPlan w a len cap zs h).mono ?_
  rintro e w2 ⟨⟨sa, sl, sc⟩, ps, v, lo, hi, rfl, hsl, hn, hlo, hhi, ho, hb⟩
  have HC := Lib.hid (And.intro hsl (And.intro hn (And.intro hlo (And.intro hhi (And.intro ho hb)))))
  clear h hsl hn hlo hhi ho hb
  go_wp2
  exact bodyPost_ret (v := .tuple #[.slice sa sl sc, .int .i64 v, .int .i64 lo, .int .i64 hi]) (by simp [results, Try.results22, go_sem]) rfl ⟨⟨sa, sl, sc⟩, ps, v, lo, hi, rfl, HC.out.1, HC.out.2.1, HC.out.2.2.1, HC.out.2.2.2.1, HC.out.2.2.2.2.1, HC.out.2.2.2.2.2⟩
end Go.Proofs.Ytefjedhleihapaa
