/- The walk of the exact law on SceneValid. -/
import Derived.Test.YtcifokihellcdaaSc10
namespace Go.Proofs.Ytcifokihellcdaa
set_option maxRecDepth 100000
open Go.RowKit
attribute [local go_sem ↓] Go.wp_at_zero Go.wp_at_succ
theorem szAll {x : Int} {len : Nat} {pss : List (List P2)} (hx : Sz9 1048576 len pss x) (h : 0 ≤ x) : len ≤ 1048576 ∧ ∀ i, i < len → (pss.getD i []).length ≤ 1048576 := by
  rcases hx with rfl | ⟨_, _, h2, h3⟩
  · omega
  · exact ⟨by omega, fun i hi => by have := h3 i hi; omega⟩
set_option maxHeartbeats 2000000 in
theorem walkFnExactSceneValid (s : Sl) (pss : List (List P2)) (w : World) (h : PssIn w s.a s.len pss) (hl : s.len ≤ 9223372036854775807) :
    Calls Try.prog 4 #[.slice s.a s.len s.cap] w fun e w' => e = .returned (.bool true) ∧ Below w.heap.size w w' := by
  obtain ⟨x, hx, HSZ⟩ := szPointSS s.a s.len s.cap 1048576 pss h (by omega) (by omega) hl
  replace HSZ := Lib.hid HSZ
  have HH := Lib.hid h
  by_cases hs : 0 ≤ x
  · have HR := Lib.hid (szAll hx hs)
    have n0 : ¬ (x < 0) := by omega
    clear hx h
    obtain ⟨v, hv⟩ : ∃ v, decide (scnV pss) = v := ⟨_, rfl⟩
    have HSP := Lib.hid (fun (a : Option Addr) (c : Nat) (u : World) (hu : PSS u a s.len pss) => specSceneValid a s.len c pss u hu hl)
    have HIM := Lib.hid (fun (a : Option Addr) (c : Nat) (u : World) (hu : PSS u a s.len pss) => implSceneValid a s.len c pss u hu hl)
    rw [hv] at HSP HIM
    have e0 : (v != v) = false := by simp
    clear hv
    go_enter Try.func4, Try.ntmps4
    go_wp2_with fail
    refine (HSZ.out _ (Below.refl _ _)).mono ?_
    rintro e w' ⟨rfl, rfl⟩
    clear HSZ hs
    go_wp2_with fail
    refine (toPointSS s.a s.len s.cap pss _ HH.out HR.out.1 HR.out.2).mono ?_
    rintro e w1 ⟨rfl, O1, B1⟩
    have HB1 := Lib.hid B1
    have O1' := Lib.hid O1.pss
    clear B1 O1
    go_wp2_with fail
    refine (HSP.out _ _ _ O1'.out).mono ?_
    rintro e w2 ⟨rfl, B2⟩
    have HB2 := Lib.hid (below_call HB1.out B2)
    clear B2
    go_wp2_with fail
    refine (toPointSS s.a s.len s.cap pss _ (HH.out.next HB2.out) HR.out.1 HR.out.2).mono ?_
    rintro e w3 ⟨rfl, O3, B3⟩
    have HB3 := Lib.hid (below_call HB2.out B3)
    have HO3 := Lib.hid O3
    clear B3 O3
    go_wp2_with fail
    refine (HIM.out _ _ _ HO3.out.pss).mono ?_
    rintro e w4 ⟨rfl, B4⟩
    have HB4 := Lib.hid (below_call HB3.out B4)
    replace HO3 := Lib.hid (HO3.out.next B4)
    clear B4
    go_wp2_with fail
    refine (toPointSS s.a s.len s.cap pss _ (HH.out.next HB4.out) HR.out.1 HR.out.2).mono ?_
    rintro e w5 ⟨rfl, O5, B5⟩
    have HB5 := Lib.hid (below_call HB4.out B5)
    replace HO3 := Lib.hid (HO3.out.next B5)
    clear B5
    go_wp2_with fail
    refine (eqPointSS _ _ _ _ _ _ pss _ HO3.out O5 HR.out.1 HR.out.2).mono ?_
    rintro e w6 ⟨rfl, B6⟩
    have HB6 := Lib.hid (below_call HB5.out B6)
    clear B6 O5
    go_wp2
    go_ret
    exact ⟨rfl, HB6.out⟩
  · obtain rfl : x = -1 := by rcases hx with k | ⟨k, _⟩ <;> omega
    clear hx h
    go_enter Try.func4, Try.ntmps4
    go_wp2_with fail
    refine (HSZ.out _ (Below.refl _ _)).mono ?_
    rintro e w' ⟨rfl, rfl⟩
    go_wp2
    go_ret
    exact ⟨rfl, Below.refl _ _⟩
end Go.Proofs.Ytcifokihellcdaa
