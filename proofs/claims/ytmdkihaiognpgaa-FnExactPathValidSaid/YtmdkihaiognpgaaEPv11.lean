/- The walk of the law FnExactPathValid: it returns true at every argument. -/
import Derived.Test.YtmdkihaiognpgaaPw11
namespace Go.Proofs.Ytmdkihaiognpgaa
set_option maxRecDepth 100000
open Go.RowKit
attribute [local go_sem ↓] Go.wp_at_zero Go.wp_at_succ
theorem Cel.PtsIn.next {w w' : World} {a : Option Addr} {len : Nat} {ps : List (Int × Int)} (h : Cel.PtsIn w a len ps) (hb : Below w.heap.size w w') : Cel.PtsIn w' a len ps :=
  ⟨h.1, h.2.imp id fun ⟨b, off, h1, h2, h3⟩ => ⟨b, off, h1, Nat.lt_of_lt_of_le h2 hb.size, fun i hi => ⟨(hb.cell (p := ⟨b, off + i * 2, none⟩) h2).trans (h3 i hi).1, (hb.cell (p := ⟨b, off + i * 2 + 1, none⟩) h2).trans (h3 i hi).2⟩⟩⟩
theorem szAllB {x : Int} {len : Nat} {T : List (List Bool)} (hx : Bol.Szi9 1048576 len T x) (h : 0 ≤ x) : x ≤ 1048576 ∧ len ≤ 1048576 ∧ ∀ i, i < len → (T.getD i []).length ≤ 1048576 := by
  rcases hx with rfl | ⟨_, h1, h2, h3⟩
  · omega
  · exact ⟨h1, by omega, fun i hi => by have := h3 i hi; omega⟩
set_option maxHeartbeats 2000000 in
theorem walkFnExactPathValid (s z : Sl) (T : List (List Bool)) (L : List (Int × Int)) (w : World) (h : Bol.RowIn10 w s.a s.len T) (hl : s.len ≤ 9223372036854775807) (h2 : Cel.PtsIn w z.a z.len L) (hl2 : z.len ≤ 9223372036854775807) :
    Calls Try.prog 12 #[.slice s.a s.len s.cap, .slice z.a z.len z.cap] w fun e w' => e = .returned (.bool true) ∧ Below w.heap.size w w' := by
  obtain ⟨x, hx, HSZ⟩ := Bol.szBoolSS s.a s.len s.cap 1048576 T h (by omega) (by omega) hl
  replace HSZ := Lib.hid HSZ
  have HH := Lib.hid h
  have HP := Lib.hid h2
  by_cases hs : 0 ≤ x
  · have HR := Lib.hid (szAllB hx hs)
    have n0 : ¬ (x < 0) := by omega
    have HSY := Lib.hid (Cel.szCellS z.a z.len z.cap x w hs HR.out.1 hl2)
    clear hx h h2
    by_cases hs2 : x < z.len
    · rw [if_pos hs2] at HSY
      go_enter Try.func12, Try.ntmps12
      go_wp2_with fail
      refine (HSZ.out _ (Below.refl _ _)).mono ?_
      rintro e w' ⟨rfl, rfl⟩
      go_wp2_with fail
      refine HSY.out.mono ?_
      rintro e w' ⟨rfl, rfl⟩
      go_wp2
      go_ret
      exact ⟨rfl, Below.refl _ _⟩
    · rw [if_neg hs2] at HSY
      have hz : z.len ≤ 1048576 := by have := HR.out.1; omega
      obtain ⟨y, hy⟩ : ∃ y : Int, x - (z.len : Int) = y := ⟨_, rfl⟩
      rw [hy] at HSY
      have n1 : ¬ (y < 0) := by omega
      clear hy
      have HSP := Lib.hid (fun (a : Option Addr) (c : Nat) (pa : Option Addr) (pc : Nat) (u : World) (hu : Bol.RSA u a s.len T) (hp : Cel.PtsAt u pa z.len L) => specPathValid a s.len c T pa z.len pc L u hu hl hp hl2)
      have HIM := Lib.hid (fun (a : Option Addr) (c : Nat) (pa : Option Addr) (pc : Nat) (u : World) (hu : Bol.RSA u a s.len T) (hp : Cel.PtsAt u pa z.len L) => implPathValid a s.len c T pa z.len pc L u hu hl hp hl2)
      obtain ⟨v, hv⟩ : ∃ v, decide (validV T L) = v := ⟨_, rfl⟩
      rw [hv] at HSP HIM
      have e0 : (v != v) = false := by simp
      clear hv hs2 hs
      go_enter Try.func12, Try.ntmps12
      go_wp2_with fail
      refine (HSZ.out _ (Below.refl _ _)).mono ?_
      rintro e w' ⟨rfl, rfl⟩
      go_wp2_with fail
      refine HSY.out.mono ?_
      rintro e w' ⟨rfl, rfl⟩
      clear HSZ HSY
      have HB := Lib.hid (Below.refl w.heap.size w)
      go_wp2_with fail
      refine (Bol.toBoolSS s.a s.len s.cap T _ (HH.out.next HB.out) HR.out.2.1 HR.out.2.2).mono ?_
      rintro e u1 ⟨rfl, R10, B⟩
      have R1 := Lib.hid (R10)
      replace HB := Lib.hid (below_call HB.out B)
      clear B R10
      go_wp2_with fail
      refine (Cel.toCellS z.a z.len z.cap L _ (HP.out.next HB.out) hz).mono ?_
      rintro e u2 ⟨rfl, P10, B⟩
      replace R1 := Lib.hid (R1.out.next B)
      have P1 := Lib.hid (P10.ints)
      replace HB := Lib.hid (below_call HB.out B)
      clear B P10
      go_wp2_with fail
      refine (HSP.out _ _ _ _ _ R1.out P1.out).mono ?_
      rintro e u3 ⟨rfl, B⟩
      replace R1 := Lib.hid (R1.out.next B)
      replace P1 := Lib.hid (P1.out.next B)
      replace HB := Lib.hid (below_call HB.out B)
      clear B
      clear R1 P1
      go_wp2_with fail
      refine (Bol.toBoolSS s.a s.len s.cap T _ (HH.out.next HB.out) HR.out.2.1 HR.out.2.2).mono ?_
      rintro e u4 ⟨rfl, R20, B⟩
      have R2 := Lib.hid (R20)
      replace HB := Lib.hid (below_call HB.out B)
      clear B R20
      go_wp2_with fail
      refine (Cel.toCellS z.a z.len z.cap L _ (HP.out.next HB.out) hz).mono ?_
      rintro e u5 ⟨rfl, P20, B⟩
      replace R2 := Lib.hid (R2.out.next B)
      have P2 := Lib.hid (P20.ints)
      replace HB := Lib.hid (below_call HB.out B)
      clear B P20
      go_wp2_with fail
      refine (HIM.out _ _ _ _ _ R2.out P2.out).mono ?_
      rintro e u6 ⟨rfl, B⟩
      replace R2 := Lib.hid (R2.out.next B)
      replace P2 := Lib.hid (P2.out.next B)
      replace HB := Lib.hid (below_call HB.out B)
      clear B
      go_wp2_with fail
      refine (Bol.toBoolSS s.a s.len s.cap T _ (HH.out.next HB.out) HR.out.2.1 HR.out.2.2).mono ?_
      rintro e u7 ⟨rfl, R30, B⟩
      replace R2 := Lib.hid (R2.out.next B)
      replace P2 := Lib.hid (P2.out.next B)
      have R3 := Lib.hid (R30)
      replace HB := Lib.hid (below_call HB.out B)
      clear B R30
      go_wp2_with fail
      refine (Bol.eqBoolSSW _ _ _ _ _ _ T _ R2.out R3.out HR.out.2.1 HR.out.2.2).mono ?_
      rintro e u8 ⟨rfl, B⟩
      replace R2 := Lib.hid (R2.out.next B)
      replace P2 := Lib.hid (P2.out.next B)
      replace R3 := Lib.hid (R3.out.next B)
      replace HB := Lib.hid (below_call HB.out B)
      clear B
      clear R3 R2
      go_wp2_with fail
      refine (Cel.toCellS z.a z.len z.cap L _ (HP.out.next HB.out) hz).mono ?_
      rintro e u9 ⟨rfl, P30, B⟩
      replace P2 := Lib.hid (P2.out.next B)
      have P3 := Lib.hid (P30.ints)
      replace HB := Lib.hid (below_call HB.out B)
      clear B P30
      go_wp2_with fail
      refine (Cel.eqCellS _ _ _ _ _ _ L _ P2.out P3.out hl2).mono ?_
      rintro e u10 ⟨rfl, B⟩
      replace P2 := Lib.hid (P2.out.next B)
      replace P3 := Lib.hid (P3.out.next B)
      replace HB := Lib.hid (below_call HB.out B)
      clear B
      go_wp2
      go_ret
      exact ⟨rfl, HB.out⟩
  · obtain rfl : x = -1 := by rcases hx with k | ⟨k, _⟩ <;> omega
    clear hx h
    go_enter Try.func12, Try.ntmps12
    go_wp2_with fail
    refine (HSZ.out _ (Below.refl _ _)).mono ?_
    rintro e w' ⟨rfl, rfl⟩
    go_wp2
    go_ret
    exact ⟨rfl, Below.refl _ _⟩
end Go.Proofs.Ytmdkihaiognpgaa
