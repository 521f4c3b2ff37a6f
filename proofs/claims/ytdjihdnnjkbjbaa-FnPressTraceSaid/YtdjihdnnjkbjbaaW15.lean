/- The walks of the laws on contact. -/
import Derived.Test.YtdjihdnnjkbjbaaD15
import Derived.Test.YtdjihdnnjkbjbaaE15
namespace Go.Proofs.Ytdjihdnnjkbjbaa
set_option maxRecDepth 100000
open Go.RowKit
attribute [local go_sem ↓] Go.wp_at_zero Go.wp_at_succ
set_option maxHeartbeats 4000000 in
theorem walkFnContactForce (w : World) (a : Option Addr) (len cap : Nat) (zs : List Int) (h : Bytes w a len cap zs) :
    Calls Try.prog 3 #[.slice a len cap] w fun e w' => e = .returned (.bool true) ∧ Below w.heap.size w w' := by
  have hle := h.len_le
  obtain ⟨hl, hm⟩ := hle
  unfold maxLen at hm
  by_cases hbig : 1048576 < len
  · go_enter Try.func3, Try.ntmps3
    go_wp2
    go_ret
    exact ⟨rfl, Below.refl _ _⟩
  · go_enter Try.func3, Try.ntmps3
    go_wp2_with fail
    refine (drawContactForce w a len cap zs h).mono ?_
    rintro e w1 ⟨p, q, k, hp, hq, hk, rfl, hb⟩
    have HB := Lib.hid hb
    clear hb h
    have HI := Lib.hid (fun u => implContactForce p q k u)
    have HS := Lib.hid (fun u => specContactForce p q k u)
    have HJ := Lib.hid (fun u => implContactForce (p + 1) q k u)
    have o1 : IntKind.i64.wrap (p + 1) = p + 1 := wrap_in (by omega) (by omega)
    by_cases hok : okPlc p q k
    rotate_left
    · rw [show frcV p q k = -1 from if_neg hok] at HI HS
      clear o1 HJ hp hq hk
      go_wp2_with fail
      refine (HI.out _).mono ?_
      rintro e u1 ⟨rfl, B1⟩
      replace HB := Lib.hid (below_call HB.out B1)
      clear B1
      go_wp2_with fail
      refine (HS.out _).mono ?_
      rintro e w' ⟨rfl, rfl⟩
      go_wp2_with fail
      refine (alive _).mono ?_
      rintro e w' ⟨rfl, rfl⟩
      go_wp2
      go_ret
      exact ⟨rfl, HB.out⟩
    rw [show frcV p q k = frc p q k from if_pos hok] at HI HS
    have hk1 := hok.2.2
    have hst := frc_step p q k
    have hn0 := frc_pos (p := p) (w := q) hk1.1
    have hnb := frc_bd (p := p) (w := q) hk1 (by have := hok.1; have := hok.2.1; omega)
    have hnz : p ≤ q → frc p q k = 0 := fun h => by unfold frc; rw [show max 0 (p - q) = 0 by omega, Int.mul_zero]
    generalize frc p q k = n at *
    have n0 : ¬ (n < 0) := by omega
    have e1 : (n != n) = false := by simp
    by_cases hok2 : okPlc (p + 1) q k
    rotate_left
    · rw [show frcV (p + 1) q k = -1 from if_neg hok2] at HJ
      have hqp : q < p := by
        rcases Int.lt_or_le q p with g | g
        · exact g
        · exact absurd ⟨by have := hok.1; omega, hok.2.1, hok.2.2⟩ hok2
      clear hst hnz hok2 hok hp hq hk hn0 hnb hk1
      go_wp2_with fail
      refine (HI.out _).mono ?_
      rintro e u1 ⟨rfl, B1⟩
      replace HB := Lib.hid (below_call HB.out B1)
      clear B1
      go_wp2_with fail
      refine (HS.out _).mono ?_
      rintro e w' ⟨rfl, rfl⟩
      go_wp2_with fail
      refine (HJ.out _).mono ?_
      rintro e u2 ⟨rfl, B2⟩
      replace HB := Lib.hid (below_call HB.out B2)
      clear B2
      go_wp2
      go_ret
      exact ⟨rfl, HB.out⟩
    rw [show frcV (p + 1) q k = frc (p + 1) q k from if_pos hok2, hst] at HJ
    have o2 : IntKind.i64.wrap (p + 1 - q) = p + 1 - q := wrap_in (by omega) (by omega)
    obtain ⟨d, hd⟩ : ∃ d, p + 1 - q = d := ⟨_, rfl⟩
    rw [hd] at HJ
    have o3 : IntKind.i64.wrap (p + 1 - q) = d := by rw [o2, hd]
    have o4 : IntKind.i64.wrap (n + k) = n + k := wrap_in (by omega) (by omega)
    have o5 : IntKind.i64.wrap k = k := wrap_in (by omega) (by omega)
    have o6 : IntKind.i64.wrap n = n := wrap_in (by omega) (by omega)
    have o7 : wrap64 k = k := by unfold wrap64; omega
    have o8 : wrap64 (n + k) = n + k := by unfold wrap64; omega
    have e2 : ((n + k : Int) == n + k) = true := by simp
    have e3 : ((n : Int) == n) = true := by simp
    have n1 : ¬ (n + k < 0) := by omega
    rcases Int.lt_or_le q p with g | g
    · rw [show k * max 0 (min 1 d) = k by rw [show max 0 (min 1 d) = 1 by omega, Int.mul_one]] at HJ
      have m1 : ¬ d < 1 := by omega
      clear hst hnz hok2 hok hp hq hk hn0 hnb hk1 hd o2
      go_wp2_with fail
      refine (HI.out _).mono ?_
      rintro e u1 ⟨rfl, B1⟩
      replace HB := Lib.hid (below_call HB.out B1)
      clear B1
      go_wp2_with fail
      refine (HS.out _).mono ?_
      rintro e w' ⟨rfl, rfl⟩
      go_wp2_with fail
      refine (HJ.out _).mono ?_
      rintro e u2 ⟨rfl, B2⟩
      replace HB := Lib.hid (below_call HB.out B2)
      clear B2
      go_wp2
      go_ret
      exact ⟨rfl, HB.out⟩
    obtain rfl := hnz g
    rcases Int.lt_or_le 0 d with g2 | g2
    · have e4 : ((k : Int) == k) = true := by simp
      rw [show k * max 0 (min 1 d) = k by rw [show max 0 (min 1 d) = 1 by omega, Int.mul_one]] at HJ
      have m1 : ¬ d < 1 := by omega
      clear hst hnz hok2 hok hp hq hk hn0 hnb hk1 hd o2
      go_wp2_with fail
      refine (HI.out _).mono ?_
      rintro e u1 ⟨rfl, B1⟩
      replace HB := Lib.hid (below_call HB.out B1)
      clear B1
      go_wp2_with fail
      refine (HS.out _).mono ?_
      rintro e w' ⟨rfl, rfl⟩
      go_wp2_with fail
      refine (HJ.out _).mono ?_
      rintro e u2 ⟨rfl, B2⟩
      replace HB := Lib.hid (below_call HB.out B2)
      clear B2
      go_wp2
      go_ret
      exact ⟨rfl, HB.out⟩
    · rw [show k * max 0 (min 1 d) = 0 by rw [show max 0 (min 1 d) = 0 by omega, Int.mul_zero]] at HJ
      have m1 : d < 1 := by omega
      clear hst hnz hok2 hok hp hq hk hn0 hnb hk1 hd o2
      go_wp2_with fail
      refine (HI.out _).mono ?_
      rintro e u1 ⟨rfl, B1⟩
      replace HB := Lib.hid (below_call HB.out B1)
      clear B1
      go_wp2_with fail
      refine (HS.out _).mono ?_
      rintro e w' ⟨rfl, rfl⟩
      go_wp2_with fail
      refine (HJ.out _).mono ?_
      rintro e u2 ⟨rfl, B2⟩
      replace HB := Lib.hid (below_call HB.out B2)
      clear B2
      go_wp2
      go_ret
      exact ⟨rfl, HB.out⟩
set_option maxHeartbeats 4000000 in
theorem walkFnPressStep (w : World) (a : Option Addr) (len cap : Nat) (zs : List Int) (h : Bytes w a len cap zs) :
    Calls Try.prog 4 #[.slice a len cap] w fun e w' => e = .returned (.bool true) ∧ Below w.heap.size w w' := by
  have hle := h.len_le
  obtain ⟨hl, hm⟩ := hle
  unfold maxLen at hm
  by_cases hbig : 1048576 < len
  · go_enter Try.func4, Try.ntmps4
    go_wp2
    go_ret
    exact ⟨rfl, Below.refl _ _⟩
  · go_enter Try.func4, Try.ntmps4
    go_wp2_with fail
    refine (drawPressStep w a len cap zs h).mono ?_
    rintro e w1 ⟨p, q, k, f, v, hp, hq, hk, hf, hs, rfl, hb⟩
    have HB := Lib.hid hb
    clear hb h
    have HI := Lib.hid (fun u => implPressStep p q k f v u)
    have HS := Lib.hid (fun u => specPressStep p q k f v u)
    have HF := Lib.hid (fun u => implContactForce p q k u)
    by_cases hpl : okPlc p q k
    rotate_left
    · rw [show prsV p q k f v = p from if_neg (fun x => hpl x.1)] at HI HS
      rw [show frcV p q k = -1 from if_neg hpl] at HF
      have e1 : (p != p) = false := by simp
      have e2 : (p == p) = true := by simp
      clear hp hq hk hf hs hpl
      go_wp2_with fail
      refine (HI.out _).mono ?_
      rintro e u1 ⟨rfl, B1⟩
      replace HB := Lib.hid (below_call HB.out B1)
      clear B1
      go_wp2_with fail
      refine (HS.out _).mono ?_
      rintro e w' ⟨rfl, rfl⟩
      go_wp2_with fail
      refine (HF.out _).mono ?_
      rintro e u2 ⟨rfl, B2⟩
      replace HB := Lib.hid (below_call HB.out B2)
      clear B2
      go_wp2_with fail
      refine (alive _).mono ?_
      rintro e w' ⟨rfl, rfl⟩
      go_wp2
      go_ret
      exact ⟨rfl, HB.out⟩
    rw [show frcV p q k = frc p q k from if_pos hpl] at HF
    have hn0 := frc_pos (p := p) (w := q) hpl.2.2.1
    have n0 : ¬ (frc p q k < 0) := by omega
    by_cases hok : okPrs p q k f v
    rotate_left
    · rw [show prsV p q k f v = p from if_neg hok] at HI HS
      have e1 : (p != p) = false := by simp
      have e2 : (p == p) = true := by simp
      generalize frc p q k = n at *
      rcases Int.lt_or_le f 1 with g | g
      · clear hp hq hk hf hs hpl hok hn0
        go_wp2_with fail
        refine (HI.out _).mono ?_
        rintro e u1 ⟨rfl, B1⟩
        replace HB := Lib.hid (below_call HB.out B1)
        clear B1
        go_wp2_with fail
        refine (HS.out _).mono ?_
        rintro e w' ⟨rfl, rfl⟩
        go_wp2_with fail
        refine (HF.out _).mono ?_
        rintro e u2 ⟨rfl, B2⟩
        replace HB := Lib.hid (below_call HB.out B2)
        clear B2
        go_wp2_with fail
        refine (alive _).mono ?_
        rintro e w' ⟨rfl, rfl⟩
        go_wp2
        go_ret
        exact ⟨rfl, HB.out⟩
      rcases Int.lt_or_le 1000 f with g2 | g2
      · clear hp hq hk hf hs hpl hok hn0
        go_wp2_with fail
        refine (HI.out _).mono ?_
        rintro e u1 ⟨rfl, B1⟩
        replace HB := Lib.hid (below_call HB.out B1)
        clear B1
        go_wp2_with fail
        refine (HS.out _).mono ?_
        rintro e w' ⟨rfl, rfl⟩
        go_wp2_with fail
        refine (HF.out _).mono ?_
        rintro e u2 ⟨rfl, B2⟩
        replace HB := Lib.hid (below_call HB.out B2)
        clear B2
        go_wp2_with fail
        refine (alive _).mono ?_
        rintro e w' ⟨rfl, rfl⟩
        go_wp2
        go_ret
        exact ⟨rfl, HB.out⟩
      have g3 : v < 1 := by
        rcases Int.lt_or_le v 1 with g3 | g3
        · exact g3
        · exact absurd ⟨hpl, ⟨g, g2⟩, g3, by omega⟩ hok
      clear hp hq hk hf hs hpl hok hn0
      go_wp2_with fail
      refine (HI.out _).mono ?_
      rintro e u1 ⟨rfl, B1⟩
      replace HB := Lib.hid (below_call HB.out B1)
      clear B1
      go_wp2_with fail
      refine (HS.out _).mono ?_
      rintro e w' ⟨rfl, rfl⟩
      go_wp2_with fail
      refine (HF.out _).mono ?_
      rintro e u2 ⟨rfl, B2⟩
      replace HB := Lib.hid (below_call HB.out B2)
      clear B2
      go_wp2_with fail
      refine (alive _).mono ?_
      rintro e w' ⟨rfl, rfl⟩
      go_wp2
      go_ret
      exact ⟨rfl, HB.out⟩
    rw [show prsV p q k f v = nxtN p q k f v from if_pos hok] at HI HS
    have g1 : ¬ f < 1 := by have := hok.2.1; omega
    have g2 : ¬ 1000 < f := by have := hok.2.1; omega
    have g3 : ¬ v < 1 := by have := hok.2.2; omega
    have g4 : ¬ 200 < v := by have := hok.2.2; omega
    have hbk := nxt_back hok
    have hon := nxt_on hok
    have hnk := nxt_ok p q k f v
    have HG := Lib.hid (fun u => implContactForce (nxtN p q k f v) q k u)
    rw [show frcV (nxtN p q k f v) q k = frc (nxtN p q k f v) q k from if_pos ⟨hnk, hpl.2⟩] at HG
    generalize nxtN p q k f v = x at *
    have e1 : (x != x) = false := by simp
    rcases Int.lt_or_le f (frc p q k) with c | c
    · have hx : x = p - 1 := (hbk c).resolve_right (by omega)
      subst hx
      have o1 : IntKind.i64.wrap (p - 1) = p - 1 := wrap_in (by omega) (by omega)
      have e2 : ((p - 1 : Int) == p - 1) = true := by simp
      generalize frc p q k = n at *
      clear hbk hon hnk hp hq hk hf hs hpl hok hn0 HG
      go_wp2_with fail
      refine (HI.out _).mono ?_
      rintro e u1 ⟨rfl, B1⟩
      replace HB := Lib.hid (below_call HB.out B1)
      clear B1
      go_wp2_with fail
      refine (HS.out _).mono ?_
      rintro e w' ⟨rfl, rfl⟩
      go_wp2_with fail
      refine (HF.out _).mono ?_
      rintro e u2 ⟨rfl, B2⟩
      replace HB := Lib.hid (below_call HB.out B2)
      clear B2
      go_wp2
      go_ret
      exact ⟨rfl, HB.out⟩
    obtain ⟨h1, h2, h3⟩ := hon c
    have o1 : IntKind.i64.wrap (p + v) = p + v := wrap_in (by omega) (by omega)
    generalize frc p q k = n at *
    generalize frc x q k = m at *
    clear hbk hon hnk hp hq hk hf hs hpl hok hn0
    go_wp2_with fail
    refine (HI.out _).mono ?_
    rintro e u1 ⟨rfl, B1⟩
    replace HB := Lib.hid (below_call HB.out B1)
    clear B1
    go_wp2_with fail
    refine (HS.out _).mono ?_
    rintro e w' ⟨rfl, rfl⟩
    go_wp2_with fail
    refine (HF.out _).mono ?_
    rintro e u2 ⟨rfl, B2⟩
    replace HB := Lib.hid (below_call HB.out B2)
    clear B2
    go_wp2_with fail
    refine (HG.out _).mono ?_
    rintro e u3 ⟨rfl, B3⟩
    replace HB := Lib.hid (below_call HB.out B3)
    clear B3
    go_wp2
    go_ret
    exact ⟨rfl, HB.out⟩
set_option maxHeartbeats 4000000 in
theorem walkFnPressTrace (w : World) (a : Option Addr) (len cap : Nat) (zs : List Int) (h : Bytes w a len cap zs) :
    Calls Try.prog 5 #[.slice a len cap] w fun e w' => e = .returned (.bool true) ∧ Below w.heap.size w w' := by
  have hle := h.len_le
  obtain ⟨hl, hm⟩ := hle
  unfold maxLen at hm
  by_cases hbig : 1048576 < len
  · go_enter Try.func5, Try.ntmps5
    go_wp2
    go_ret
    exact ⟨rfl, Below.refl _ _⟩
  · go_enter Try.func5, Try.ntmps5
    go_wp2_with fail
    refine (drawPressTrace w a len cap zs h).mono ?_
    rintro e w1 ⟨p, q, k, f, v, n, hp, hq, hk, hf, hs, hnb, rfl, hb⟩
    have HB := Lib.hid hb
    clear hb h
    have HI := Lib.hid (fun u => implPressTrace p q k f v n u)
    have HS := Lib.hid (fun u => specPressTrace p q k f v n u)
    have hLn := trc_len15 p q k f v n
    obtain ⟨L, hL⟩ : ∃ L, trcV p q k f v n = L := ⟨_, rfl⟩
    rw [hL] at HI HS hLn
    have HLE := Lib.hid hL
    have HLN := Lib.hid hLn
    clear hL hLn
    go_wp2_with fail
    refine (HI.out _).mono ?_
    rintro e u1 ⟨⟨sa, sl, sc⟩, rfl, l2, O2, B1⟩
    replace HB := Lib.hid (below_call HB.out B1)
    clear B1
    have HSL := Lib.hid (show sl = L.length from l2)
    clear l2
    have hsl : sl ≤ 400 := by rw [HSL.out]; exact HLN.out
    go_wp2_with fail
    refine (HS.out _).mono ?_
    rintro e u2 ⟨⟨qa, ql, qc⟩, rfl, l3, O3, B2⟩
    replace O2 := O2.next B2
    replace HB := Lib.hid (below_call HB.out B2)
    clear B2
    clear l3
    go_wp2_with fail
    refine (sameInts sa qa sl ql sc qc L _ (OwnI.ints O2) (OwnI.ints O3) (by omega)).mono ?_
    rintro e u3 ⟨rfl, B3⟩
    replace O2 := O2.next B3
    replace O3 := O3.next B3
    replace HB := Lib.hid (below_call HB.out B3)
    clear B3
    clear O3 HS HI
    have hn : (sl : Int) = 0 ∨ (sl : Int) = n := by
      by_cases q9 : okTrc p q k f v n
      · right
        have : L = trcL q k f v n.toNat p := by rw [← HLE.out]; exact if_pos q9
        have e9 : L.length = n.toNat := by rw [show L = trcL q k f v n.toNat p from by rw [← HLE.out]; exact if_pos q9, trcL_len]
        have := HSL.out; have := q9.2.1; omega
      · left
        have : L = [] := by rw [← HLE.out]; exact if_neg q9
        rw [HSL.out, this]; rfl
    by_cases hs2 : sl < 2
    · have j1 : (sl : Int) < 2 := by omega
      clear O2 hp hq hk hf hs
      go_upto_region 8 with fail
      refine wp_region_kept (by kernel_rfl) (by kernel_rfl) ?_
      repeat (go_big_quiet_step (fail))
      refine wpQuiet_nil ?_
      rintro u21 ⟨⟨_, B21⟩, rfl⟩
      replace HB := Lib.hid (below_call HB.out B21)
      clear B21
      rcases hn with hn | hn
      · have e4 : ((sl : Int) == 0) = true := by rw [hn]; rfl
        go_wp2_with fail
        refine (alive _).mono ?_
        rintro e w' ⟨rfl, rfl⟩
        go_wp2
        go_ret
        exact ⟨rfl, HB.out⟩
      · by_cases h9 : sl = 0
        · have e4 : ((sl : Int) == 0) = true := by rw [h9]; rfl
          go_wp2_with fail
          refine (alive _).mono ?_
          rintro e w' ⟨rfl, rfl⟩
          go_wp2
          go_ret
          exact ⟨rfl, HB.out⟩
        have e4 : ((sl : Int) == 0) = false := by simp; omega
        have e5 : ((sl : Int) == n) = true := by rw [hn]; simp
        go_wp2_with fail
        refine (alive _).mono ?_
        rintro e w' ⟨rfl, rfl⟩
        go_wp2
        go_ret
        exact ⟨rfl, HB.out⟩
    obtain ⟨m, rfl⟩ : ∃ m, sl = m + 2 := ⟨sl - 2, by omega⟩
    have j1 : ¬ (((m + 2 : Nat) : Int) < 2) := by omega
    have hok : okTrc p q k f v n := by
      by_cases q9 : okTrc p q k f v n
      · exact q9
      · have : L = [] := by rw [← HLE.out]; exact if_neg q9
        rw [this] at HSL
        exact absurd HSL.out (by simp)
    have hL2 : L = trcL q k f v n.toNat p := by rw [← HLE.out]; exact if_pos hok
    have hnn : n.toNat = m + 2 := by rw [HSL.out, hL2, trcL_len]
    have g1 := trcL_at q k f v (m + 2) (m + 1) p (by omega)
    have g2 := trcL_at q k f v (m + 2) m p (by omega)
    have hrest := trc_rest hok m
    rw [hL2, hnn] at O2
    obtain ⟨b9, o9, rfl, lt9, hc9⟩ := (OwnI.ints O2).some (by omega)
    have d1 := hc9 (m + 1) (by omega)
    have d2 := hc9 m (by omega)
    rw [List.getD_eq_getElem?_getD, g1, Option.getD_some] at d1
    rw [List.getD_eq_getElem?_getD, g2, Option.getD_some] at d2
    have HEND := Lib.hid (fun u => implContactForce (trcA q k f v (m + 1 + 1) p) q k u)
    have HEN1 := Lib.hid (fun u => implContactForce (trcA q k f v (m + 1 + 1) p + 1) q k u)
    have hpo := (trcA_ok hok.1 (m + 1 + 1)).1.1
    rw [show trcA q k f v (m + 2) p = trcA q k f v (m + 1 + 1) p from rfl] at hrest
    generalize trcA q k f v (m + 1 + 1) p = x at *
    generalize trcA q k f v (m + 1) p = y at *
    obtain ⟨fx, hfx⟩ : ∃ z, frcV x q k = z := ⟨_, rfl⟩
    obtain ⟨fy, hfy⟩ : ∃ z, frcV (x + 1) q k = z := ⟨_, rfl⟩
    rw [hfx] at HEND hrest
    rw [hfy] at HEN1 hrest
    have HR := Lib.hid hrest
    obtain ⟨K, hK⟩ : ∃ K : Nat, K = m + 1 := ⟨_, rfl⟩
    rw [← hK] at d1
    have i1 : IntKind.i64.wrap ((m : Int) + 2 - 1) = (K : Int) := by rw [show (m : Int) + 2 - 1 = (K : Int) by omega]; exact wrap_in (by omega) (by omega)
    have i2 : IntKind.i64.wrap ((m : Int) + 2 - 2) = (m : Int) := by rw [show (m : Int) + 2 - 2 = (m : Int) by omega]; exact wrap_in (by omega) (by omega)
    have i3 : IntKind.i64.wrap ((m : Int) + 1) = (K : Int) := by rw [show (m : Int) + 1 = (K : Int) by omega]; exact wrap_in (by omega) (by omega)
    have i4 : IntKind.i64.wrap (m : Int) = (m : Int) := wrap_in (by omega) (by omega)
    have k1 : (K : Int) < (m : Int) + 2 := by omega
    have k2 : (0 : Int) ≤ (K : Int) := by omega
    have k3 : (m : Int) < (m : Int) + 2 := by omega
    have k4 : (0 : Int) ≤ (m : Int) := by omega
    have k5 : ¬ ((m : Int) + 2 < 2) := by omega
    have k6 : decide ((m : Int) + 2 < 2) = false := decide_eq_false k5
    have e4 : ((m : Int) + 2 == 0) = false := by simp; omega
    have e5 : ((m : Int) + 2 == (m : Int) + 2) = true := by simp
    have oX : IntKind.i64.wrap (x + 1) = x + 1 := wrap_in (by omega) (by omega)
    have hnm : n = (m : Int) + 2 := by have := hok.2.1; omega
    clear hn hs2 hsl hL2 g1 g2 hc9 O2 hfx hfy hrest HLE HSL HLN hnn hok hp hq hk hf hs hK hnb
    subst hnm
    go_upto_region 8 with fail
    have kc1 := keptCell lt9 d1
    have kc2 := keptCell lt9 d2
    by_cases hxy : x = y
    · subst hxy
      have e1 : (x != x) = false := by simp
      refine wp_region_kept (by kernel_rfl) (by kernel_rfl) ?_
      repeat (go_big_quiet_step (fail))
      refine wpQuiet_nil ?_
      rintro u41 ⟨⟨_, B41⟩, rfl⟩
      have d3 := (B41.cell (p := ⟨b9, o9 + K, none⟩) lt9).trans d1
      have HB4 := Lib.hid (below_call HB.out B41)
      obtain ⟨r1, r2⟩ := HR.out rfl
      clear B41 kc1 kc2 d1 d2 HB HR
      by_cases h10 : x = 10000
      · have e6 : (x == 10000) = true := by rw [h10]; rfl
        clear h10 r2
        go_wp2_with fail
        refine (HEND.out _).mono ?_
        rintro e u42 ⟨rfl, B42⟩
        have HB5 := Lib.hid (below_call HB4.out B42)
        clear B42 d3
        go_wp2
        go_ret
        exact ⟨rfl, HB5.out⟩
      · have e6 : (x == 10000) = false := by simp; omega
        have r3 : f < fy := r2.resolve_left h10
        clear h10 r2
        go_wp2_with fail
        refine (HEND.out _).mono ?_
        rintro e u42 ⟨rfl, B42⟩
        have HB5 := Lib.hid (below_call HB4.out B42)
        clear B42 d3
        go_wp2_with fail
        refine (HEN1.out _).mono ?_
        rintro e u43 ⟨rfl, B43⟩
        have HB6 := Lib.hid (below_call HB5.out B43)
        clear B43
        go_wp2
        go_ret
        exact ⟨rfl, HB6.out⟩
    · have e1 : (x != y) = true := by simp; omega
      refine wp_region_kept (by kernel_rfl) (by kernel_rfl) ?_
      repeat (go_big_quiet_step (fail))
      refine wpQuiet_nil ?_
      rintro u41 ⟨⟨_, B41⟩, rfl⟩
      have HB4 := Lib.hid (below_call HB.out B41)
      clear B41 kc1 kc2 d1 d2 HB HR hxy
      go_wp2_with fail
      refine (alive _).mono ?_
      rintro e w' ⟨rfl, rfl⟩
      go_wp2
      go_ret
      exact ⟨rfl, HB4.out⟩
end Go.Proofs.Ytdjihdnnjkbjbaa
