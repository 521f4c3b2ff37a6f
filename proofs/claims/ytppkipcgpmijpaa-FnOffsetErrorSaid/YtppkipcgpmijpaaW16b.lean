/- The walks of the laws on pairs and the error of an offset. -/
import Derived.Test.YtppkipcgpmijpaaD16
import Derived.Test.YtppkipcgpmijpaaW16a
import Derived.Test.YtppkipcgpmijpaaKApp
namespace Go.Proofs.Ytppkipcgpmijpaa
set_option maxRecDepth 100000
open Go.RowKit
attribute [local go_sem ↓] Go.wp_at_zero Go.wp_at_succ
/-- All of these pairs have the offset. -/
def allR (o : Int) (L : List (Int × Int)) : Bool := L.all fun c => dif c == o
theorem allR_take {o : Int} {L : List (Int × Int)} {k : Nat} (hk : k < L.length) : allR o (L.take (k + 1)) = (allR o (L.take k) && (dif (L.getD k (0, 0)) == o)) := by
  unfold allR
  rw [List.take_succ_eq_append_getElem hk, List.all_append, List.getD_eq_getElem?_getD, List.getElem?_eq_getElem hk, Option.getD_some]
  simp
theorem allR_zero (o : Int) (L : List (Int × Int)) : ((errN L o == 0) == allR o L) = true := by
  have h := errN_zero L o
  by_cases q : errN L o = 0
  · have e : allR o L = true := by unfold allR; rw [List.all_eq_true]; intro c hc; simpa using h.1 q c hc
    rw [e, q]; rfl
  · have e : allR o L = false := by
      cases hb : allR o L with
      | false => rfl
      | true => exact absurd (h.2 fun c hc => by unfold allR at hb; rw [List.all_eq_true] at hb; simpa using hb c hc) q
    rw [e]; simp [q]
theorem okPairs_sub {L M : List (Int × Int)} (h : okPairs L) (h1 : 1 ≤ M.length) (h2 : M.length ≤ L.length) (h3 : ∀ c ∈ M, c ∈ L) : okPairs M := ⟨⟨h1, Nat.le_trans h2 h.1.2⟩, fun c hc => h.2 c (h3 c hc)⟩
theorem err_split {L : List (Int × Int)} {o : Int} {k : Nat} (h : okPairs L ∧ -2000 ≤ o ∧ o ≤ 2000) (h1 : 1 ≤ k) (h2 : k < L.length) : errV (L.take k) o = errN (L.take k) o ∧ errV (L.drop k) o = errN (L.drop k) o ∧ errN (L.take k) o + errN (L.drop k) o = errN L o :=
  ⟨if_pos ⟨okPairs_sub h.1 (by rw [List.length_take]; omega) (by rw [List.length_take]; omega) (fun c hc => List.mem_of_mem_take hc), h.2⟩,
   if_pos ⟨okPairs_sub h.1 (by rw [List.length_drop]; omega) (by rw [List.length_drop]; omega) (fun c hc => List.mem_of_mem_drop hc), h.2⟩,
   by rw [← errN_app, List.take_append_drop]⟩
/-- The rest of a list, by its place among the cells. -/
theorem Prr.PtsAt.drop {w : World} {b len : Nat} {ps : List (Int × Int)} (h : Prr.PtsAt w (Option.some ⟨b, 0, none⟩) len ps) {k : Nat} (hk : k < len) : Prr.PtsIn w (Option.some ⟨b, k * 2, none⟩) (len - k) (ps.drop k) := by
  have hn := h.1
  refine ⟨by rw [List.length_drop]; omega, ?_⟩
  rcases h.2 with h2 | ⟨b2, h1, h2, h3⟩
  · rw [h2] at hn; simp at hn; omega
  · injection h1 with h1
    injection h1 with h1 _ _
    subst h1
    refine .inr ⟨b, k * 2, rfl, h2, fun i hi => ?_⟩
    rw [List.length_drop] at hi
    have e : (ps.drop k).getD i (0, 0) = ps.getD (k + i) (0, 0) := by
      rw [List.getD_eq_getElem?_getD, List.getElem?_drop, ← List.getD_eq_getElem?_getD]
    unfold pX pY
    rw [e, show k * 2 + i * 2 = (k + i) * 2 by omega]
    exact h3 (k + i) (by omega)
set_option maxHeartbeats 4000000 in
theorem walkFnOffsetError (w : World) (a : Option Addr) (len cap : Nat) (zs : List Int) (h : Bytes w a len cap zs) :
    Calls Try.prog 5 #[.slice a len cap] w fun e w' => e = .returned (.bool true) ∧ Below w.heap.size w w' := by
  have hle := h.len_le
  obtain ⟨hl, hm⟩ := hle
  unfold maxLen at hm
  obtain ⟨i0, hi0, hz0, hz1, hz2⟩ := info_parts Prr.infoPt6
  by_cases hbig : 1048576 < len
  · go_enter Try.func5, Try.ntmps5
    go_wp2
    go_ret
    exact ⟨rfl, Below.refl _ _⟩
  · go_enter Try.func5, Try.ntmps5
    go_wp2_with fail
    refine (drawOffsetError w a len cap zs h).mono ?_
    rintro e w1 ⟨⟨sa, sl, sc⟩, L, o, rfl, hsl, hn, hsm, ho, O, hb⟩
    have HB := Lib.hid hb
    have HN := Lib.hid (show sl = L.length from hsl)
    have HSM := Lib.hid hsm
    have hsl21 : sl ≤ 21 := by rw [HN.out]; exact hn
    have hcap : sl ≤ sc := by
      rcases O.2 with ⟨hv, _⟩ | ⟨g, c, cur, hv, _, _, hc, _⟩
      · simp only [Value.slice.injEq] at hv; omega
      · simp only [Value.slice.injEq] at hv; obtain ⟨_, e1, e2⟩ := hv; omega
    clear h hb hsl hn hsm
    have HI := Lib.hid (fun u (q : Prr.OwnPt u w.heap.size (.slice sa sl sc) L) => implOffsetError sa sl sc L u o q.ints (by omega))
    have HS := Lib.hid (fun u (q : Prr.OwnPt u w.heap.size (.slice sa sl sc) L) => specOffsetError sa sl sc L o u q.ints (by omega))
    have e1 : (errV L o != errV L o) = false := by simp
    by_cases hok : okPairs L ∧ -2000 ≤ o ∧ o ≤ 2000
    rotate_left
    · rw [show errV L o = -1 from if_neg hok] at HI HS e1
      clear hok
      go_wp2_with fail
      refine (HI.out _ O).mono ?_
      rintro e u1 ⟨rfl, B1⟩
      replace O := O.next B1
      replace HB := Lib.hid (below_call HB.out B1)
      clear B1
      go_wp2_with fail
      refine (HS.out _ O).mono ?_
      rintro e u2 ⟨rfl, B2⟩
      replace O := O.next B2
      replace HB := Lib.hid (below_call HB.out B2)
      clear B2
      go_wp2_with fail
      refine (alive _).mono ?_
      rintro e w' ⟨rfl, rfl⟩
      go_wp2
      go_ret
      exact ⟨rfl, HB.out⟩
    rw [show errV L o = errN L o from if_pos hok] at HI HS e1
    have hlen := hok.1.1
    rw [← HN.out] at hlen
    have hn0 := errN_nonneg L o
    have HZ := Lib.hid (allR_zero o L)
    have HSP := Lib.hid (fun k h1 h2 => err_split (k := k) hok h1 h2)
    have hbE := (sum_small (f := fun c => sqr (dif c - o)) (m := 16000000) hok.1 (fun c hc => err_bd hc hok.2) (by omega) L.length).2
    rw [List.take_length] at hbE
    change errN L o ≤ 16000000 * 20 at hbE
    have HNN := Lib.hid (fun (M : List (Int × Int)) => errN_nonneg M o)
    generalize errN L o = n at *
    have n0 : ¬ n < 0 := by omega
    clear hok ho
    go_wp2_with fail
    refine (HI.out _ O).mono ?_
    rintro e u1 ⟨rfl, B1⟩
    replace O := O.next B1
    replace HB := Lib.hid (below_call HB.out B1)
    clear B1
    go_wp2_with fail
    refine (HS.out _ O).mono ?_
    rintro e u2 ⟨rfl, B2⟩
    replace O := O.next B2
    replace HB := Lib.hid (below_call HB.out B2)
    clear B2
    clear HI HS
    have O0 := Lib.hid O.ints
    clear O
    go_wp2
    go_loopw [6, 7] (fun v iv wr => ∃ (k : Nat) (b : Bool), k ≤ sl ∧ iv = .int .i64 (k : Int) ∧ v = .bool b ∧ Hid (b = allR o (L.take k)) ∧ Hid (Prr.PtsAt wr sa sl L) ∧ Hid (Below w.heap.size w wr)) (fun _ iv _ => sl - (intOf iv).toNat)
    case atStart => exact ⟨0, true, Nat.zero_le _, rfl, rfl, Lib.hid rfl, O0, HB⟩
    case round =>
      obtain ⟨k, b0, hk, rfl, rfl, HBB, HA, HW⟩ := hrel
      clear O0 HB
      by_cases hlt : k < sl
      · have HTK := Lib.hid (allR_take (o := o) (L := L) (k := k) (by rw [← HN.out]; exact hlt))
        rw [← HBB.out] at HTK
        have hsm := (HSM.out.at k)
        obtain ⟨b, rfl, ltb, hc⟩ := HA.out.some (by omega)
        obtain ⟨d0, d1⟩ := hc k hlt
        have j1 : (0 : Int) ≤ (k : Int) := by omega
        have j2 : (k : Int) < (sl : Int) := by omega
        unfold pX pY at hsm
        generalize L.getD k (0, 0) = c at *
        obtain ⟨x, y⟩ := c
        simp only at d0 d1 hsm
        obtain ⟨z, hz⟩ : ∃ z, y - x = z := ⟨_, rfl⟩
        have p1 : IntKind.i64.wrap (y - x) = z := by rw [hz]; exact wrap_in (by omega) (by omega)
        rw [show dif (x, y) = z from hz] at HTK
        clear hz hsm hc HBB
        go_upto_region 13 with fail
        have kc0 := keptCell ltb d0
        have kc1 := keptCell ltb d1
        cases b0
        · have HT2 := Lib.hid (show allR o (L.take (k + 1)) = false by rw [HTK.out]; rfl)
          clear HTK
          refine wp_region_kept (by kernel_rfl) (by kernel_rfl) ?_
          repeat (go_big_quiet_step (fail))
          refine wpQuiet_nil ?_
          rintro wx ⟨⟨_, K2⟩, rfl⟩
          have HA2 := Lib.hid (HA.out.next K2)
          have HW2 := Lib.hid (below_call HW.out K2)
          clear K2 HA HW kc0 kc1 d0 d1
          go_wp2
          go_roundw
          case rel => exact ⟨k + 1, false, by omega, by congr 1, rfl, Lib.hid HT2.out.symm, HA2, HW2⟩
          case measure => simp [intOf]; omega
        · have HT2 := Lib.hid (show allR o (L.take (k + 1)) = (z == o) by rw [HTK.out]; rfl)
          clear HTK
          refine wp_region_kept (by kernel_rfl) (by kernel_rfl) ?_
          repeat (go_big_quiet_step (fail))
          refine wpQuiet_nil ?_
          rintro wx ⟨⟨_, K2⟩, rfl⟩
          have HA2 := Lib.hid (HA.out.next K2)
          have HW2 := Lib.hid (below_call HW.out K2)
          clear K2 HA HW kc0 kc1 d0 d1
          go_wp2
          go_roundw
          case rel => exact ⟨k + 1, z == o, by omega, by congr 1, rfl, Lib.hid HT2.out.symm, HA2, HW2⟩
          case measure => simp [intOf]; omega
      · obtain rfl : k = sl := by omega
        have hb : b0 = allR o L := by rw [HBB.out]; congr 1; rw [HN.out, List.take_length]
        subst hb
        have HZ2 := HZ.out
        generalize allR o L = b0 at *
        clear HBB
        obtain ⟨g, rfl, ltg, _⟩ := HA.out.some (by omega)
        by_cases h1 : k / 2 = 0
        · have k1 : k = 1 := by omega
          subst k1
          go_upto_region 15 with fail
          refine wp_region_kept (by kernel_rfl) (by kernel_rfl) ?_
          repeat (go_big_quiet_step (fail))
          refine wpQuiet_nil ?_
          rintro wx ⟨⟨_, K2⟩, rfl⟩
          have HW2 := Lib.hid (below_call HW.out K2)
          clear K2
          go_wp2
          go_ret
          exact ⟨rfl, HW2.out⟩
        · obtain ⟨H, hH⟩ : ∃ H : Nat, k / 2 = H := ⟨_, rfl⟩
          have c2 : (k : Int) / 2 = (H : Int) := by omega
          have c3 : H ≤ k := by omega
          have c4 : 1 ≤ H := by omega
          have c5 : H < k := by omega
          clear hH h1
          obtain ⟨q1, q2, q3⟩ := HSP.out H c4 (by have := HN.out; omega)
          have hd1 := HA.out.take (k := H) c3
          have HL1 := Lib.hid (fun (q : Kept wr) => keptCall (implOffsetError (some ⟨g, 0, none⟩) H sc (L.take H) q.u o (hd1.next q.b) (by omega)))
          have hd2 := HA.out.drop (k := H) c5
          have HL2 := Lib.hid (fun (q : Kept wr) => keptCall (in_implOffsetError (some ⟨g, H * 2, none⟩) (k - H) (sc - H) (L.drop H) q.u o (Prr.PtsIn.next hd2 q.b) (by omega)))
          rw [q1] at HL1
          rw [q2] at HL2
          have m1 := HNN.out (L.take H)
          have m2 := HNN.out (L.drop H)
          generalize errN (L.take H) o = ea at *
          generalize errN (L.drop H) o = eb at *
          subst q3
          have p1 : IntKind.i64.wrap (ea + eb) = ea + eb := wrap_in (by omega) (by omega)
          have p2 : ((ea + eb : Int) == ea + eb) = true := by simp
          have p3 : ((H : Int) == 0) = false := by simp; omega
          have p4 : (0 : Int) ≤ (H : Int) := by omega
          have p5 : (H : Int) ≤ (k : Int) := by omega
          have p6 : (H : Int) ≤ (sc : Int) := by omega
          have p7 : (k : Int) ≤ (sc : Int) := by omega
          clear hd1 hd2 q1 q2 m1 m2 c4 c5
          go_upto_region 15 with fail
          refine wp_region_kept (by kernel_rfl) (by kernel_rfl) ?_
          repeat (go_big_quiet_step ((first | (with_reducible exact HL1.out _) | (with_reducible exact HL2.out _))))
          refine wpQuiet_nil ?_
          rintro wx ⟨⟨_, K2⟩, rfl⟩
          have HW2 := Lib.hid (below_call HW.out K2)
          clear K2
          go_wp2
          go_ret
          exact ⟨rfl, HW2.out⟩
end Go.Proofs.Ytppkipcgpmijpaa
