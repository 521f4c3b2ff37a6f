/- Pairs: the document's functions. -/
import Derived.Test.YtppkipcgpmijpaaNum16
import Derived.Test.YtppkipcgpmijpaaPr16
import Derived.Below
import Derived.Outline
import Derived.Deep.RegionHeld3
import Derived.Deep.AppendLies
import Derived.Deep.QuietTactic
import Derived.BigQuiet
import Derived.Deep.DrawnRows
import Derived.Deep.DeepCutAuto
import Derived.Deep.RegionWith
namespace Go.Proofs.Ytppkipcgpmijpaa
set_option maxRecDepth 100000
open Go.RowKit
attribute [local go_sem ↓] Go.wp_at_zero Go.wp_at_succ
/-- The first k pairs are valid. -/
def okTo16 (L : List (Int × Int)) (k : Nat) : Prop := ∀ j, j < k → okPair (L.getD j (0, 0))
theorem okTo16.more {L : List (Int × Int)} {k : Nat} (h : okTo16 L k) (h1 : okPair (L.getD k (0, 0))) : okTo16 L (k + 1) := fun j hj => by
  by_cases e : j = k
  · subst e; exact h1
  · exact h j (by omega)
theorem okTo16.all {L : List (Int × Int)} (h : okTo16 L L.length) : ∀ c ∈ L, okPair c := fun c hc => by
  obtain ⟨j, hj, rfl⟩ := List.getElem_of_mem hc
  have := h j hj
  rwa [List.getD_eq_getElem?_getD, List.getElem?_eq_getElem hj, Option.getD_some] at this
theorem okAt16 {L : List (Int × Int)} (h : okPairs L) {k : Nat} (hk : k < L.length) : okPair (L.getD k (0, 0)) := by
  rw [List.getD_eq_getElem?_getD, List.getElem?_eq_getElem hk, Option.getD_some]
  exact h.2 _ (List.getElem_mem hk)
theorem notPairs {L : List (Int × Int)} {k : Nat} (hk : k < L.length) (h : ¬ okPair (L.getD k (0, 0))) : false = decide (okPairs L) := (decide_eq_false fun q => h (okAt16 q hk)).symm
theorem yesPairs {L : List (Int × Int)} (h : okTo16 L L.length) : decide (1 ≤ (L.length : Int) ∧ (L.length : Int) ≤ 20) = decide (okPairs L) := by
  by_cases q : 1 ≤ (L.length : Int) ∧ (L.length : Int) ≤ 20
  · exact (decide_eq_true q).trans (decide_eq_true (p := okPairs L) ⟨⟨by omega, by omega⟩, h.all⟩).symm
  · exact (decide_eq_false q).trans (decide_eq_false (p := okPairs L) fun k => q ⟨by have := k.1.1; omega, by have := k.1.2; omega⟩).symm
theorem keep16 {w u : World} {b i j : Nat} {x y : Value} (h : Below w.heap.size w u) (hb : b < w.heap.size) (h0 : w.cell? ⟨b, i, none⟩ = some x) (h1 : w.cell? ⟨b, j, none⟩ = some y) :
    u.cell? ⟨b, i, none⟩ = some x ∧ u.cell? ⟨b, j, none⟩ = some y :=
  ⟨(h.cell (p := ⟨b, i, none⟩) hb).trans h0, (h.cell (p := ⟨b, j, none⟩) hb).trans h1⟩
theorem okPairs.part {L : List (Int × Int)} (h : okPairs L) (k : Nat) : ∀ c ∈ L.take k, okPair c := fun c hc => h.2 c (List.mem_of_mem_take hc)
theorem sum_small {f : Int × Int → Int} {m : Int} {L : List (Int × Int)} (h : okPairs L) (hf : ∀ c, okPair c → -m ≤ f c ∧ f c ≤ m) (hm : 0 ≤ m) (k : Nat) : -(m * 20) ≤ sumR f (L.take k) ∧ sumR f (L.take k) ≤ m * 20 := by
  have h1 := sumR_bd (f := f) (m := m) (L := L.take k) (fun c hc => hf c (h.part k c hc))
  have h2 : ((L.take k).length : Int) ≤ 20 := by have := h.1.2; rw [List.length_take]; omega
  have h3 := Int.mul_le_mul_of_nonneg_left h2 hm
  omega
theorem err_bd {c : Int × Int} {o : Int} (h : okPair c) (ho : -2000 ≤ o ∧ o ≤ 2000) : -16000000 ≤ sqr (dif c - o) ∧ sqr (dif c - o) ≤ 16000000 := by
  have h1 := dif_bd h
  have h2 := sqr_nonneg (dif c - o)
  have h3 := sqr_bd (n := dif c - o) (m := 4000) (by omega) (by omega)
  have h4 : sqr 4000 = 16000000 := by decide
  omega
set_option maxHeartbeats 1000000 in
theorem specPairsValid (a : Option Addr) (len cap : Nat) (L : List (Int × Int)) (w : World) (h : Prr.PtsAt w a len L) (hl : len ≤ 9223372036854775807) :
    Calls Try.prog 15 #[.slice a len cap] w fun e w' => e = .returned (.bool (decide (okPairs L))) ∧ w = w' := by
  have HN := Lib.hid h.1
  have HA := Lib.hid h
  clear h
  go_enter Try.func15, Try.ntmps15
  go_wp2
  go_loop [3] (fun i => ∃ k : Nat, k ≤ len ∧ i = .int .i64 (k : Int) ∧ Hid (okTo16 L k)) (fun i => len - (intOf i).toNat)
  case atStart => exact ⟨0, Nat.zero_le _, rfl, Lib.hid fun j hj => by omega⟩
  case round =>
    obtain ⟨k, hk, rfl, HT⟩ := hrel
    by_cases hlt : k < len
    · obtain ⟨b, rfl, ltb, hc⟩ := HA.out.some (by omega)
      obtain ⟨d0, d1⟩ := hc k hlt
      have j1 : (0 : Int) ≤ (k : Int) := by omega
      have j2 : (k : Int) < (len : Int) := by omega
      have HX := Lib.hid (fun q => notPairs (L := L) (k := k) (by rw [← HN.out]; exact hlt) q)
      have HM := Lib.hid (fun q => HT.out.more (k := k) q)
      clear hc ltb HT
      generalize L.getD k (0, 0) = c at *
      obtain ⟨x, y⟩ := c
      simp only at d0 d1
      by_cases h0 : -1000 ≤ x ∧ x ≤ 1000
      rotate_left
      · have HV := Lib.hid (HX.out fun q => h0 q.1)
        go_wp2_with fail
        refine (l1In_no x (-1000) 1000 _ (by omega)).mono ?_
        rintro e w' ⟨rfl, rfl⟩
        go_wp2
        go_ret
        exact ⟨ret_bool HV.out, rfl⟩
      by_cases h1 : -1000 ≤ y ∧ y ≤ 1000
      rotate_left
      · have HV := Lib.hid (HX.out fun q => h1 q.2)
        go_wp2_with fail
        refine (l1In_yes x (-1000) 1000 _ h0.1 h0.2).mono ?_
        rintro e w' ⟨rfl, rfl⟩
        go_wp2_with fail
        refine (l1In_no y (-1000) 1000 _ (by omega)).mono ?_
        rintro e w' ⟨rfl, rfl⟩
        go_wp2
        go_ret
        exact ⟨ret_bool HV.out, rfl⟩
      have HT := Lib.hid (HM.out ⟨h0, h1⟩)
      go_wp2_with fail
      refine (l1In_yes x (-1000) 1000 _ h0.1 h0.2).mono ?_
      rintro e w' ⟨rfl, rfl⟩
      go_wp2_with fail
      refine (l1In_yes y (-1000) 1000 _ h1.1 h1.2).mono ?_
      rintro e w' ⟨rfl, rfl⟩
      clear HX HM h0 h1
      go_wp2
      go_round
      case rel => exact ⟨k + 1, by omega, by congr 1, HT⟩
      case measure => simp [intOf]; omega
    · obtain rfl : k = len := by omega
      have HV := Lib.hid (yesPairs (by rw [← HN.out]; exact HT.out))
      rw [← HN.out] at HV
      clear HT
      by_cases h2 : 1 ≤ (k : Int) ∧ (k : Int) ≤ 20
      · rw [decide_eq_true h2] at HV
        go_wp2_with fail
        refine (l1In_yes (k : Int) 1 20 _ h2.1 h2.2).mono ?_
        rintro e w' ⟨rfl, rfl⟩
        go_wp2
        go_ret
        exact ⟨ret_bool HV.out, rfl⟩
      · rw [decide_eq_false h2] at HV
        go_wp2_with fail
        refine (l1In_no (k : Int) 1 20 _ (by omega)).mono ?_
        rintro e w' ⟨rfl, rfl⟩
        go_wp2
        go_ret
        exact ⟨ret_bool HV.out, rfl⟩
set_option maxHeartbeats 4000000 in
theorem specFitOffset (a : Option Addr) (len cap : Nat) (L : List (Int × Int)) (w : World) (h : Prr.PtsAt w a len L) (hl : len ≤ 9223372036854775807) :
    Calls Try.prog 18 #[.slice a len cap] w fun e w' => e = .returned (.int .i64 (offV L)) ∧ Below w.heap.size w w' := by
  have HP := Lib.hid (specPairsValid a len cap L w h hl)
  by_cases h0 : okPairs L
  rotate_left
  · rw [decide_eq_false h0] at HP
    have HV := Lib.hid (show 0 = offV L from (if_neg h0).symm)
    clear h0
    go_enter Try.func18, Try.ntmps18
    go_wp2_with fail
    refine HP.out.mono ?_
    rintro e w' ⟨rfl, rfl⟩
    go_wp2
    go_ret
    exact ⟨ret_int HV.out, Below.refl _ _⟩
  rw [decide_eq_true h0] at HP
  have HV := Lib.hid (show offN L = offV L from (if_pos h0).symm)
  have hlen := h0.1
  rw [← h.1] at hlen
  have HSB := Lib.hid (fun k => sum_small (f := dif) (m := 2000) h0 (fun c hc => dif_bd hc) (by omega) k)
  have HT := Lib.hid (fun k (q : k < L.length) => sumR_take dif L q)
  have HALL := Lib.hid (sumR_all dif L)
  have HOK := Lib.hid h0
  have HN := Lib.hid h.1
  have HA0 := Lib.hid h
  have HFL := Lib.hid (fun (n : Int) u h1 h2 => l1Floor (2 * n + len) (2 * len) u (by omega) h1 h2 (by omega))
  clear h h0 hl
  go_enter Try.func18, Try.ntmps18
  go_wp2_with fail
  refine HP.out.mono ?_
  rintro e w' ⟨rfl, rfl⟩
  clear HP
  go_wp2
  go_loopw [3, 4] (fun nv iv wr => ∃ k : Nat, k ≤ len ∧ nv = .int .i64 (sumR dif (L.take k)) ∧ iv = .int .i64 (k : Int) ∧ Hid (Prr.PtsAt wr a len L) ∧ Hid (Below w.heap.size w wr)) (fun _ iv _ => len - (intOf iv).toNat)
  case atStart => exact ⟨0, Nat.zero_le _, rfl, rfl, HA0, Lib.hid (Below.refl _ _)⟩
  case round =>
    obtain ⟨k, hk, rfl, rfl, HA, HB⟩ := hrel
    clear HA0
    have hs := HSB.out k
    by_cases hlt : k < len
    · have ht := HT.out k (by rw [← HN.out]; exact hlt)
      obtain ⟨b, rfl, ltb, hc⟩ := HA.out.some (by omega)
      obtain ⟨d0, d1⟩ := hc k hlt
      have j1 : (0 : Int) ≤ (k : Int) := by omega
      have j2 : (k : Int) < (len : Int) := by omega
      have hcx := okAt16 HOK.out (k := k) (by rw [← HN.out]; exact hlt)
      have hdb := dif_bd hcx
      generalize L.getD k (0, 0) = c at *
      obtain ⟨x, y⟩ := c
      simp only at d0 d1
      unfold okPair at hcx
      simp only at hcx
      rw [show dif (x, y) = y - x from rfl] at ht hdb
      generalize sumR dif (L.take k) = n at *
      have o1 : IntKind.i64.wrap (n + y) = n + y := wrap_in (by omega) (by omega)
      have o2 : IntKind.i64.wrap (n + y - x) = n + y - x := wrap_in (by omega) (by omega)
      have HTK := Lib.hid (show n + y - x = sumR dif (L.take (k + 1)) by rw [ht]; omega)
      have HA2 := Lib.hid (HA.out.next (below_drew' wr))
      have HB2 := Lib.hid HB.out.drew
      clear ht hc hs hdb hcx HA HB
      go_upto_region 7 with fail
      have g0 : Below wr.heap.size wr wr := Below.refl _ _
      go_region_held3 (fun u => u.cell? ⟨b, k * 2 + 1, none⟩ = some (.int .i64 y) ∧ u.cell? ⟨b, k * 2, none⟩ = some (.int .i64 x)) (exact keep16 (by repeat (first | (with_reducible assumption) | (with_reducible apply Below.drew))) ltb d1 d0) (fail)
      go_wp2
      go_roundw
      case rel => exact ⟨k + 1, by omega, by rw [HTK.out], by congr 1, HA2, HB2⟩
      case measure => simp [intOf]; omega
    · obtain rfl : k = len := by omega
      have HV2 := Lib.hid (show flo (2 * sumR dif (L.take k) + k) (2 * k) = offV L by rw [← HV.out]; unfold offN; rw [show L.take k = L by rw [HN.out, List.take_length], ← HN.out])
      generalize sumR dif (L.take k) = n at *
      have o1 : IntKind.i64.wrap (2 * n) = 2 * n := wrap_in (by omega) (by omega)
      have o2 : IntKind.i64.wrap (2 * n + (k : Int)) = 2 * n + k := wrap_in (by omega) (by omega)
      have o3 : IntKind.i64.wrap (2 * (k : Int)) = 2 * k := wrap_in (by omega) (by omega)
      have HFL2 := Lib.hid (fun u => HFL.out n u (by omega) (by omega))
      clear hs HFL
      go_wp2_with fail
      refine (HFL2.out _).mono ?_
      rintro e w' ⟨rfl, rfl⟩
      go_wp2
      go_ret
      exact ⟨ret_int HV2.out, HB.out⟩
set_option maxHeartbeats 4000000 in
theorem specOffsetError (a : Option Addr) (len cap : Nat) (L : List (Int × Int)) (o : Int) (w : World) (h : Prr.PtsAt w a len L) (hl : len ≤ 9223372036854775807) :
    Calls Try.prog 22 #[.slice a len cap, .int .i64 o] w fun e w' => e = .returned (.int .i64 (errV L o)) ∧ Below w.heap.size w w' := by
  have HP := Lib.hid (specPairsValid a len cap L w h hl)
  by_cases h0 : okPairs L
  rotate_left
  · rw [decide_eq_false h0] at HP
    have HV := Lib.hid (show -1 = errV L o from (if_neg (fun q => h0 q.1)).symm)
    clear h0
    go_enter Try.func22, Try.ntmps22
    go_wp2_with fail
    refine HP.out.mono ?_
    rintro e w' ⟨rfl, rfl⟩
    go_wp2
    go_ret
    exact ⟨ret_int HV.out, Below.refl _ _⟩
  rw [decide_eq_true h0] at HP
  by_cases h1 : -2000 ≤ o ∧ o ≤ 2000
  rotate_left
  · have HV := Lib.hid (show -1 = errV L o from (if_neg (fun q => h1 q.2)).symm)
    clear h0
    go_enter Try.func22, Try.ntmps22
    go_wp2_with fail
    refine HP.out.mono ?_
    rintro e w' ⟨rfl, rfl⟩
    go_wp2_with fail
    refine (l1In_no o (-2000) 2000 _ (by omega)).mono ?_
    rintro e w' ⟨rfl, rfl⟩
    go_wp2
    go_ret
    exact ⟨ret_int HV.out, Below.refl _ _⟩
  have HV := Lib.hid (show errN L o = errV L o from (if_pos ⟨h0, h1⟩).symm)
  have hlen := h0.1
  rw [← h.1] at hlen
  have HE := Lib.hid (fun c (q : okPair c) => err_bd q h1)
  have HSB := Lib.hid (fun k => sum_small (f := fun c => sqr (dif c - o)) (m := 16000000) h0 (fun c hc => HE.out c hc) (by omega) k)
  have HT := Lib.hid (fun k (q : k < L.length) => sumR_take (fun c => sqr (dif c - o)) L q)
  have HOK := Lib.hid h0
  have HN := Lib.hid h.1
  have HA0 := Lib.hid h
  clear h h0 hl
  go_enter Try.func22, Try.ntmps22
  go_wp2_with fail
  refine HP.out.mono ?_
  rintro e w' ⟨rfl, rfl⟩
  clear HP
  go_wp2_with fail
  refine (l1In_yes o (-2000) 2000 _ h1.1 h1.2).mono ?_
  rintro e w' ⟨rfl, rfl⟩
  go_wp2
  go_loopw [5, 6] (fun nv iv wr => ∃ k : Nat, k ≤ len ∧ nv = .int .i64 (sumR (fun c => sqr (dif c - o)) (L.take k)) ∧ iv = .int .i64 (k : Int) ∧ Hid (Prr.PtsAt wr a len L) ∧ Hid (Below w.heap.size w wr)) (fun _ iv _ => len - (intOf iv).toNat)
  case atStart => exact ⟨0, Nat.zero_le _, rfl, rfl, HA0, Lib.hid (Below.refl _ _)⟩
  case round =>
    obtain ⟨k, hk, rfl, rfl, HA, HB⟩ := hrel
    clear HA0
    have hs := HSB.out k
    by_cases hlt : k < len
    · have ht := HT.out k (by rw [← HN.out]; exact hlt)
      obtain ⟨b, rfl, ltb, hc⟩ := HA.out.some (by omega)
      obtain ⟨d0, d1⟩ := hc k hlt
      have j1 : (0 : Int) ≤ (k : Int) := by omega
      have j2 : (k : Int) < (len : Int) := by omega
      have hcx := okAt16 HOK.out (k := k) (by rw [← HN.out]; exact hlt)
      have hdb := dif_bd hcx
      have heb := HE.out _ hcx
      generalize L.getD k (0, 0) = c at *
      obtain ⟨x, y⟩ := c
      simp only at d0 d1 ht heb
      unfold okPair at hcx
      simp only at hcx
      rw [show dif (x, y) = y - x from rfl] at ht hdb heb
      generalize sumR (fun c => sqr (dif c - o)) (L.take k) = n at *
      obtain ⟨d, hd⟩ : ∃ d, y - x - o = d := ⟨_, rfl⟩
      rw [hd] at ht heb
      have o1 : IntKind.i64.wrap (y - x) = y - x := wrap_in (by omega) (by omega)
      have o2 : IntKind.i64.wrap (y - x - o) = d := by rw [hd]; exact wrap_in (by omega) (by omega)
      obtain ⟨m, hm⟩ : ∃ m, sqr d = m := ⟨_, rfl⟩
      rw [hm] at ht heb
      have o3 : IntKind.i64.wrap (d * d) = m := by rw [show d * d = m from hm]; exact wrap_in (by omega) (by omega)
      have o4 : IntKind.i64.wrap (n + m) = n + m := wrap_in (by omega) (by omega)
      have HTK := Lib.hid (show n + m = sumR (fun c => sqr (dif c - o)) (L.take (k + 1)) by rw [ht])
      have HA2 := Lib.hid (HA.out.next (below_drew' wr))
      have HB2 := Lib.hid HB.out.drew
      clear ht hc hs hdb heb hcx HA HB hd hm
      go_upto_region 7 with fail
      have g0 : Below wr.heap.size wr wr := Below.refl _ _
      go_region_held3 (fun u => u.cell? ⟨b, k * 2 + 1, none⟩ = some (.int .i64 y) ∧ u.cell? ⟨b, k * 2, none⟩ = some (.int .i64 x)) (exact keep16 (by repeat (first | (with_reducible assumption) | (with_reducible apply Below.drew))) ltb d1 d0) (fail)
      go_wp2
      go_roundw
      case rel => exact ⟨k + 1, by omega, by rw [HTK.out], by congr 1, HA2, HB2⟩
      case measure => simp [intOf]; omega
    · obtain rfl : k = len := by omega
      have HV2 := Lib.hid (show sumR (fun c => sqr (dif c - o)) (L.take k) = errV L o by rw [← HV.out]; unfold errN; rw [show L.take k = L by rw [HN.out, List.take_length]])
      clear hs
      go_wp2
      go_ret
      exact ⟨ret_int HV2.out, HB.out⟩
theorem specDivisor (a b : Nat) (w : World) (ha : a ≤ 1000000000000) (hb : b ≤ 1000000000000) :
    Calls Try.prog 48 #[.int .i64 (a : Int), .int .i64 (b : Int)] w fun e w' => e = .returned (.int .i64 ((Nat.gcd a b : Nat) : Int)) ∧ w = w' := by
  obtain ⟨g, hg⟩ : ∃ g, Nat.gcd a b = g := ⟨_, rfl⟩
  rw [hg]
  have HG := Lib.hid hg
  clear hg
  go_enter Try.func48, Try.ntmps48
  go_wp2
  go_loop [0, 1] (fun x y => ∃ p q : Nat, x = .int .i64 (p : Int) ∧ y = .int .i64 (q : Int) ∧ p ≤ 1000000000000 ∧ q ≤ 1000000000000 ∧ Hid (Nat.gcd p q = g)) (fun _ y => (intOf y).toNat)
  case atStart => exact ⟨a, b, rfl, rfl, ha, hb, HG⟩
  case round =>
    obtain ⟨p, q, rfl, rfl, hp, hq, HE⟩ := hrel
    clear HG ha hb
    by_cases h0 : 0 < q
    · have j1 : (0 : Int) < (q : Int) := by omega
      have j2 : ¬ (q : Int) = 0 := by omega
      have j3 : p % q < q := Nat.mod_lt _ h0
      have j4 := Int.emod_lt_of_pos (p : Int) j1
      have j5 := Int.emod_nonneg (p : Int) j2
      have j6 : ((p : Int)).tmod (q : Int) = (p : Int) % (q : Int) := Int.tmod_eq_emod_of_nonneg (by omega)
      have o1 : IntKind.i64.wrap ((p : Int) % (q : Int)) = (p : Int) % (q : Int) := wrap_in (by omega) (by omega)
      have HE2 := Lib.hid (show Nat.gcd q (p % q) = g by rw [← HE.out, Nat.gcd_comm q, ← Nat.gcd_rec, Nat.gcd_comm])
      go_wp2
      go_round
      case rel => exact ⟨q, p % q, rfl, by rw [Int.natCast_emod], hq, by omega, HE2⟩
      case measure => simp [intOf]; omega
    · obtain rfl : q = 0 := by omega
      have HF := Lib.hid (show p = g by rw [← HE.out, Nat.gcd_zero_right])
      go_wp2
      go_ret
      exact ⟨ret_int (by rw [HF.out]), rfl⟩
/-- The sums of the first k pairs are small. -/
theorem sums_small {L : List (Int × Int)} (h : okPairs L) (k : Nat) : (-20000 ≤ sx (L.take k) ∧ sx (L.take k) ≤ 20000) ∧ (-20000 ≤ sy (L.take k) ∧ sy (L.take k) ≤ 20000) ∧ (-20000000 ≤ sxy (L.take k) ∧ sxy (L.take k) ≤ 20000000) ∧ -20000000 ≤ sxx (L.take k) ∧ sxx (L.take k) ≤ 20000000 :=
  ⟨sum_small (f := fun c => c.1) (m := 1000) h (fun c hc => hc.1) (by omega) k, sum_small (f := fun c => c.2) (m := 1000) h (fun c hc => hc.2) (by omega) k,
   sum_small (f := fun c => c.1 * c.2) (m := 1000000) h (fun c hc => prod_bd (m := 1000) hc.1.1 hc.1.2 hc.2.1 hc.2.2) (by omega) k,
   sum_small (f := fun c => c.1 * c.1) (m := 1000000) h (fun c hc => prod_bd (m := 1000) hc.1.1 hc.1.2 hc.1.1 hc.1.2) (by omega) k⟩
theorem sums_next {L : List (Int × Int)} {k : Nat} (hk : k < L.length) : sx (L.take (k + 1)) = sx (L.take k) + (L.getD k (0, 0)).1 ∧ sy (L.take (k + 1)) = sy (L.take k) + (L.getD k (0, 0)).2 ∧
    sxy (L.take (k + 1)) = sxy (L.take k) + (L.getD k (0, 0)).1 * (L.getD k (0, 0)).2 ∧ sxx (L.take (k + 1)) = sxx (L.take k) + (L.getD k (0, 0)).1 * (L.getD k (0, 0)).1 :=
  ⟨sumR_take _ L hk, sumR_take _ L hk, sumR_take _ L hk, sumR_take _ L hk⟩
/-- A quotient without a rest. -/
theorem tdiv_low {a b : Int} : a.tdiv (gcdI a b) = a / gcdI a b ∧ b.tdiv (gcdI a b) = b / gcdI a b :=
  ⟨Int.tdiv_eq_ediv_of_dvd (gcdI_dvd a b).1, Int.tdiv_eq_ediv_of_dvd (gcdI_dvd a b).2⟩
theorem quo_small {a g m : Int} (hg : 0 < g) (h0 : -m ≤ a) (h1 : a ≤ m) (hm : 0 ≤ m) : -m ≤ a / g ∧ a / g ≤ m := by
  constructor
  · refine Int.le_ediv_of_mul_le hg ?_
    have := Int.mul_le_mul_of_nonneg_left (show 1 ≤ g by omega) hm
    rw [Int.neg_mul]; omega
  · refine Int.lt_add_one_iff.1 (Int.ediv_lt_of_lt_mul hg ?_)
    have := Int.mul_le_mul_of_nonneg_left (show 1 ≤ g by omega) (show 0 ≤ m + 1 by omega)
    omega
set_option maxHeartbeats 4000000 in
theorem specFitSlope (a : Option Addr) (len cap : Nat) (L : List (Int × Int)) (w : World) (h : Prr.PtsAt w a len L) (hl : len ≤ 9223372036854775807) :
    Calls Try.prog 25 #[.slice a len cap] w fun e w' => e = .returned (.tuple #[.int .i64 (slpA L), .int .i64 (slpB L)]) ∧ Below w.heap.size w w' := by
  have HP := Lib.hid (specPairsValid a len cap L w h hl)
  by_cases h0 : okPairs L
  rotate_left
  · rw [decide_eq_false h0] at HP
    rw [show slpA L = 0 from if_neg (fun q => h0 q.1), show slpB L = 0 from if_neg (fun q => h0 q.1)]
    clear h0
    go_enter Try.func25, Try.ntmps25
    go_wp2_with fail
    refine HP.out.mono ?_
    rintro e w' ⟨rfl, rfl⟩
    go_wp2
    exact bodyPost_ret (v := .tuple #[.int .i64 0, .int .i64 0]) (by simp [results, Try.results25, go_sem]) rfl ⟨rfl, Below.refl _ _⟩
  rw [decide_eq_true h0] at HP
  have hlen := h0.1
  rw [← h.1] at hlen
  have HSB := Lib.hid (fun k => sums_small h0 k)
  have HT := Lib.hid (fun k (q : k < L.length) => sums_next q)
  have HOK := Lib.hid h0
  have HN := Lib.hid h.1
  have HA := Lib.hid h
  have HD0 := Lib.hid (denN_nonneg L)
  obtain ⟨ra, hra⟩ : ∃ z, slpA L = z := ⟨_, rfl⟩
  obtain ⟨rb, hrb⟩ : ∃ z, slpB L = z := ⟨_, rfl⟩
  rw [hra, hrb]
  have HRA := Lib.hid (fun q : denN L ≠ 0 => show ra = numN L / gcdI (numN L) (denN L) from hra ▸ if_pos ⟨h0, q⟩)
  have HRB := Lib.hid (fun q : denN L ≠ 0 => show rb = denN L / gcdI (numN L) (denN L) from hrb ▸ if_pos ⟨h0, q⟩)
  have HZA := Lib.hid (fun q : denN L = 0 => show (0 : Int) = ra from hra ▸ (if_neg (fun r => r.2 q)).symm)
  have HZB := Lib.hid (fun q : denN L = 0 => show (0 : Int) = rb from hrb ▸ (if_neg (fun r => r.2 q)).symm)
  clear hra hrb
  clear h h0 hl
  go_enter Try.func25, Try.ntmps25
  go_wp2_with fail
  refine HP.out.mono ?_
  rintro e w' ⟨rfl, rfl⟩
  clear HP
  go_wp2
  go_loop [5, 6, 7, 8, 9] (fun u v p q i => ∃ k : Nat, k ≤ len ∧ u = .int .i64 (sx (L.take k)) ∧ v = .int .i64 (sy (L.take k)) ∧ p = .int .i64 (sxy (L.take k)) ∧ q = .int .i64 (sxx (L.take k)) ∧ i = .int .i64 (k : Int)) (fun _ _ _ _ i => len - (intOf i).toNat)
  case atStart => exact ⟨0, Nat.zero_le _, rfl, rfl, rfl, rfl, rfl⟩
  case round =>
    obtain ⟨k, hk, rfl, rfl, rfl, rfl, rfl⟩ := hrel
    obtain ⟨s1, s2, s3, s4⟩ := HSB.out k
    by_cases hlt : k < len
    · obtain ⟨t1, t2, t3, t4⟩ := HT.out k (by rw [← HN.out]; exact hlt)
      obtain ⟨b, rfl, ltb, hc⟩ := HA.out.some (by omega)
      obtain ⟨d0, d1⟩ := hc k hlt
      have j1 : (0 : Int) ≤ (k : Int) := by omega
      have j2 : (k : Int) < (len : Int) := by omega
      have hcx := okAt16 HOK.out (k := k) (by rw [← HN.out]; exact hlt)
      generalize L.getD k (0, 0) = c at *
      obtain ⟨x, y⟩ := c
      simp only at d0 d1 t1 t2 t3 t4
      unfold okPair at hcx
      simp only at hcx
      generalize sx (L.take k) = u at *
      generalize sy (L.take k) = v at *
      generalize sxy (L.take k) = p at *
      generalize sxx (L.take k) = q at *
      have b1 := prod_bd (m := 1000) hcx.1.1 hcx.1.2 hcx.2.1 hcx.2.2
      have b2 := prod_bd (m := 1000) hcx.1.1 hcx.1.2 hcx.1.1 hcx.1.2
      obtain ⟨m1, hm1⟩ : ∃ m, x * y = m := ⟨_, rfl⟩
      obtain ⟨m2, hm2⟩ : ∃ m, x * x = m := ⟨_, rfl⟩
      rw [hm1] at b1 t3
      rw [hm2] at b2 t4
      have o1 : IntKind.i64.wrap (x * y) = m1 := by rw [hm1]; exact wrap_in (by omega) (by omega)
      have o2 : IntKind.i64.wrap (x * x) = m2 := by rw [hm2]; exact wrap_in (by omega) (by omega)
      have o3 : IntKind.i64.wrap (u + x) = u + x := wrap_in (by omega) (by omega)
      have o4 : IntKind.i64.wrap (v + y) = v + y := wrap_in (by omega) (by omega)
      have o5 : IntKind.i64.wrap (p + m1) = p + m1 := wrap_in (by omega) (by omega)
      have o6 : IntKind.i64.wrap (q + m2) = q + m2 := wrap_in (by omega) (by omega)
      have HTK := Lib.hid (And.intro t1 (And.intro t2 (And.intro t3 t4)))
      clear t1 t2 t3 t4 s1 s2 s3 s4 hc hcx b1 b2 hm1 hm2
      go_wp2
      go_round
      case rel => exact ⟨k + 1, by omega, by rw [HTK.out.1], by rw [HTK.out.2.1], by rw [HTK.out.2.2.1], by rw [HTK.out.2.2.2], by congr 1⟩
      case measure => simp [intOf]; omega
    · obtain rfl : k = len := by omega
      have hall : L.take k = L := by rw [HN.out, List.take_length]
      rw [hall] at s1 s2 s3 s4 ⊢
      have hnum : numN L = k * sxy L - sx L * sy L := by unfold numN; rw [← HN.out]
      have hden : denN L = k * sxx L - sx L * sx L := by unfold denN; rw [← HN.out]
      generalize sx L = u at *
      generalize sy L = v at *
      generalize sxy L = p at *
      generalize sxx L = q at *
      have b1 := prod_bd (m := 20000) s1.1 s1.2 s2.1 s2.2
      have b2 := prod_bd (m := 20000) s1.1 s1.2 s1.1 s1.2
      have b3 : -400000000 ≤ (k : Int) * p ∧ (k : Int) * p ≤ 400000000 := by
        have x1 := Int.mul_le_mul_of_nonneg_left s3.2 (show 0 ≤ (k : Int) by omega)
        have x2 := Int.mul_le_mul_of_nonneg_left s3.1 (show 0 ≤ (k : Int) by omega)
        omega
      have b4 : -400000000 ≤ (k : Int) * q ∧ (k : Int) * q ≤ 400000000 := by
        have x1 := Int.mul_le_mul_of_nonneg_left s4.2 (show 0 ≤ (k : Int) by omega)
        have x2 := Int.mul_le_mul_of_nonneg_left s4.1 (show 0 ≤ (k : Int) by omega)
        omega
      have o1 : IntKind.i64.wrap ((k : Int) * p) = (k : Int) * p := wrap_in (by omega) (by omega)
      have o2 : IntKind.i64.wrap (u * v) = u * v := wrap_in (by omega) (by omega)
      have o3 : IntKind.i64.wrap ((k : Int) * p - u * v) = numN L := by rw [hnum]; exact wrap_in (by omega) (by omega)
      have o4 : IntKind.i64.wrap ((k : Int) * q) = (k : Int) * q := wrap_in (by omega) (by omega)
      have o5 : IntKind.i64.wrap (u * u) = u * u := wrap_in (by omega) (by omega)
      have o6 : IntKind.i64.wrap ((k : Int) * q - u * u) = denN L := by rw [hden]; exact wrap_in (by omega) (by omega)
      have c1 : -800000000 ≤ numN L ∧ numN L ≤ 800000000 := by rw [hnum]; omega
      have c2 : denN L ≤ 800000000 := by rw [hden]; omega
      have c3 := HD0.out
      clear hnum hden hall b1 b2 b3 b4 s1 s2 s3 s4 HSB HT HN HA HD0 HOK
      generalize numN L = A at *
      generalize denN L = B at *
      by_cases hz : B = 0
      · have HZ := Lib.hid (And.intro (HZA.out hz) (HZB.out hz))
        have e0 : (B == 0) = true := by rw [hz]; rfl
        clear HRA HRB HZA HZB hz c1 c2 c3
        go_wp2
        exact bodyPost_ret (v := .tuple #[.int .i64 0, .int .i64 0]) (by simp [results, Try.results25, go_sem]) rfl ⟨by rw [← HZ.out.1, ← HZ.out.2], Below.refl _ _⟩
      have e0 : (B == 0) = false := by simp; exact hz
      have hra := HRA.out hz
      have hrb := HRB.out hz
      have hg := gcdI_pos (a := A) hz
      obtain ⟨t1, t2⟩ := tdiv_low (a := A) (b := B)
      have HDV := Lib.hid (fun u => specDivisor A.natAbs B.natAbs u (by omega) (by omega))
      rw [show ((Nat.gcd A.natAbs B.natAbs : Nat) : Int) = gcdI A B from rfl, show ((B.natAbs : Nat) : Int) = B by omega] at HDV
      generalize gcdI A B = g at *
      have r1 := quo_small (a := A) hg (m := 800000000) c1.1 c1.2 (by omega)
      have r2 := quo_small (a := B) hg (m := 800000000) (by omega) c2 (by omega)
      rw [← hra] at t1 r1
      rw [← hrb] at t2 r2
      have q1 : IntKind.i64.wrap (A.tdiv g) = ra := by rw [t1]; exact wrap_in (by omega) (by omega)
      have q2 : IntKind.i64.wrap (B.tdiv g) = rb := by rw [t2]; exact wrap_in (by omega) (by omega)
      have g0 : g ≠ 0 := by omega
      obtain ⟨na, hna⟩ : ∃ na, -A = na := ⟨_, rfl⟩
      have o7 : IntKind.i64.wrap (-A) = na := by rw [hna]; exact wrap_in (by omega) (by omega)
      rcases Int.lt_or_le A 0 with s | s
      · rw [show ((A.natAbs : Nat) : Int) = na by omega] at HDV
        have m1 : A < na := by omega
        clear t1 t2 r1 r2 hna hg hra hrb HRA HRB HZA HZB hz c1 c2 c3 s
        go_wp2_with fail
        refine (HDV.out _).mono ?_
        rintro e w' ⟨rfl, rfl⟩
        go_upto_region 22 with fail
        go_region_held3 (fun _ => True) (exact trivial) (fail)
        go_wp2
        exact bodyPost_ret (v := .tuple #[.int .i64 ra, .int .i64 rb]) (by simp [results, Try.results25, go_sem]) rfl ⟨rfl, below_drew' _⟩
      · rw [show ((A.natAbs : Nat) : Int) = A by omega] at HDV
        have m1 : na ≤ A := by omega
        clear t1 t2 r1 r2 hna hg hra hrb HRA HRB HZA HZB hz c1 c2 c3 s
        go_wp2_with fail
        refine (HDV.out _).mono ?_
        rintro e w' ⟨rfl, rfl⟩
        go_upto_region 22 with fail
        go_region_held3 (fun _ => True) (exact trivial) (fail)
        go_wp2
        exact bodyPost_ret (v := .tuple #[.int .i64 ra, .int .i64 rb]) (by simp [results, Try.results25, go_sem]) rfl ⟨rfl, below_drew' _⟩
theorem two_cs16 (w : World) (a b : Value) (t : Nat) : ∀ (j : Nat) u, [a, b][j]? = some u → (w.alloc (.cells #[a, b] t)).cell? ((⟨w.heap.size, 0, none⟩ : Addr).add j) = some u := by
  intro j u hu
  have hj : j = 0 ∨ j = 1 := by
    have := (List.getElem?_eq_some_iff.1 hu).1
    simp at this; omega
  rcases hj with rfl | rfl
  · simp at hu; subst hu; simp [Addr.add]
  · simp at hu; subst hu; simp [Addr.add]
set_option maxHeartbeats 4000000 in
theorem specWithoutOutliers (a : Option Addr) (len cap : Nat) (L : List (Int × Int)) (lim : Int) (w : World) (h : Prr.PtsAt w a len L) (hl : len ≤ 9223372036854775807) :
    Calls Try.prog 28 #[.slice a len cap, .int .i64 lim] w (Prr.PtRow (outV L lim) w) := by
  obtain ⟨i0, hi0, hz0, hz1, hz2⟩ := info_parts Prr.infoPt6
  have B0 := below_box w (.cells #[] 27)
  have HB0 := Lib.hid B0
  have HZ0 := Lib.hid (Prr.ownPt_empty w 27 rfl)
  have HP := Lib.hid (specPairsValid a len cap L _ (h.next B0) hl)
  have HFO := Lib.hid (specFitOffset a len cap L _ (h.next B0) hl)
  obtain ⟨R, hR⟩ : ∃ R, outV L lim = R := ⟨_, rfl⟩
  rw [hR]
  have HR := Lib.hid hR
  by_cases h0 : okPairs L
  rotate_left
  · rw [decide_eq_false h0] at HP
    have HE := Lib.hid (show [] = R from hR ▸ (if_neg (fun q => h0 q.1)).symm)
    clear h0 hR B0
    go_enter Try.func28, Try.ntmps28
    go_wp2_with fail
    refine HP.out.mono ?_
    rintro e w' ⟨rfl, rfl⟩
    go_wp2
    go_ret
    exact HE.out ▸ HZ0.out.slv w (Nat.le_refl _) HB0.out
  rw [decide_eq_true h0] at HP
  by_cases h1 : lim < 0
  · have HE := Lib.hid (show [] = R from hR ▸ (if_neg (fun q => by have := q.2; omega)).symm)
    clear h0 hR B0
    go_enter Try.func28, Try.ntmps28
    go_wp2_with fail
    refine HP.out.mono ?_
    rintro e w' ⟨rfl, rfl⟩
    go_wp2
    go_ret
    exact HE.out ▸ HZ0.out.slv w (Nat.le_refl _) HB0.out
  rw [show offV L = offN L from if_pos h0] at HFO
  have hob := offN_bd h0
  obtain ⟨o, ho⟩ : ∃ o, offN L = o := ⟨_, rfl⟩
  rw [ho] at HFO hob
  have HE := Lib.hid (show outR L o lim = R from by rw [← hR, ← ho]; exact (if_pos ⟨h0, by omega⟩).symm)
  have hlen := h0.1
  rw [← h.1] at hlen
  have HT := Lib.hid (fun k (q : k < L.length) => outR_next (L := L) (o := o) (lim := lim) q)
  have HLN := Lib.hid (fun k => Nat.le_trans (outR_len (L.take k) o lim) (List.length_take_le' k L))
  have HOK := Lib.hid h0
  have HN := Lib.hid h.1
  have HA0 := Lib.hid h
  clear h h0 hl hR HR ho B0
  go_enter Try.func28, Try.ntmps28
  go_wp2_with fail
  refine HP.out.mono ?_
  rintro e w' ⟨rfl, rfl⟩
  clear HP
  go_wp2_with fail
  refine HFO.out.mono ?_
  rintro e w2 ⟨rfl, B2⟩
  have HZ2 := Lib.hid (HZ0.out.next B2)
  have HB2 := Lib.hid (below_call HB0.out B2)
  clear B2 HZ0 HB0 HFO
  go_wp2
  go_loopw [5, 7] (fun v iv wr => ∃ (k : Nat) (zs : List (Int × Int)), k ≤ len ∧ iv = .int .i64 (k : Int) ∧ Hid (zs = outR (L.take k) o lim) ∧ Hid (Prr.OwnPt wr w.heap.size v zs) ∧ Hid (Below w.heap.size w wr)) (fun _ iv _ => len - (intOf iv).toNat)
  case atStart => exact ⟨0, [], Nat.zero_le _, rfl, Lib.hid rfl, HZ2, HB2⟩
  case round =>
    obtain ⟨k, zs, hk, rfl, HZS, HO, HB⟩ := hrel
    clear HZ2 HB2
    by_cases hlt : k < len
    · have HNX := Lib.hid (HT.out k (by rw [← HN.out]; exact hlt))
      rw [← HZS.out] at HNX
      have HLZ := Lib.hid (show zs.length ≤ 20 by have := HLN.out k; rw [HZS.out]; have := HN.out; omega)
      have hcx := okAt16 HOK.out (k := k) (by rw [← HN.out]; exact hlt)
      obtain ⟨b, rfl, ltb, hc⟩ := (HA0.out.next HB.out).some (by omega)
      obtain ⟨d0, d1⟩ := hc k hlt
      have j1 : (0 : Int) ≤ (k : Int) := by omega
      have j2 : (k : Int) < (len : Int) := by omega
      have hdb := dif_bd hcx
      generalize L.getD k (0, 0) = c at *
      obtain ⟨x, y⟩ := c
      simp only at d0 d1
      unfold okPair at hcx
      simp only at hcx
      rw [show dif (x, y) = y - x from rfl] at hdb
      obtain ⟨d, hd⟩ : ∃ d, y - x - o = d := ⟨_, rfl⟩
      have o1 : IntKind.i64.wrap (y - x) = y - x := wrap_in (by omega) (by omega)
      have o2 : IntKind.i64.wrap (y - x - o) = d := by rw [hd]; exact wrap_in (by omega) (by omega)
      obtain ⟨nd, hnd⟩ : ∃ nd, -d = nd := ⟨_, rfl⟩
      have o3 : IntKind.i64.wrap (-d) = nd := by rw [hnd]; exact wrap_in (by omega) (by omega)
      have HKP := Lib.hid (show kpt o lim (x, y) = decide (max d nd ≤ lim) by unfold kpt; rw [show dif (x, y) - o = d from hd, hnd])
      have O2 := Lib.hid (HO.out.next (below_drew' wr))
      have HB2 := Lib.hid HB.out.drew
      have c0 := ((below_drew' wr).cell (p := ⟨b, k * 2, none⟩) ltb).trans d0
      have c1 := ((below_drew' wr).cell (p := ⟨b, k * 2 + 1, none⟩) ltb).trans d1
      have hsg : (d < nd ∧ max d nd = nd) ∨ (nd ≤ d ∧ max d nd = d) := by omega
      clear hc hdb hcx hd hnd HO HB HZS
      go_upto_region 8 with fail
      have g0 : Below wr.heap.size wr wr := Below.refl _ _
      go_region_held3 (fun u => u.cell? ⟨b, k * 2 + 1, none⟩ = some (.int .i64 y) ∧ u.cell? ⟨b, k * 2, none⟩ = some (.int .i64 x)) (exact keep16 (by repeat (first | (with_reducible assumption) | (with_reducible apply Below.drew))) ltb d1 d0) (fail)
      generalize wr.drew = wx at *
      have HN2 := Lib.hid (show (0 : Nat) = 0 from rfl)
      clear d0 d1 g0
      rcases hsg with ⟨sg, hmx⟩ | ⟨sg, hmx⟩
      · rw [hmx] at HKP
        rcases Int.lt_or_le lim nd with kq | kq
        · have HTK := Lib.hid (show outR (L.take (k + 1)) o lim = zs by rw [HNX.out, if_neg (by rw [HKP.out]; simp; omega), List.append_nil])
          clear HKP HNX HN2 c0 c1
          go_wp2
          go_roundw
          case rel => exact ⟨k + 1, zs, by omega, by congr 1, Lib.hid HTK.out.symm, O2, HB2⟩
          case measure => simp [intOf]; omega
        · have HTK := Lib.hid (show outR (L.take (k + 1)) o lim = zs ++ [(x, y)] by rw [HNX.out, if_pos (by rw [HKP.out]; simp; omega)])
          have BX := below_box wx (.cells #[.int .i64 x, .int .i64 y] 27)
          have HW5 := Lib.hid (below_call HB2.out BX)
          have O5 := Lib.hid (O2.out.next BX)
          have own0 := Lib.hid (World.ownsRow.lt O2.out)
          have HN := Lib.hid (two_cs16 wx (.int .i64 x) (.int .i64 y) 27)
          have HP6 := Lib.hid (Prr.pvals_snoc6 zs (x, y))
          have HSZ : Hid (w.heap.size ≤ (wx.alloc (.cells #[.int .i64 x, .int .i64 y] 27)).heap.size) := Lib.hid HW5.out.size
          have hzl := HLZ.out
          clear HKP HNX BX HN2 O2 HB2 HLZ
          go_wp2_with (at_builtin; refine wpList_append_lies _ rfl (.tmp 45) (.tmp 50) 23 rfl w.heap.size 27 i0 (pt 0 0) 2 16 Try.underlying23 hi0 hz0 hz1 hz2 rfl (by decide) _ zs.length (Prr.pvals zs) rfl O5.out ⟨wx.heap.size, 0, none⟩ 1 1 [.int .i64 x, .int .i64 y] rfl rfl HN.out (by intro u hu; simp at hu; rcases hu with rfl | rfl <;> rfl) (by omega) (by unfold maxLen; omega) (by omega) HSZ.out _ rfl ?_; intro g9 cap9 w9 own9 grow9 at9 ltg9; have HA9 := Lib.hid (And.intro own9 grow9); clear own9 grow9 at9 ltg9)
          have HW9 := Lib.hid (HW5.out.grown HA9.out.2 HW5.out.size (fun q hq => (own0.out q hq).1))
          have O9 := Lib.hid (show Prr.OwnPt w9 w.heap.size (.slice (some ⟨g9, 0, none⟩) (zs.length + 1) cap9) (zs ++ [(x, y)]) by
            have o9 := HA9.out.1
            rw [← HP6.out] at o9
            unfold Prr.OwnPt
            rw [List.length_append]
            exact o9)
          clear HA9 HW5 O5
          go_roundw
          case rel => exact ⟨k + 1, zs ++ [(x, y)], by omega, by congr 1, Lib.hid HTK.out.symm, O9, HW9⟩
          case measure => simp [intOf]; omega
      · rw [hmx] at HKP
        rcases Int.lt_or_le lim d with kq | kq
        · have HTK := Lib.hid (show outR (L.take (k + 1)) o lim = zs by rw [HNX.out, if_neg (by rw [HKP.out]; simp; omega), List.append_nil])
          clear HKP HNX HN2 c0 c1
          go_wp2
          go_roundw
          case rel => exact ⟨k + 1, zs, by omega, by congr 1, Lib.hid HTK.out.symm, O2, HB2⟩
          case measure => simp [intOf]; omega
        · have HTK := Lib.hid (show outR (L.take (k + 1)) o lim = zs ++ [(x, y)] by rw [HNX.out, if_pos (by rw [HKP.out]; simp; omega)])
          have BX := below_box wx (.cells #[.int .i64 x, .int .i64 y] 27)
          have HW5 := Lib.hid (below_call HB2.out BX)
          have O5 := Lib.hid (O2.out.next BX)
          have own0 := Lib.hid (World.ownsRow.lt O2.out)
          have HN := Lib.hid (two_cs16 wx (.int .i64 x) (.int .i64 y) 27)
          have HP6 := Lib.hid (Prr.pvals_snoc6 zs (x, y))
          have HSZ : Hid (w.heap.size ≤ (wx.alloc (.cells #[.int .i64 x, .int .i64 y] 27)).heap.size) := Lib.hid HW5.out.size
          have hzl := HLZ.out
          clear HKP HNX BX HN2 O2 HB2 HLZ
          go_wp2_with (at_builtin; refine wpList_append_lies _ rfl (.tmp 45) (.tmp 50) 23 rfl w.heap.size 27 i0 (pt 0 0) 2 16 Try.underlying23 hi0 hz0 hz1 hz2 rfl (by decide) _ zs.length (Prr.pvals zs) rfl O5.out ⟨wx.heap.size, 0, none⟩ 1 1 [.int .i64 x, .int .i64 y] rfl rfl HN.out (by intro u hu; simp at hu; rcases hu with rfl | rfl <;> rfl) (by omega) (by unfold maxLen; omega) (by omega) HSZ.out _ rfl ?_; intro g9 cap9 w9 own9 grow9 at9 ltg9; have HA9 := Lib.hid (And.intro own9 grow9); clear own9 grow9 at9 ltg9)
          have HW9 := Lib.hid (HW5.out.grown HA9.out.2 HW5.out.size (fun q hq => (own0.out q hq).1))
          have O9 := Lib.hid (show Prr.OwnPt w9 w.heap.size (.slice (some ⟨g9, 0, none⟩) (zs.length + 1) cap9) (zs ++ [(x, y)]) by
            have o9 := HA9.out.1
            rw [← HP6.out] at o9
            unfold Prr.OwnPt
            rw [List.length_append]
            exact o9)
          clear HA9 HW5 O5
          go_roundw
          case rel => exact ⟨k + 1, zs ++ [(x, y)], by omega, by congr 1, Lib.hid HTK.out.symm, O9, HW9⟩
          case measure => simp [intOf]; omega
    · obtain rfl : k = len := by omega
      have HF := HO.out
      rw [HZS.out, show L.take k = L by rw [HN.out, List.take_length], HE.out] at HF
      have HF2 := Lib.hid HF
      clear HF HO HZS
      go_wp2
      go_ret
      exact HF2.out.slv w (Nat.le_refl _) HB.out
end Go.Proofs.Ytppkipcgpmijpaa
