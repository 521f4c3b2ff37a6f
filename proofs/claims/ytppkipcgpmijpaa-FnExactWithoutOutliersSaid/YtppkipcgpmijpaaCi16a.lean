/- Pairs: the program's functions, the small ones and the sums. -/
import Derived.Test.YtppkipcgpmijpaaCs16
namespace Go.Proofs.Ytppkipcgpmijpaa
set_option maxRecDepth 100000
open Go.RowKit
attribute [local go_sem ↓] Go.wp_at_zero Go.wp_at_succ
theorem yes14 {P : Prop} [Decidable P] {F : Nat} {args : Array Value} {w : World} (c : Calls Try.prog F args w fun e w' => e = .returned (.bool (decide P)) ∧ Below w.heap.size w w') (h : P) : Calls Try.prog F args w fun e w' => e = .returned (.bool true) ∧ Below w.heap.size w w' := by rwa [decide_eq_true h] at c
theorem no14 {P : Prop} [Decidable P] {F : Nat} {args : Array Value} {w : World} (c : Calls Try.prog F args w fun e w' => e = .returned (.bool (decide P)) ∧ Below w.heap.size w w') (h : ¬ P) : Calls Try.prog F args w fun e w' => e = .returned (.bool false) ∧ Below w.heap.size w w' := by rwa [decide_eq_false h] at c
/-- Sums as a value. -/
abbrev sms (n x y p q : Int) : Value := .agg #[.int .i64 n, .int .i64 x, .int .i64 y, .int .i64 p, .int .i64 q]
/-- A box of sums that may be written to. -/
structure Sms (w : World) (b : Nat) (n x y p q : Int) : Prop where
  lt : b < w.heap.size
  c0 : w.cell? ⟨b, 0, none⟩ = some (.int .i64 n)
  c1 : w.cell? ⟨b, 1, none⟩ = some (.int .i64 x)
  c2 : w.cell? ⟨b, 2, none⟩ = some (.int .i64 y)
  c3 : w.cell? ⟨b, 3, none⟩ = some (.int .i64 p)
  c4 : w.cell? ⟨b, 4, none⟩ = some (.int .i64 q)
  z0 : w.frozen? ⟨b, 0, none⟩ = false
  z1 : w.frozen? ⟨b, 1, none⟩ = false
  z2 : w.frozen? ⟨b, 2, none⟩ = false
  z3 : w.frozen? ⟨b, 3, none⟩ = false
  z4 : w.frozen? ⟨b, 4, none⟩ = false
theorem Sms.box (w : World) (n x y p q : Int) (T : TypeId) : Sms (w.alloc (.cells #[.int .i64 n, .int .i64 x, .int .i64 y, .int .i64 p, .int .i64 q] T)) w.heap.size n x y p q := by
  refine ⟨by simp, ?_, ?_, ?_, ?_, ?_, World.frozen?_alloc_at _ _ _ _ rfl, World.frozen?_alloc_at _ _ _ _ rfl, World.frozen?_alloc_at _ _ _ _ rfl, World.frozen?_alloc_at _ _ _ _ rfl, World.frozen?_alloc_at _ _ _ _ rfl⟩ <;>
  (rw [World.cell?_alloc_at _ _ _ _ rfl]; rfl)
section
variable {w w' : World} {b : Nat} {n x y p q : Int}
theorem Sms.keep {B : Nat} (h : Sms w b n x y p q) (hb : Below B w w') (hB : b < B) : Sms w' b n x y p q :=
  ⟨Nat.lt_of_lt_of_le h.lt hb.size, (hb.cell (p := ⟨b, 0, none⟩) hB).trans h.c0, (hb.cell (p := ⟨b, 1, none⟩) hB).trans h.c1, (hb.cell (p := ⟨b, 2, none⟩) hB).trans h.c2, (hb.cell (p := ⟨b, 3, none⟩) hB).trans h.c3, (hb.cell (p := ⟨b, 4, none⟩) hB).trans h.c4, (hb.frozen (p := ⟨b, 0, none⟩) hB).trans h.z0, (hb.frozen (p := ⟨b, 1, none⟩) hB).trans h.z1, (hb.frozen (p := ⟨b, 2, none⟩) hB).trans h.z2, (hb.frozen (p := ⟨b, 3, none⟩) hB).trans h.z3, (hb.frozen (p := ⟨b, 4, none⟩) hB).trans h.z4⟩
theorem Sms.next (h : Sms w b n x y p q) (hb : Below w.heap.size w w') : Sms w' b n x y p q := h.keep hb h.lt
theorem Sms.kepts (h : Sms w b n x y p q) : (∀ k : Kept w, k.u.cell? ⟨b, 0, none⟩ = some (.int .i64 n)) ∧ (∀ k : Kept w, k.u.cell? ⟨b, 1, none⟩ = some (.int .i64 x)) ∧ (∀ k : Kept w, k.u.cell? ⟨b, 2, none⟩ = some (.int .i64 y)) ∧ (∀ k : Kept w, k.u.cell? ⟨b, 3, none⟩ = some (.int .i64 p)) ∧ (∀ k : Kept w, k.u.cell? ⟨b, 4, none⟩ = some (.int .i64 q)) :=
  ⟨keptCell h.lt h.c0, keptCell h.lt h.c1, keptCell h.lt h.c2, keptCell h.lt h.c3, keptCell h.lt h.c4⟩
theorem Sms.put0 (h : Sms w b n x y p q) (u : Int) : Sms (w.setCell ⟨b, 0, none⟩ (.int .i64 u)) b u x y p q :=
  ⟨by simpa [World.setCell] using h.lt, World.cell?_setCell_same _ _ _ h.c0, (World.cell?_setCell_other _ _ _ _ (by simp)).trans h.c1, (World.cell?_setCell_other _ _ _ _ (by simp)).trans h.c2, (World.cell?_setCell_other _ _ _ _ (by simp)).trans h.c3, (World.cell?_setCell_other _ _ _ _ (by simp)).trans h.c4, (World.frozen?_setCell _ _ _ _).trans h.z0, (World.frozen?_setCell _ _ _ _).trans h.z1, (World.frozen?_setCell _ _ _ _).trans h.z2, (World.frozen?_setCell _ _ _ _).trans h.z3, (World.frozen?_setCell _ _ _ _).trans h.z4⟩
theorem Sms.put1 (h : Sms w b n x y p q) (u : Int) : Sms (w.setCell ⟨b, 1, none⟩ (.int .i64 u)) b n u y p q :=
  ⟨by simpa [World.setCell] using h.lt, (World.cell?_setCell_other _ _ _ _ (by simp)).trans h.c0, World.cell?_setCell_same _ _ _ h.c1, (World.cell?_setCell_other _ _ _ _ (by simp)).trans h.c2, (World.cell?_setCell_other _ _ _ _ (by simp)).trans h.c3, (World.cell?_setCell_other _ _ _ _ (by simp)).trans h.c4, (World.frozen?_setCell _ _ _ _).trans h.z0, (World.frozen?_setCell _ _ _ _).trans h.z1, (World.frozen?_setCell _ _ _ _).trans h.z2, (World.frozen?_setCell _ _ _ _).trans h.z3, (World.frozen?_setCell _ _ _ _).trans h.z4⟩
theorem Sms.put2 (h : Sms w b n x y p q) (u : Int) : Sms (w.setCell ⟨b, 2, none⟩ (.int .i64 u)) b n x u p q :=
  ⟨by simpa [World.setCell] using h.lt, (World.cell?_setCell_other _ _ _ _ (by simp)).trans h.c0, (World.cell?_setCell_other _ _ _ _ (by simp)).trans h.c1, World.cell?_setCell_same _ _ _ h.c2, (World.cell?_setCell_other _ _ _ _ (by simp)).trans h.c3, (World.cell?_setCell_other _ _ _ _ (by simp)).trans h.c4, (World.frozen?_setCell _ _ _ _).trans h.z0, (World.frozen?_setCell _ _ _ _).trans h.z1, (World.frozen?_setCell _ _ _ _).trans h.z2, (World.frozen?_setCell _ _ _ _).trans h.z3, (World.frozen?_setCell _ _ _ _).trans h.z4⟩
theorem Sms.put3 (h : Sms w b n x y p q) (u : Int) : Sms (w.setCell ⟨b, 3, none⟩ (.int .i64 u)) b n x y u q :=
  ⟨by simpa [World.setCell] using h.lt, (World.cell?_setCell_other _ _ _ _ (by simp)).trans h.c0, (World.cell?_setCell_other _ _ _ _ (by simp)).trans h.c1, (World.cell?_setCell_other _ _ _ _ (by simp)).trans h.c2, World.cell?_setCell_same _ _ _ h.c3, (World.cell?_setCell_other _ _ _ _ (by simp)).trans h.c4, (World.frozen?_setCell _ _ _ _).trans h.z0, (World.frozen?_setCell _ _ _ _).trans h.z1, (World.frozen?_setCell _ _ _ _).trans h.z2, (World.frozen?_setCell _ _ _ _).trans h.z3, (World.frozen?_setCell _ _ _ _).trans h.z4⟩
theorem Sms.put4 (h : Sms w b n x y p q) (u : Int) : Sms (w.setCell ⟨b, 4, none⟩ (.int .i64 u)) b n x y p u :=
  ⟨by simpa [World.setCell] using h.lt, (World.cell?_setCell_other _ _ _ _ (by simp)).trans h.c0, (World.cell?_setCell_other _ _ _ _ (by simp)).trans h.c1, (World.cell?_setCell_other _ _ _ _ (by simp)).trans h.c2, (World.cell?_setCell_other _ _ _ _ (by simp)).trans h.c3, World.cell?_setCell_same _ _ _ h.c4, (World.frozen?_setCell _ _ _ _).trans h.z0, (World.frozen?_setCell _ _ _ _).trans h.z1, (World.frozen?_setCell _ _ _ _).trans h.z2, (World.frozen?_setCell _ _ _ _).trans h.z3, (World.frozen?_setCell _ _ _ _).trans h.z4⟩
end
theorem AtP.far16 {w : World} {b c o : Nat} {x y : Int} (h : AtP w b x y) (hc : c ≠ b) (v : Value) : AtP (w.setCell ⟨c, o, none⟩ v) b x y :=
  ⟨by simpa [World.setCell] using h.lt, (World.cell?_setCell_far _ _ _ _ hc).trans h.c0, (World.cell?_setCell_far _ _ _ _ hc).trans h.c1⟩
theorem Prr.PtsAt.inn {w : World} {a : Option Addr} {len : Nat} {ps : List (Int × Int)} (h : Prr.PtsAt w a len ps) : Prr.PtsIn w a len ps :=
  ⟨h.1, h.2.imp id fun ⟨b, h1, h2, h3⟩ => ⟨b, 0, h1, h2, fun i hi => by rw [Nat.zero_add]; exact h3 i hi⟩⟩
theorem Prr.PtsIn.nxt16 {w w' : World} {a : Option Addr} {len : Nat} {ps : List (Int × Int)} (h : Prr.PtsIn w a len ps) (hb : Below w.heap.size w w') : Prr.PtsIn w' a len ps :=
  ⟨h.1, h.2.imp id fun ⟨b, off, h1, h2, h3⟩ => ⟨b, off, h1, Nat.lt_of_lt_of_le h2 hb.size, fun i hi => ⟨(hb.cell (p := ⟨b, off + i * 2, none⟩) h2).trans (h3 i hi).1, (hb.cell (p := ⟨b, off + i * 2 + 1, none⟩) h2).trans (h3 i hi).2⟩⟩⟩
theorem Prr.PtsIn.some {w : World} {a : Option Addr} {len : Nat} {ps : List (Int × Int)} (h : Prr.PtsIn w a len ps) (hl : 1 ≤ len) : ∃ b off, a = Option.some ⟨b, off, none⟩ ∧ b < w.heap.size ∧ ∀ i, i < len → w.cell? ⟨b, off + i * 2, none⟩ = Option.some (.int .i64 (ps.getD i (0, 0)).1) ∧ w.cell? ⟨b, off + i * 2 + 1, none⟩ = Option.some (.int .i64 (ps.getD i (0, 0)).2) := by
  rcases h.2 with h2 | ⟨b, off, h1, h2, h3⟩
  · have := h.1; rw [h2] at this; simp at this; omega
  · exact ⟨b, off, h1, h2, fun i hi => h3 i (by rw [← h.1]; exact hi)⟩
theorem dif_sum : ∀ L : List (Int × Int), sumR dif L = sy L - sx L
  | [] => rfl
  | c :: L => by
    have := dif_sum L
    unfold sy sx at *
    simp only [sumR]
    rw [this]; unfold dif; omega
theorem measC (v : Int) (w : World) : Calls Try.prog 51 #[.int .i64 v] w fun e w' => e = .returned (.bool (decide (-1000 ≤ v ∧ v ≤ 1000))) ∧ w = w' := by
  by_cases h0 : -1000 ≤ v
  · have HE := Lib.hid (show decide (v ≤ 1000) = decide (-1000 ≤ v ∧ v ≤ 1000) by rw [Bool.eq_iff_iff]; simp [h0])
    go_enter Try.func51, Try.ntmps51
    go_wp2
    go_ret
    exact ⟨ret_bool HE.out, rfl⟩
  · have HE := Lib.hid (show false = decide (-1000 ≤ v ∧ v ≤ 1000) from (decide_eq_false (fun q => h0 q.1)).symm)
    have q1 : decide (-1000 ≤ v) = false := decide_eq_false h0
    generalize decide (-1000 ≤ v ∧ v ≤ 1000) = d at *
    go_enter Try.func51, Try.ntmps51
    go_wp2
    go_ret
    exact ⟨ret_bool HE.out, rfl⟩
theorem measC_yes (v : Int) (w : World) (h : -1000 ≤ v ∧ v ≤ 1000) : Calls Try.prog 51 #[.int .i64 v] w fun e w' => e = .returned (.bool true) ∧ w = w' := by
  have := measC v w
  rwa [decide_eq_true h] at this
theorem measC_no (v : Int) (w : World) (h : ¬ (-1000 ≤ v ∧ v ≤ 1000)) : Calls Try.prog 51 #[.int .i64 v] w fun e w' => e = .returned (.bool false) ∧ w = w' := by
  have := measC v w
  rwa [decide_eq_false h] at this
theorem offC (v : Int) (w : World) : Calls Try.prog 43 #[.int .i64 v] w fun e w' => e = .returned (.bool (decide (-2000 ≤ v ∧ v ≤ 2000))) ∧ w = w' := by
  by_cases h0 : -2000 ≤ v
  · have HE := Lib.hid (show decide (v ≤ 2000) = decide (-2000 ≤ v ∧ v ≤ 2000) by rw [Bool.eq_iff_iff]; simp [h0])
    go_enter Try.func43, Try.ntmps43
    go_wp2
    go_ret
    exact ⟨ret_bool HE.out, rfl⟩
  · have HE := Lib.hid (show false = decide (-2000 ≤ v ∧ v ≤ 2000) from (decide_eq_false (fun q => h0 q.1)).symm)
    have q1 : decide (-2000 ≤ v) = false := decide_eq_false h0
    generalize decide (-2000 ≤ v ∧ v ≤ 2000) = d at *
    go_enter Try.func43, Try.ntmps43
    go_wp2
    go_ret
    exact ⟨ret_bool HE.out, rfl⟩
theorem offC_yes (v : Int) (w : World) (h : -2000 ≤ v ∧ v ≤ 2000) : Calls Try.prog 43 #[.int .i64 v] w fun e w' => e = .returned (.bool true) ∧ w = w' := by
  have := offC v w
  rwa [decide_eq_true h] at this
theorem offC_no (v : Int) (w : World) (h : ¬ (-2000 ≤ v ∧ v ≤ 2000)) : Calls Try.prog 43 #[.int .i64 v] w fun e w' => e = .returned (.bool false) ∧ w = w' := by
  have := offC v w
  rwa [decide_eq_false h] at this
set_option maxHeartbeats 1000000 in
theorem pairValidM (x y : Int) (w : World) : Calls Try.prog 37 #[pt x y] w fun e w' => e = .returned (.bool (decide (okPair (x, y)))) ∧ Below w.heap.size w w' := by
  have HB := Lib.hid (below_box w (.cells #[.int .i64 x, .int .i64 y] 27))
  have HE : ∀ b, (b = true ↔ okPair (x, y)) → b = decide (okPair (x, y)) := fun b h => by rw [Bool.eq_iff_iff, h]; simp
  by_cases h0 : -1000 ≤ x ∧ x ≤ 1000
  rotate_left
  · have HV := Lib.hid (HE false ⟨(fun h => by cases h), fun h => absurd h.1 h0⟩)
    clear HE
    go_enter Try.func37, Try.ntmps37
    go_wp2_with fail
    refine (measC_no x _ h0).mono ?_
    rintro e w' ⟨rfl, rfl⟩
    go_wp2
    go_ret
    exact ⟨ret_bool HV.out, HB.out⟩
  by_cases h1 : -1000 ≤ y ∧ y ≤ 1000
  rotate_left
  · have HV := Lib.hid (HE false ⟨(fun h => by cases h), fun h => absurd h.2 h1⟩)
    clear HE
    go_enter Try.func37, Try.ntmps37
    go_wp2_with fail
    refine (measC_yes x _ h0).mono ?_
    rintro e w' ⟨rfl, rfl⟩
    go_wp2_with fail
    refine (measC_no y _ h1).mono ?_
    rintro e w' ⟨rfl, rfl⟩
    go_wp2
    go_ret
    exact ⟨ret_bool HV.out, HB.out⟩
  have HV := Lib.hid (HE true ⟨fun _ => ⟨h0, h1⟩, fun _ => rfl⟩)
  clear HE
  go_enter Try.func37, Try.ntmps37
  go_wp2_with fail
  refine (measC_yes x _ h0).mono ?_
  rintro e w' ⟨rfl, rfl⟩
  go_wp2_with fail
  refine (measC_yes y _ h1).mono ?_
  rintro e w' ⟨rfl, rfl⟩
  go_wp2
  go_ret
  exact ⟨ret_bool HV.out, HB.out⟩
theorem deviM (x y o : Int) (w : World) (h : okPair (x, y)) (ho : -2000 ≤ o ∧ o ≤ 2000) :
    Calls Try.prog 44 #[pt x y, .int .i64 o] w fun e w' => e = .returned (.int .i64 (y - x - o)) ∧ Below w.heap.size w w' := by
  have HB := Lib.hid (below_box w (.cells #[.int .i64 x, .int .i64 y] 27))
  obtain ⟨⟨h1, h2⟩, h3, h4⟩ := h
  simp only at h1 h2 h3 h4
  have o1 : IntKind.i64.wrap (y - x) = y - x := wrap_in (by omega) (by omega)
  have o2 : IntKind.i64.wrap (y - x - o) = y - x - o := wrap_in (by omega) (by omega)
  clear h1 h2 h3 h4 ho
  go_enter Try.func44, Try.ntmps44
  go_wp2
  go_ret
  exact ⟨rfl, HB.out⟩
set_option maxHeartbeats 1000000 in
theorem divisorM (a b : Int) (w : World) (ha0 : 0 ≤ a) (ha : a ≤ 1000000000000) (hb0 : -1000000000000 ≤ b) (hb : b ≤ 1000000000000) :
    Calls Try.prog 55 #[.int .i64 a, .int .i64 b] w fun e w' => e = .returned (.int .i64 (gcdI b a)) ∧ Below w.heap.size w w' := by
  obtain ⟨n, hn⟩ : ∃ n, -b = n := ⟨_, rfl⟩
  have o1 : IntKind.i64.wrap (-b) = n := by rw [hn]; exact wrap_in (by omega) (by omega)
  obtain ⟨g, hg⟩ : ∃ g, gcdI b a = g := ⟨_, rfl⟩
  rw [hg]
  have HG := Lib.hid (show ((Nat.gcd a.natAbs b.natAbs : Nat) : Int) = g by rw [← hg]; unfold gcdI; rw [Nat.gcd_comm])
  have HZ := Lib.hid (Below.refl w.heap.size w)
  rcases Int.lt_or_le b 0 with s | s
  · have m1 : b < n := by omega
    have m2 := Lib.hid (show n = ((b.natAbs : Nat) : Int) by omega)
    clear hg s
    go_enter Try.func55, Try.ntmps55
    go_wp2
    go_loopw [0, 1] (fun x y wr => ∃ p q : Nat, x = .int .i64 (p : Int) ∧ y = .int .i64 (q : Int) ∧ p ≤ 1000000000000 ∧ q ≤ 1000000000000 ∧ Hid (((Nat.gcd p q : Nat) : Int) = g) ∧ Hid (Below w.heap.size w wr)) (fun _ y _ => (intOf y).toNat)
    case atStart => exact ⟨a.natAbs, b.natAbs, by congr 1; omega, by rw [← m2.out], by omega, by omega, HG, HZ⟩
    case round =>
      obtain ⟨p, q, rfl, rfl, hp, hq, HE, HW⟩ := hrel
      clear HG HZ ha0 ha hb0 hb hn o1 m1 m2
      by_cases h0 : 0 < q
      · have j1 : (0 : Int) < (q : Int) := by omega
        have j2 : ¬ (q : Int) = 0 := by omega
        have j0 : ((q : Int) != 0) = true := by simp; omega
        have j3 : p % q < q := Nat.mod_lt _ h0
        have j6 : ((p : Int)).tmod (q : Int) = (p : Int) % (q : Int) := Int.tmod_eq_emod_of_nonneg (by omega)
        have j4 := Int.emod_lt_of_pos (p : Int) j1
        have j5 := Int.emod_nonneg (p : Int) j2
        have o2 : IntKind.i64.wrap ((p : Int) % (q : Int)) = (p : Int) % (q : Int) := wrap_in (by omega) (by omega)
        have HE2 := Lib.hid (show ((Nat.gcd q (p % q) : Nat) : Int) = g by rw [← HE.out, Nat.gcd_comm q, ← Nat.gcd_rec, Nat.gcd_comm])
        have HW2 := Lib.hid (fun n => show Below w.heap.size w (wr.drewN n) from ⟨HW.out.os, HW.out.tape, HW.out.output, HW.out.size, HW.out.block⟩)
        clear HE HW
        go_upto_region 3 with fail
        go_quiet (fail)
        go_wp2
        go_roundw
        case rel => exact ⟨q, p % q, rfl, by rw [Int.natCast_emod], hq, by omega, HE2, Lib.hid (HW2.out _)⟩
        case measure => simp [intOf]; omega
      · obtain rfl : q = 0 := by omega
        have HF := Lib.hid (show (p : Int) = g by rw [← HE.out, Nat.gcd_zero_right])
        go_wp2
        go_ret
        exact ⟨ret_int (by rw [HF.out]), HW.out⟩
  · have m1 : n ≤ b := by omega
    have m2 := Lib.hid (show b = ((b.natAbs : Nat) : Int) by omega)
    clear hg s
    go_enter Try.func55, Try.ntmps55
    go_wp2
    go_loopw [0, 1] (fun x y wr => ∃ p q : Nat, x = .int .i64 (p : Int) ∧ y = .int .i64 (q : Int) ∧ p ≤ 1000000000000 ∧ q ≤ 1000000000000 ∧ Hid (((Nat.gcd p q : Nat) : Int) = g) ∧ Hid (Below w.heap.size w wr)) (fun _ y _ => (intOf y).toNat)
    case atStart => exact ⟨a.natAbs, b.natAbs, by congr 1; omega, by rw [← m2.out], by omega, by omega, HG, HZ⟩
    case round =>
      obtain ⟨p, q, rfl, rfl, hp, hq, HE, HW⟩ := hrel
      clear HG HZ ha0 ha hb0 hb hn o1 m1 m2
      by_cases h0 : 0 < q
      · have j1 : (0 : Int) < (q : Int) := by omega
        have j2 : ¬ (q : Int) = 0 := by omega
        have j0 : ((q : Int) != 0) = true := by simp; omega
        have j3 : p % q < q := Nat.mod_lt _ h0
        have j6 : ((p : Int)).tmod (q : Int) = (p : Int) % (q : Int) := Int.tmod_eq_emod_of_nonneg (by omega)
        have j4 := Int.emod_lt_of_pos (p : Int) j1
        have j5 := Int.emod_nonneg (p : Int) j2
        have o2 : IntKind.i64.wrap ((p : Int) % (q : Int)) = (p : Int) % (q : Int) := wrap_in (by omega) (by omega)
        have HE2 := Lib.hid (show ((Nat.gcd q (p % q) : Nat) : Int) = g by rw [← HE.out, Nat.gcd_comm q, ← Nat.gcd_rec, Nat.gcd_comm])
        have HW2 := Lib.hid (fun n => show Below w.heap.size w (wr.drewN n) from ⟨HW.out.os, HW.out.tape, HW.out.output, HW.out.size, HW.out.block⟩)
        clear HE HW
        go_upto_region 3 with fail
        go_quiet (fail)
        go_wp2
        go_roundw
        case rel => exact ⟨q, p % q, rfl, by rw [Int.natCast_emod], hq, by omega, HE2, Lib.hid (HW2.out _)⟩
        case measure => simp [intOf]; omega
      · obtain rfl : q = 0 := by omega
        have HF := Lib.hid (show (p : Int) = g by rw [← HE.out, Nat.gcd_zero_right])
        go_wp2
        go_ret
        exact ⟨ret_int (by rw [HF.out]), HW.out⟩
set_option maxHeartbeats 4000000 in
theorem addM (b : Nat) (n x y p q s t : Int) (w : World) (h : Sms w b n x y p q) (hp : okPair (s, t)) (hn : 0 ≤ n ∧ n ≤ 20) (hx : -20000 ≤ x ∧ x ≤ 20000) (hy : -20000 ≤ y ∧ y ≤ 20000) (hxx : -20000000 ≤ p ∧ p ≤ 20000000) (hxy : -20000000 ≤ q ∧ q ≤ 20000000) :
    Calls Try.prog 52 #[.pointer (some ⟨b, 0, none⟩), pt s t] w fun e w' => e = .returned (.tuple #[]) ∧ Sms w' b (n + 1) (x + s) (y + t) (p + s * s) (q + s * t) ∧ Below b w w' := by
  obtain ⟨⟨h1, h2⟩, h3, h4⟩ := hp
  simp only at h1 h2 h3 h4
  have b1 := prod_bd (m := 1000) h1 h2 h1 h2
  have b2 := prod_bd (m := 1000) h1 h2 h3 h4
  obtain ⟨n', hn'⟩ : ∃ z, n + 1 = z := ⟨_, rfl⟩
  obtain ⟨x', hx'⟩ : ∃ z, x + s = z := ⟨_, rfl⟩
  obtain ⟨y', hy'⟩ : ∃ z, y + t = z := ⟨_, rfl⟩
  obtain ⟨m1, hm1⟩ : ∃ z, s * s = z := ⟨_, rfl⟩
  obtain ⟨m2, hm2⟩ : ∃ z, s * t = z := ⟨_, rfl⟩
  obtain ⟨p', hp'⟩ : ∃ z, p + m1 = z := ⟨_, rfl⟩
  obtain ⟨q', hq'⟩ : ∃ z, q + m2 = z := ⟨_, rfl⟩
  rw [hm1, hm2, hn', hx', hy', hp', hq']
  rw [hm1] at b1
  rw [hm2] at b2
  have o1 : IntKind.i64.wrap (n + 1) = n' := by rw [← hn']; exact wrap_in (by omega) (by omega)
  have o2 : IntKind.i64.wrap (x + s) = x' := by rw [← hx']; exact wrap_in (by omega) (by omega)
  have o3 : IntKind.i64.wrap (y + t) = y' := by rw [← hy']; exact wrap_in (by omega) (by omega)
  have o4 : IntKind.i64.wrap (s * s) = m1 := by rw [hm1]; exact wrap_in (by omega) (by omega)
  have o5 : IntKind.i64.wrap (s * t) = m2 := by rw [hm2]; exact wrap_in (by omega) (by omega)
  have o6 : IntKind.i64.wrap (p + m1) = p' := by rw [← hp']; exact wrap_in (by omega) (by omega)
  have o7 : IntKind.i64.wrap (q + m2) = q' := by rw [← hq']; exact wrap_in (by omega) (by omega)
  clear hn' hx' hy' hm1 hm2 hp' hq' b1 b2 h1 h2 h3 h4 hn hx hy hxx hxy
  have hlt := h.lt
  have hbw : b ≠ w.heap.size := by omega
  have S0a := h.next (below_box w (.cells #[.int .i64 s, .int .i64 t] 27))
  have S0 := S0a.put0 n'
  have P0 := (AtP.box w s t 27).far16 (c := b) (o := 0) hbw (.int .i64 n')
  have HB0 := Lib.hid (((below_box w (.cells #[.int .i64 s, .int .i64 t] 27)).mono (Nat.le_of_lt hlt)).setCell (p := ⟨b, 0, none⟩) (Nat.le_refl _) (.int .i64 n'))
  have HBW := Lib.hid hlt
  obtain ⟨_, c0, c1, c2, c3, c4, z0, z1, z2, z3, z4⟩ := S0a
  clear h hlt
  go_enter Try.func52, Try.ntmps52
  go_upto_region 2 with fail
  generalize (w.alloc (.cells #[.int .i64 s, .int .i64 t] 27)).setCell ⟨b, 0, none⟩ (.int .i64 n') = w0 at *
  clear c0 c1 c2 c3 c4 z0 z1 z2 z3 z4
  obtain ⟨e0, e1, e2, e3, e4⟩ := S0.kepts
  obtain ⟨f0, f1⟩ := P0.kepts
  refine wp_region_ktail 7 (by kernel_rfl) (by kernel_rfl) ?_
  simp only [List.take_succ_cons, List.take_zero, List.drop_succ_cons, List.drop_zero]
  repeat (go_big_quiet_step (fail))
  refine wpQuiet_nil ?_
  rintro v1 ⟨⟨_, K1⟩, rfl⟩
  have S1a := S0.next K1
  have S1 := S1a.put1 x'
  have P1 := (P0.next K1).far16 (c := b) (o := 1) (by omega) (.int .i64 x')
  have HB1 := Lib.hid ((HB0.out.trans (K1.mono (by have := HBW.out; have := HB0.out.size; omega))).setCell (p := ⟨b, 1, none⟩) (Nat.le_refl _) (.int .i64 x'))
  obtain ⟨_, c0, c1, c2, c3, c4, z0, z1, z2, z3, z4⟩ := S1a
  clear S0 P0 HB0 K1 e0 e1 e2 e3 e4 f0 f1
  go_upto_region 3 with fail
  generalize v1.setCell ⟨b, 1, none⟩ (.int .i64 x') = w1 at *
  clear c0 c1 c2 c3 c4 z0 z1 z2 z3 z4
  obtain ⟨e0, e1, e2, e3, e4⟩ := S1.kepts
  obtain ⟨f0, f1⟩ := P1.kepts
  refine wp_region_ktail 7 (by kernel_rfl) (by kernel_rfl) ?_
  simp only [List.take_succ_cons, List.take_zero, List.drop_succ_cons, List.drop_zero]
  repeat (go_big_quiet_step (fail))
  refine wpQuiet_nil ?_
  rintro v2 ⟨⟨_, K2⟩, rfl⟩
  have S2a := S1.next K2
  have S2 := S2a.put2 y'
  have P2 := (P1.next K2).far16 (c := b) (o := 2) (by omega) (.int .i64 y')
  have HB2 := Lib.hid ((HB1.out.trans (K2.mono (by have := HBW.out; have := HB1.out.size; omega))).setCell (p := ⟨b, 2, none⟩) (Nat.le_refl _) (.int .i64 y'))
  obtain ⟨_, c0, c1, c2, c3, c4, z0, z1, z2, z3, z4⟩ := S2a
  clear S1 P1 HB1 K2 e0 e1 e2 e3 e4 f0 f1
  go_upto_region 4 with fail
  generalize v2.setCell ⟨b, 2, none⟩ (.int .i64 y') = w2 at *
  clear c0 c1 c2 c3 c4 z0 z1 z2 z3 z4
  obtain ⟨e0, e1, e2, e3, e4⟩ := S2.kepts
  obtain ⟨f0, f1⟩ := P2.kepts
  refine wp_region_ktail 10 (by kernel_rfl) (by kernel_rfl) ?_
  simp only [List.take_succ_cons, List.take_zero, List.drop_succ_cons, List.drop_zero]
  repeat (go_big_quiet_step (fail))
  refine wpQuiet_nil ?_
  rintro v3 ⟨⟨_, K3⟩, rfl⟩
  have S3a := S2.next K3
  have S3 := S3a.put3 p'
  have P3 := (P2.next K3).far16 (c := b) (o := 3) (by omega) (.int .i64 p')
  have HB3 := Lib.hid ((HB2.out.trans (K3.mono (by have := HBW.out; have := HB2.out.size; omega))).setCell (p := ⟨b, 3, none⟩) (Nat.le_refl _) (.int .i64 p'))
  obtain ⟨_, c0, c1, c2, c3, c4, z0, z1, z2, z3, z4⟩ := S3a
  clear S2 P2 HB2 K3 e0 e1 e2 e3 e4 f0 f1
  go_upto_region 5 with fail
  generalize v3.setCell ⟨b, 3, none⟩ (.int .i64 p') = w3 at *
  clear c0 c1 c2 c3 c4 z0 z1 z2 z3 z4
  obtain ⟨e0, e1, e2, e3, e4⟩ := S3.kepts
  obtain ⟨f0, f1⟩ := P3.kepts
  refine wp_region_ktail 10 (by kernel_rfl) (by kernel_rfl) ?_
  simp only [List.take_succ_cons, List.take_zero, List.drop_succ_cons, List.drop_zero]
  repeat (go_big_quiet_step (fail))
  refine wpQuiet_nil ?_
  rintro v4 ⟨⟨_, K4⟩, rfl⟩
  have S4a := S3.next K4
  have S4 := S4a.put4 q'
  have P4 := (P3.next K4).far16 (c := b) (o := 4) (by omega) (.int .i64 q')
  have HB4 := Lib.hid ((HB3.out.trans (K4.mono (by have := HBW.out; have := HB3.out.size; omega))).setCell (p := ⟨b, 4, none⟩) (Nat.le_refl _) (.int .i64 q'))
  obtain ⟨_, c0, c1, c2, c3, c4, z0, z1, z2, z3, z4⟩ := S4a
  clear S3 P3 HB3 K4 e0 e1 e2 e3 e4 f0 f1
  go_wp2
  go_end0
  exact ⟨rfl, S4, HB4.out⟩
theorem rdivM (a b : Int) (w : World) (hb : 0 < b ∧ b ≤ 1000) (h1 : -1000000 ≤ a) (h2 : a ≤ 1000000) :
    Calls Try.prog 53 #[.int .i64 a, .int .i64 b] w fun e w' => e = .returned (.int .i64 (flo (2 * a + b) (2 * b))) ∧ w = w' := by
  have HD := Lib.hid (fun u => floorDivide (2 * a + b) (2 * b) u (by omega) (by omega) (by omega) (by omega))
  obtain ⟨c, hc⟩ : ∃ c, 2 * a + b = c := ⟨_, rfl⟩
  have o1 : IntKind.i64.wrap (2 * a) = 2 * a := wrap_in (by omega) (by omega)
  have o2 : IntKind.i64.wrap (2 * a + b) = c := by rw [hc]; exact wrap_in (by omega) (by omega)
  have o3 : IntKind.i64.wrap (2 * b) = 2 * b := wrap_in (by omega) (by omega)
  rw [hc] at HD ⊢
  clear hc hb h1 h2
  go_enter Try.func53, Try.ntmps53
  go_wp2_with fail
  refine (HD.out _).mono ?_
  rintro e w' ⟨rfl, rfl⟩
  go_wp2
  go_ret
  exact ⟨rfl, rfl⟩
set_option maxHeartbeats 4000000 in
theorem sumsOfM (a : Option Addr) (len cap : Nat) (L : List (Int × Int)) (w : World) (h : Prr.PtsIn w a len L) (h0 : okPairs L) :
    Calls Try.prog 39 #[.slice a len cap] w fun e w' => e = .returned (sms len (sx L) (sy L) (sxx L) (sxy L)) ∧ Below w.heap.size w w' := by
  have hlen := h0.1
  rw [← h.1] at hlen
  have HSB := Lib.hid (fun k => sums_small h0 k)
  have HT := Lib.hid (fun k (q : k < L.length) => sums_next q)
  have HOK := Lib.hid h0
  have HN := Lib.hid h.1
  have HA := Lib.hid h
  have R0 := (Sms.box w 0 0 0 0 0 49).next (below_box _ (.cells #[.int .i64 0, .int .i64 0, .int .i64 0, .int .i64 0, .int .i64 0] 49))
  have S0 := Sms.box (w.alloc (.cells #[.int .i64 0, .int .i64 0, .int .i64 0, .int .i64 0, .int .i64 0] 49)) 0 0 0 0 0 49
  rw [show (w.alloc (.cells #[.int .i64 0, .int .i64 0, .int .i64 0, .int .i64 0, .int .i64 0] 49)).heap.size = w.heap.size + 1 by simp] at S0
  have HB0 := Lib.hid (below_box2 w (.cells #[.int .i64 0, .int .i64 0, .int .i64 0, .int .i64 0, .int .i64 0] 49) (.cells #[.int .i64 0, .int .i64 0, .int .i64 0, .int .i64 0, .int .i64 0] 49))
  have HR0 := Lib.hid R0
  have HS0 := Lib.hid S0
  clear h h0 R0 S0
  go_enter Try.func39, Try.ntmps39
  go_wp2
  go_loopw [8] (fun iv wr => ∃ k : Nat, k ≤ len ∧ iv = .int .i64 (k : Int) ∧ Hid (Sms wr (w.heap.size + 1) (k : Int) (sx (L.take k)) (sy (L.take k)) (sxx (L.take k)) (sxy (L.take k))) ∧ Hid (Sms wr w.heap.size 0 0 0 0 0) ∧ Hid (Below w.heap.size w wr)) (fun iv _ => len - (intOf iv).toNat)
  case atStart => exact ⟨0, Nat.zero_le _, rfl, HS0, HR0, HB0⟩
  case round =>
    obtain ⟨k, hk, rfl, HS, HR, HW⟩ := hrel
    clear HS0 HR0 HB0
    by_cases hlt : k < len
    · obtain ⟨s1, s2, s3, s4⟩ := HSB.out k
      have HNX := Lib.hid (HT.out k (by rw [← HN.out]; exact hlt))
      obtain ⟨b, off, rfl, ltb, hc⟩ := (HA.out.nxt16 HW.out).some (by omega)
      obtain ⟨d0, d1⟩ := hc k hlt
      have j1 : (0 : Int) ≤ (k : Int) := by omega
      have j2 : (k : Int) < (len : Int) := by omega
      have hcx := okAt16 HOK.out (k := k) (by rw [← HN.out]; exact hlt)
      clear hc
      generalize L.getD k (0, 0) = c at *
      obtain ⟨x, y⟩ := c
      simp only at d0 d1 HNX
      have BX := below_box wr (.cells #[.int .i64 x, .int .i64 y] 27)
      have HBX := Lib.hid (below_call HW.out BX)
      have HRX := Lib.hid (HR.out.next BX)
      have HC := Lib.hid (addM (w.heap.size + 1) (k : Int) (sx (L.take k)) (sy (L.take k)) (sxx (L.take k)) (sxy (L.take k)) x y (wr.alloc (.cells #[.int .i64 x, .int .i64 y] 27)) (HS.out.next BX) hcx (by omega) s1 s2 s4 s3)
      rw [← HNX.out.1, ← HNX.out.2.1, ← HNX.out.2.2.1, ← HNX.out.2.2.2] at HC
      clear BX HS HR HW hcx s1 s2 s3 s4 HNX
      go_wp2_with fail
      refine HC.out.mono ?_
      rintro e w3 ⟨rfl, S3, B3⟩
      have HS3 := Lib.hid S3
      have HR3 := Lib.hid (HRX.out.keep B3 (Nat.lt_succ_self _))
      have HB3 := Lib.hid (HBX.out.trans (B3.mono (Nat.le_succ _)))
      clear S3 B3 HC HRX HBX d0 d1
      go_wp2
      go_roundw
      case rel => exact ⟨k + 1, by omega, by congr 1, HS3, HR3, HB3⟩
      case measure => simp [intOf]; omega
    · obtain rfl : k = len := by omega
      have hall : L.take k = L := by rw [HN.out, List.take_length]
      rw [hall] at HS
      obtain ⟨vx, hx⟩ : ∃ z, sx L = z := ⟨_, rfl⟩
      obtain ⟨vy, hy⟩ : ∃ z, sy L = z := ⟨_, rfl⟩
      obtain ⟨vp, hp⟩ : ∃ z, sxx L = z := ⟨_, rfl⟩
      obtain ⟨vq, hq⟩ : ∃ z, sxy L = z := ⟨_, rfl⟩
      rw [hx, hy, hp, hq] at HS
      have HV := Lib.hid (show sms (k : Int) vx vy vp vq = sms (k : Int) (sx L) (sy L) (sxx L) (sxy L) by rw [hx, hy, hp, hq])
      clear hx hy hp hq
      have HB := Lib.hid (((((HW.out.setCell (p := ⟨w.heap.size, 0, none⟩) (Nat.le_refl _) (.int .i64 (k : Int))).setCell (p := ⟨w.heap.size, 1, none⟩) (Nat.le_refl _) (.int .i64 vx)).setCell (p := ⟨w.heap.size, 2, none⟩) (Nat.le_refl _) (.int .i64 vy)).setCell (p := ⟨w.heap.size, 3, none⟩) (Nat.le_refl _) (.int .i64 vp)).setCell (p := ⟨w.heap.size, 4, none⟩) (Nat.le_refl _) (.int .i64 vq))
      have HU := Lib.hid (((((HR.out.put0 (k : Int)).put1 vx).put2 vy).put3 vp).put4 vq)
      obtain ⟨_, c0, c1, c2, c3, c4, _, _, _, _, _⟩ := HS.out
      obtain ⟨_, r0, r1, r2, r3, r4, z0, z1, z2, z3, z4⟩ := HR.out
      clear HS HR HW hall
      go_wp2
      exact bodyPost_ret (v := sms (k : Int) vx vy vp vq) (by simp [results, Try.results39, go_sem, r0, r1, r2, r3, r4]) rfl ⟨by rw [HV.out], HB.out⟩
theorem offsetM (n x y p q : Int) (w : World) (hn : 1 ≤ n ∧ n ≤ 20) (hx : -20000 ≤ x ∧ x ≤ 20000) (hy : -20000 ≤ y ∧ y ≤ 20000) :
    Calls Try.prog 40 #[sms n x y p q] w fun e w' => e = .returned (.int .i64 (flo (2 * (y - x) + n) (2 * n))) ∧ Below w.heap.size w w' := by
  have S0 := Sms.box w n x y p q 49
  have HB := Lib.hid (below_box w (.cells #[.int .i64 n, .int .i64 x, .int .i64 y, .int .i64 p, .int .i64 q] 49))
  have HD := Lib.hid (fun u => rdivM (y - x) n u (by omega) (by omega) (by omega))
  obtain ⟨d, hd⟩ : ∃ d, y - x = d := ⟨_, rfl⟩
  have o1 : IntKind.i64.wrap (y - x) = d := by rw [hd]; exact wrap_in (by omega) (by omega)
  rw [hd] at HD ⊢
  obtain ⟨_, c0, c1, c2, c3, c4, _, _, _, _, _⟩ := S0
  clear hd hn hx hy
  go_enter Try.func40, Try.ntmps40
  go_wp2_with fail
  refine (HD.out _).mono ?_
  rintro e w' ⟨rfl, rfl⟩
  go_wp2
  go_ret
  exact ⟨rfl, HB.out⟩
set_option maxHeartbeats 4000000 in
theorem slopeM (n x y p q : Int) (w : World) (hn : 1 ≤ n ∧ n ≤ 20) (hx : -20000 ≤ x ∧ x ≤ 20000) (hy : -20000 ≤ y ∧ y ≤ 20000) (hp : -20000000 ≤ p ∧ p ≤ 20000000) (hq : -20000000 ≤ q ∧ q ≤ 20000000) (hd : 0 ≤ n * p - x * x) (ra rb : Int)
    (hr : n * p - x * x ≠ 0 → ra = (n * q - x * y) / gcdI (n * q - x * y) (n * p - x * x) ∧ rb = (n * p - x * x) / gcdI (n * q - x * y) (n * p - x * x)) (hz : n * p - x * x = 0 → ra = 0 ∧ rb = 0) :
    Calls Try.prog 47 #[sms n x y p q] w fun e w' => e = .returned (.tuple #[.int .i64 ra, .int .i64 rb]) ∧ Below w.heap.size w w' := by
  have S0 := Sms.box w n x y p q 49
  have HB := Lib.hid (below_box w (.cells #[.int .i64 n, .int .i64 x, .int .i64 y, .int .i64 p, .int .i64 q] 49))
  have b1 := prod_bd (m := 20000) hx.1 hx.2 hy.1 hy.2
  have b2 := prod_bd (m := 20000) hx.1 hx.2 hx.1 hx.2
  have b3 : -400000000 ≤ n * q ∧ n * q ≤ 400000000 := by
    have x1 := Int.mul_le_mul_of_nonneg_left hq.2 (show 0 ≤ n by omega)
    have x2 := Int.mul_le_mul_of_nonneg_left hq.1 (show 0 ≤ n by omega)
    omega
  have b4 : -400000000 ≤ n * p ∧ n * p ≤ 400000000 := by
    have x1 := Int.mul_le_mul_of_nonneg_left hp.2 (show 0 ≤ n by omega)
    have x2 := Int.mul_le_mul_of_nonneg_left hp.1 (show 0 ≤ n by omega)
    omega
  obtain ⟨A, hA⟩ : ∃ A, n * q - x * y = A := ⟨_, rfl⟩
  obtain ⟨B, hB⟩ : ∃ B, n * p - x * x = B := ⟨_, rfl⟩
  have o1 : IntKind.i64.wrap (n * q) = n * q := wrap_in (by omega) (by omega)
  have o2 : IntKind.i64.wrap (x * y) = x * y := wrap_in (by omega) (by omega)
  have o3 : IntKind.i64.wrap (n * q - x * y) = A := by rw [hA]; exact wrap_in (by omega) (by omega)
  have o4 : IntKind.i64.wrap (n * p) = n * p := wrap_in (by omega) (by omega)
  have o5 : IntKind.i64.wrap (x * x) = x * x := wrap_in (by omega) (by omega)
  have o6 : IntKind.i64.wrap (n * p - x * x) = B := by rw [hB]; exact wrap_in (by omega) (by omega)
  have c1 : -800000000 ≤ A ∧ A ≤ 800000000 := by rw [← hA]; omega
  have c2 : B ≤ 800000000 := by rw [← hB]; omega
  rw [hA, hB] at hr
  rw [hB] at hz hd
  obtain ⟨_, s0, s1, s2, s3, s4, _, _, _, _, _⟩ := S0
  clear hA hB b1 b2 b3 b4 hn hx hy hp hq
  by_cases h0 : B = 0
  · obtain ⟨rfl, rfl⟩ := hz h0
    have e0 : (B == 0) = true := by rw [h0]; rfl
    clear hr hz hd c1 c2 h0
    go_enter Try.func47, Try.ntmps47
    go_wp2
    exact bodyPost_ret (v := .tuple #[.int .i64 0, .int .i64 0]) (by simp [results, Try.results47, go_sem]) rfl ⟨rfl, HB.out⟩
  have e0 : (B == 0) = false := by simp; exact h0
  obtain ⟨hra, hrb⟩ := hr h0
  have hg := gcdI_pos (a := A) h0
  obtain ⟨t1, t2⟩ := tdiv_low (a := A) (b := B)
  have HDV := Lib.hid (fun u => divisorM B A u hd (by omega) (by omega) (by omega))
  generalize gcdI A B = g at *
  have r1 := quo_small (a := A) hg (m := 800000000) c1.1 c1.2 (by omega)
  have r2 := quo_small (a := B) hg (m := 800000000) (by omega) c2 (by omega)
  rw [← hra] at t1 r1
  rw [← hrb] at t2 r2
  have q1 : IntKind.i64.wrap (A.tdiv g) = ra := by rw [t1]; exact wrap_in (by omega) (by omega)
  have q2 : IntKind.i64.wrap (B.tdiv g) = rb := by rw [t2]; exact wrap_in (by omega) (by omega)
  have g0 : g ≠ 0 := by omega
  clear t1 t2 r1 r2 hg hra hrb hr hz c1 c2 hd h0
  go_enter Try.func47, Try.ntmps47
  go_wp2_with fail
  refine (HDV.out _).mono ?_
  rintro e w2 ⟨rfl, B2⟩
  have HB2 := Lib.hid (below_call HB.out B2)
  clear B2 s0 s1 s2 s3 s4 HDV HB
  go_upto_region 6 with fail
  go_region_held3 (fun _ => True) (exact trivial) (fail)
  go_wp2
  exact bodyPost_ret (v := .tuple #[.int .i64 ra, .int .i64 rb]) (by simp [results, Try.results47, go_sem]) rfl ⟨rfl, HB2.out.drew⟩
end Go.Proofs.Ytppkipcgpmijpaa
