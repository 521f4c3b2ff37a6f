/- Contact: the program's functions. -/
import Derived.Test.YtdjihdnnjkbjbaaCs15
import Derived.Deep.LoopGhost
namespace Go.Proofs.Ytdjihdnnjkbjbaa
set_option maxRecDepth 100000
open Go.RowKit
attribute [local go_sem ↓] Go.wp_at_zero Go.wp_at_succ
theorem yes14 {P : Prop} [Decidable P] {F : Nat} {args : Array Value} {w : World} (c : Calls Try.prog F args w fun e w' => e = .returned (.bool (decide P)) ∧ Below w.heap.size w w') (h : P) : Calls Try.prog F args w fun e w' => e = .returned (.bool true) ∧ Below w.heap.size w w' := by rwa [decide_eq_true h] at c
theorem no14 {P : Prop} [Decidable P] {F : Nat} {args : Array Value} {w : World} (c : Calls Try.prog F args w fun e w' => e = .returned (.bool (decide P)) ∧ Below w.heap.size w w') (h : ¬ P) : Calls Try.prog F args w fun e w' => e = .returned (.bool false) ∧ Below w.heap.size w w' := by rwa [decide_eq_false h] at c
/-- A press as a value. -/
abbrev prs (q k f s : Int) : Value := .agg #[.int .i64 q, .int .i64 k, .int .i64 f, .int .i64 s]
/-- A press's box. -/
structure At4 (w : World) (b : Nat) (q k f s : Int) : Prop where
  lt : b < w.heap.size
  c0 : w.cell? ⟨b, 0, none⟩ = some (.int .i64 q)
  c1 : w.cell? ⟨b, 1, none⟩ = some (.int .i64 k)
  c2 : w.cell? ⟨b, 2, none⟩ = some (.int .i64 f)
  c3 : w.cell? ⟨b, 3, none⟩ = some (.int .i64 s)
theorem At4.box (w : World) (q k f s : Int) (T : TypeId) : At4 (w.alloc (.cells #[.int .i64 q, .int .i64 k, .int .i64 f, .int .i64 s] T)) w.heap.size q k f s := by
  refine ⟨by simp, ?_, ?_, ?_, ?_⟩ <;>
  (rw [World.cell?_alloc_at _ _ _ _ rfl]; rfl)
theorem At4.next {w w' : World} {b : Nat} {q k f s : Int} (h : At4 w b q k f s) (hb : Below w.heap.size w w') : At4 w' b q k f s :=
  ⟨Nat.lt_of_lt_of_le h.lt hb.size, (hb.cell (p := ⟨b, 0, none⟩) h.lt).trans h.c0, (hb.cell (p := ⟨b, 1, none⟩) h.lt).trans h.c1, (hb.cell (p := ⟨b, 2, none⟩) h.lt).trans h.c2, (hb.cell (p := ⟨b, 3, none⟩) h.lt).trans h.c3⟩
theorem At4.alloc {w : World} {b : Nat} {q k f s : Int} (h : At4 w b q k f s) (o : Obj) : At4 (w.alloc o) b q k f s := h.next (below_box w o)
theorem At4.row {w w' : World} {b : Nat} {q k f s : Int} {row : Option Nat} (h : At4 w b q k f s) (hg : w.grownBy w' row) (hne : some b ≠ row) : At4 w' b q k f s :=
  have e := hg.block b h.lt hne
  ⟨Nat.lt_of_lt_of_le h.lt hg.size, (World.cell?_of_block (a := ⟨b, 0, none⟩) e).trans h.c0, (World.cell?_of_block (a := ⟨b, 1, none⟩) e).trans h.c1, (World.cell?_of_block (a := ⟨b, 2, none⟩) e).trans h.c2, (World.cell?_of_block (a := ⟨b, 3, none⟩) e).trans h.c3⟩
theorem At4.kepts {w : World} {b : Nat} {q k f s : Int} (h : At4 w b q k f s) : (∀ n : Kept w, n.u.cell? ⟨b, 0, none⟩ = some (.int .i64 q)) ∧ (∀ n : Kept w, n.u.cell? ⟨b, 1, none⟩ = some (.int .i64 k)) ∧ (∀ n : Kept w, n.u.cell? ⟨b, 2, none⟩ = some (.int .i64 f)) ∧ (∀ n : Kept w, n.u.cell? ⟨b, 3, none⟩ = some (.int .i64 s)) :=
  ⟨keptCell h.lt h.c0, keptCell h.lt h.c1, keptCell h.lt h.c2, keptCell h.lt h.c3⟩
def okWl (q k : Int) : Prop := (-10000 ≤ q ∧ q ≤ 10000) ∧ 1 ≤ k ∧ k ≤ 100
instance (q k : Int) : Decidable (okWl q k) := by unfold okWl; infer_instance
def okPr (q k f s : Int) : Prop := okWl q k ∧ (1 ≤ f ∧ f ≤ 1000) ∧ 1 ≤ s ∧ s ≤ 200
instance (q k f s : Int) : Decidable (okPr q k f s) := by unfold okPr; infer_instance
/-- How far a search for the greatest number goes. -/
def bndN (p q k f s : Int) : Int := min s (max 1 ((f - frc p q k).tdiv k))
theorem bnd_bd {p q k f s : Int} (h : okPrs p q k f s) : 1 ≤ bndN p q k f s ∧ bndN p q k f s ≤ 200 := by
  have := h.2.2
  unfold bndN
  omega
theorem adv_le {p q k f s : Int} (h : okPrs p q k f s) (hf : frc p q k ≤ f) : advV p q k f s ≤ bndN p q k f s := by
  have hs := h.2.2
  have h0 := (left_div h.1.2.2.1 hf).1
  unfold advV reach15 bndN
  split <;> omega
/-- Ahead of the bound the next unit is too much. -/
theorem adv_top {p q k f s : Int} (h : okPrs p q k f s) (hf : frc p q k ≤ f) (ht : advV p q k f s < bndN p q k f s) : f < frc (p + (advV p q k f s + 1)) q k := by
  have hs := h.2.2
  have h0 := (left_div h.1.2.2.1 hf).1
  unfold advV reach15 bndN at *
  generalize (f - frc p q k).tdiv k = D at *
  by_cases hD : D = 0
  · subst hD
    have e : min s 0 = 0 := by omega
    rw [e] at ht ⊢
    by_cases c : frc (p + 1) q k ≤ f
    · rw [if_pos ⟨by omega, c⟩] at ht; omega
    · rw [if_neg (fun x => c x.2)]; rw [Int.zero_add]; omega
  · rw [if_neg (by omega)] at ht
    omega
/-- What a search asks: is one unit more too much? -/
theorem adv_ask {p q k f s : Int} (h : okPrs p q k f s) (hf : frc p q k ≤ f) (t : Nat) :
    ((t : Int) < advV p q k f s → decide (f < frc (p + (t : Int) + 1) q k) = false) ∧ (advV p q k f s ≤ (t : Int) → (t : Int) < bndN p q k f s → decide (f < frc (p + (t : Int) + 1) q k) = true) := by
  have hk := h.1.2.2.1
  constructor
  · intro h1
    have h2 := adv_fits h hf
    have h3 := frc_mono (p := p + (t : Int) + 1) (q := p + advV p q k f s) (w := q) hk (by omega)
    exact decide_eq_false (by omega)
  · intro h1 h2
    have h3 := adv_top h hf (by omega)
    have h4 := frc_mono (p := p + (advV p q k f s + 1)) (q := p + (t : Int) + 1) (w := q) hk (by omega)
    exact decide_eq_true (by omega)
theorem crdC (v : Int) (w : World) : Calls Try.prog 26 #[.int .i64 v] w fun e w' => e = .returned (.bool (decide (-10000 ≤ v ∧ v ≤ 10000))) ∧ w = w' := by
  by_cases h0 : -10000 ≤ v
  · have HE := Lib.hid (show decide (v ≤ 10000) = decide (-10000 ≤ v ∧ v ≤ 10000) by rw [Bool.eq_iff_iff]; simp [h0])
    go_enter Try.func26, Try.ntmps26
    go_wp2
    go_ret
    exact ⟨ret_bool HE.out, rfl⟩
  · have HE := Lib.hid (show false = decide (-10000 ≤ v ∧ v ≤ 10000) from (decide_eq_false (fun q => h0 q.1)).symm)
    have q1 : decide (-10000 ≤ v) = false := decide_eq_false h0
    generalize decide (-10000 ≤ v ∧ v ≤ 10000) = d at *
    go_enter Try.func26, Try.ntmps26
    go_wp2
    go_ret
    exact ⟨ret_bool HE.out, rfl⟩
theorem crdC_yes (v : Int) (w : World) (h : -10000 ≤ v ∧ v ≤ 10000) : Calls Try.prog 26 #[.int .i64 v] w fun e w' => e = .returned (.bool true) ∧ w = w' := by
  have := crdC v w
  rwa [decide_eq_true h] at this
theorem crdC_no (v : Int) (w : World) (h : ¬ (-10000 ≤ v ∧ v ≤ 10000)) : Calls Try.prog 26 #[.int .i64 v] w fun e w' => e = .returned (.bool false) ∧ w = w' := by
  have := crdC v w
  rwa [decide_eq_false h] at this
theorem stepsC (v : Int) (w : World) : Calls Try.prog 35 #[.int .i64 v] w fun e w' => e = .returned (.bool (decide (0 ≤ v ∧ v ≤ 400))) ∧ w = w' := by
  by_cases h0 : 0 ≤ v
  · have HE := Lib.hid (show decide (v ≤ 400) = decide (0 ≤ v ∧ v ≤ 400) by rw [Bool.eq_iff_iff]; simp [h0])
    go_enter Try.func35, Try.ntmps35
    go_wp2
    go_ret
    exact ⟨ret_bool HE.out, rfl⟩
  · have HE := Lib.hid (show false = decide (0 ≤ v ∧ v ≤ 400) from (decide_eq_false (fun q => h0 q.1)).symm)
    have q1 : decide (0 ≤ v) = false := decide_eq_false h0
    generalize decide (0 ≤ v ∧ v ≤ 400) = d at *
    go_enter Try.func35, Try.ntmps35
    go_wp2
    go_ret
    exact ⟨ret_bool HE.out, rfl⟩
theorem stepsC_yes (v : Int) (w : World) (h : 0 ≤ v ∧ v ≤ 400) : Calls Try.prog 35 #[.int .i64 v] w fun e w' => e = .returned (.bool true) ∧ w = w' := by
  have := stepsC v w
  rwa [decide_eq_true h] at this
theorem stepsC_no (v : Int) (w : World) (h : ¬ (0 ≤ v ∧ v ≤ 400)) : Calls Try.prog 35 #[.int .i64 v] w fun e w' => e = .returned (.bool false) ∧ w = w' := by
  have := stepsC v w
  rwa [decide_eq_false h] at this
theorem nearC (l n : Int) (w : World) (hl : 0 ≤ l ∧ l ≤ 10000) : Calls Try.prog 37 #[.int .i64 l, .int .i64 n] w fun e w' => e = .returned (.int .i64 (clp n (-l) l)) ∧ w = w' := by
  obtain ⟨m, hm⟩ : ∃ m, -l = m := ⟨_, rfl⟩
  obtain ⟨v, hv⟩ : ∃ v, clp n m l = v := ⟨_, rfl⟩
  have o1 : IntKind.i64.wrap (-l) = m := by rw [hm]; exact wrap_in (by omega) (by omega)
  rw [hm, hv]
  have HE := Lib.hid hv
  clear hv hm hl
  go_enter Try.func37, Try.ntmps37
  go_wp2
  all_goals
    go_ret
    exact ⟨ret_int (by rw [← HE.out]; unfold clp; omega), rfl⟩
set_option maxHeartbeats 1000000 in
theorem wallValidM (q k : Int) (w : World) : Calls Try.prog 25 #[pt q k] w fun e w' => e = .returned (.bool (decide (okWl q k))) ∧ Below w.heap.size w w' := by
  have HB := Lib.hid (below_box w (.cells #[.int .i64 q, .int .i64 k] 44))
  have HE : ∀ b, (b = true ↔ okWl q k) → b = decide (okWl q k) := fun b h => by rw [Bool.eq_iff_iff, h]; simp
  by_cases h0 : -10000 ≤ q ∧ q ≤ 10000
  rotate_left
  · have HV := Lib.hid (HE false ⟨(fun h => by cases h), fun h => absurd h.1 h0⟩)
    clear HE
    go_enter Try.func25, Try.ntmps25
    go_wp2_with fail
    refine (crdC_no q _ h0).mono ?_
    rintro e w' ⟨rfl, rfl⟩
    go_wp2
    go_ret
    exact ⟨ret_bool HV.out, HB.out⟩
  by_cases h1 : 1 ≤ k
  rotate_left
  · have HV := Lib.hid (HE false ⟨(fun h => by cases h), fun h => absurd h.2.1 h1⟩)
    have q1 : decide (1 ≤ k) = false := decide_eq_false h1
    clear HE
    generalize decide (okWl q k) = d at *
    go_enter Try.func25, Try.ntmps25
    go_wp2_with fail
    refine (crdC_yes q _ h0).mono ?_
    rintro e w' ⟨rfl, rfl⟩
    go_wp2
    go_ret
    exact ⟨ret_bool HV.out, HB.out⟩
  have HV := Lib.hid (HE (decide (k ≤ 100)) ⟨fun h => by have hh := of_decide_eq_true h; exact ⟨h0, h1, hh⟩, fun h => decide_eq_true h.2.2⟩)
  clear HE
  go_enter Try.func25, Try.ntmps25
  go_wp2_with fail
  refine (crdC_yes q _ h0).mono ?_
  rintro e w' ⟨rfl, rfl⟩
  go_wp2
  go_ret
  exact ⟨ret_bool HV.out, HB.out⟩
theorem wallForceM (q k p : Int) (w : World) (hk : 1 ≤ k ∧ k ≤ 100) (h1 : -20300 ≤ p - q) (h2 : p - q ≤ 20300) :
    Calls Try.prog 27 #[pt q k, .int .i64 p] w fun e w' => e = .returned (.int .i64 (frc p q k)) ∧ Below w.heap.size w w' := by
  have HB := Lib.hid (below_box w (.cells #[.int .i64 q, .int .i64 k] 44))
  have b1 := frc_pos (p := p) (w := q) hk.1
  have b2 := frc_bd hk h2
  obtain ⟨n, hn⟩ : ∃ n, frc p q k = n := ⟨_, rfl⟩
  rw [hn] at b1 b2 ⊢
  have o1 : IntKind.i64.wrap (p - q) = p - q := wrap_in (by omega) (by omega)
  obtain ⟨d, hd⟩ : ∃ d, p - q = d := ⟨_, rfl⟩
  unfold frc at hn
  rw [hd] at hn o1
  have o3 : IntKind.i64.wrap (p - q) = d := by rw [hd]; exact o1
  have o4 : IntKind.i64.wrap n = n := wrap_in (by omega) (by omega)
  obtain ⟨m, hm⟩ : ∃ m, max 0 d = m := ⟨_, rfl⟩
  rw [hm] at hn
  have o2 : IntKind.i64.wrap (k * m) = n := by rw [hn]; exact o4
  clear o1 hd h1 h2 hn hk b1 b2 o4
  rcases Int.lt_or_le 0 d with g | g
  · obtain rfl : m = d := by omega
    clear hm
    go_enter Try.func27, Try.ntmps27
    go_wp2
    go_ret
    exact ⟨rfl, HB.out⟩
  · obtain rfl : m = 0 := by omega
    have HO := Lib.hid (show (0 : Int) = n by rw [← o2, Int.mul_zero]; rfl)
    clear hm o2
    rcases Int.lt_or_eq_of_le g with g1 | g1
    · go_enter Try.func27, Try.ntmps27
      go_wp2
      go_ret
      exact ⟨ret_int HO.out, HB.out⟩
    · subst g1
      go_enter Try.func27, Try.ntmps27
      go_wp2
      go_ret
      exact ⟨ret_int HO.out, HB.out⟩
end Go.Proofs.Ytdjihdnnjkbjbaa
