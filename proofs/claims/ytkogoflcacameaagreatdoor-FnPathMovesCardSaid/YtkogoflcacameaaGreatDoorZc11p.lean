/- Several of my texts in one: Tf11, Bp11, Pv11, Sb11. -/
import Derived.Test.YtkogoflcacameaaGreatDoorZc11b
import Derived.Test.YtkogoflcacameaaGreatDoorZc11m
import Derived.Laws.BitsAllLaws
import Derived.Test.YtkogoflcacameaaGreatDoorCl7
import Derived.Deep.AppendLies
import Derived.OwnWalk
namespace Go.Proofs.YtkogoflcacameaaGreatDoor
set_option maxRecDepth 100000
open Go.RowKit
attribute [local go_sem ↓] Go.wp_at_zero Go.wp_at_succ
theorem freeXY {T : List (List Bool)} {x y : Int} : freeV T (x, y) = true ↔ (0 ≤ x ∧ x < (T.length : Int) ∧ 0 ≤ y ∧ y < ((rowB T x.toNat).length : Int) ∧ (rowB T x.toNat).getD y.toNat false = true) := freeV_iff
theorem freeXN {T : List (List Bool)} {x y : Int} (h : ¬ (0 ≤ x ∧ x < (T.length : Int) ∧ 0 ≤ y ∧ y < ((rowB T x.toNat).length : Int) ∧ (rowB T x.toNat).getD y.toNat false = true)) : false = freeV T (x, y) := by
  cases k : freeV T (x, y) with
  | false => rfl
  | true => exact absurd (freeXY.1 k) h
theorem freeXV {T : List (List Bool)} {n m : Nat} (h1 : n < T.length) (h2 : m < (rowB T n).length) : (rowB T n).getD m false = freeV T ((n : Int), (m : Int)) := by
  rw [Bool.eq_iff_iff, freeXY]
  simp only [Int.toNat_natCast]
  constructor
  · intro h; exact ⟨by omega, by omega, by omega, by omega, h⟩
  · intro h; exact h.2.2.2.2
set_option maxHeartbeats 2000000 in
theorem isFreeC (a : Option Addr) (len cap : Nat) (T : List (List Bool)) (x y : Int) (w : World) (h : Bol.RSA w a len T) (hl : len ≤ 9223372036854775807) :
    Calls Tryz.prog 25 #[.slice a len cap, pt x y] w fun e w' => e = .returned (.bool (freeV T (x, y))) ∧ Below w.heap.size w w' := by
  have HB := Lib.hid (below_box w (.cells #[.int .i64 x, .int .i64 y] 37))
  have P := AtP.box w x y 37
  have HR := Lib.hid (h.next HB.out)
  have HN := Lib.hid h.1
  clear h
  go_enter Tryz.func25, Tryz.ntmps25
  go_upto_region 1 with fail
  generalize w.alloc (.cells #[.int .i64 x, .int .i64 y] 37) = w0 at *
  obtain ⟨e0, e1⟩ := P.kepts
  by_cases h1 : 0 ≤ x
  rotate_left
  · have HV := Lib.hid (freeXN (T := T) (x := x) (y := y) (fun k => h1 k.1))
    have q1 : decide (0 ≤ x) = false := decide_eq_false h1
    clear h1
    refine wp_region_kept (by kernel_rfl) (by kernel_rfl) ?_
    repeat (go_big_quiet_step (fail))
    refine wpQuiet_nil ?_
    rintro w5 ⟨⟨_, K2⟩, rfl⟩
    have HK2 := Lib.hid K2
    clear K2 e0 e1
    go_wp2
    go_ret
    exact ⟨ret_bool HV.out, below_call HB.out HK2.out⟩
  obtain ⟨n, rfl⟩ : ∃ n : Nat, x = (n : Int) := ⟨x.toNat, by omega⟩
  by_cases h2 : n < len
  rotate_left
  · have HV := Lib.hid (freeXN (T := T) (x := (n : Int)) (y := y) (fun k => h2 (by have := k.2.1; have := HN.out; omega)))
    have q1 : (0 : Int) ≤ (n : Int) := by omega
    have q2 : decide (n < len) = false := decide_eq_false (by omega)
    clear h1 h2
    refine wp_region_kept (by kernel_rfl) (by kernel_rfl) ?_
    repeat (go_big_quiet_step (fail))
    refine wpQuiet_nil ?_
    rintro w5 ⟨⟨_, K2⟩, rfl⟩
    have HK2 := Lib.hid K2
    clear K2 e0 e1
    go_wp2
    go_ret
    exact ⟨ret_bool HV.out, below_call HB.out HK2.out⟩
  obtain ⟨b, rfl, ltb, hc⟩ := HR.out.some (by omega)
  obtain ⟨⟨sa, sl, sc⟩, d1, I1, I2⟩ := hc n h2
  unfold Bol.slQ at d1
  simp only at d1 I1 I2
  have u1 := keptCell ltb d1
  have HSL := Lib.hid I1.1
  have HRB := Lib.hid (show rowB T n = T.getD n [] from rfl)
  clear hc d1
  have q1 : (0 : Int) ≤ (n : Int) := by omega
  have q2 : (n : Int) < (len : Int) := by omega
  have q6 : n < len := h2
  by_cases h3 : 0 ≤ y
  rotate_left
  · have HV := Lib.hid (freeXN (T := T) (x := (n : Int)) (y := y) (fun k => h3 k.2.2.1))
    have q3 : decide (0 ≤ y) = false := decide_eq_false h3
    clear h1 h2 h3 I1 I2
    refine wp_region_kept (by kernel_rfl) (by kernel_rfl) ?_
    repeat (go_big_quiet_step (fail))
    refine wpQuiet_nil ?_
    rintro w5 ⟨⟨_, K2⟩, rfl⟩
    have HK2 := Lib.hid K2
    clear K2 e0 e1 u1
    go_wp2
    go_ret
    exact ⟨ret_bool HV.out, below_call HB.out HK2.out⟩
  obtain ⟨m, rfl⟩ : ∃ m : Nat, y = (m : Int) := ⟨y.toNat, by omega⟩
  by_cases h4 : m < sl
  rotate_left
  · have HV := Lib.hid (freeXN (T := T) (x := (n : Int)) (y := (m : Int)) (fun k => h4 (by have := k.2.2.2.1; rw [Int.toNat_natCast, HRB.out] at this; have := HSL.out; omega)))
    have q3 : (0 : Int) ≤ (m : Int) := by omega
    have q4 : decide (m < sl) = false := decide_eq_false (by omega)
    clear h1 h2 h3 h4 I1 I2
    refine wp_region_kept (by kernel_rfl) (by kernel_rfl) ?_
    repeat (go_big_quiet_step (fail))
    refine wpQuiet_nil ?_
    rintro w5 ⟨⟨_, K2⟩, rfl⟩
    have HK2 := Lib.hid K2
    clear K2 e0 e1 u1
    go_wp2
    go_ret
    exact ⟨ret_bool HV.out, below_call HB.out HK2.out⟩
  obtain ⟨b2, o2, rfl, lt2, c2⟩ := I1.some (by omega)
  have u2 := keptCell (b := b2) (o := o2 + m) lt2 (c2 m h4)
  have HV := Lib.hid (freeXV (T := T) (n := n) (m := m) (by have := HN.out; omega) (by rw [HRB.out]; have := HSL.out; omega))
  rw [HRB.out] at HV
  have q3 : (0 : Int) ≤ (m : Int) := by omega
  have q4 : (m : Int) < (sl : Int) := by omega
  have q5 : m < sl := h4
  generalize (T.getD n []).getD m false = v at *
  clear c2
  clear h1 h2 h3 h4 I1 I2
  refine wp_region_kept (by kernel_rfl) (by kernel_rfl) ?_
  repeat (go_big_quiet_step (fail))
  refine wpQuiet_nil ?_
  rintro w5 ⟨⟨_, K2⟩, rfl⟩
  have HK2 := Lib.hid K2
  clear K2 e0 e1 u1 u2
  go_wp2
  go_ret
  exact ⟨ret_bool HV.out, below_call HB.out HK2.out⟩
set_option maxHeartbeats 2000000 in
theorem tableValid (a : Option Addr) (len cap : Nat) (T : List (List Bool)) (w : World) (h : Bol.RSA w a len T) (hl : len ≤ 9223372036854775807) :
    Calls Tryz.prog 24 #[.slice a len cap] w fun e w' => e = .returned (.bool (decide (squV T))) ∧ Below w.heap.size w w' := by
  have HN := Lib.hid h.1
  have HR := Lib.hid h
  clear h
  by_cases h20 : len ≤ 20
  rotate_left
  · have HV := Lib.hid (show false = decide (squV T) from (decide_eq_false (fun q => h20 (by have := q.1; have := HN.out; omega))).symm)
    have q2 : (20 : Int) < (len : Int) := by omega
    clear h20
    go_enter Tryz.func24, Tryz.ntmps24
    go_wp2
    go_ret
    exact ⟨ret_bool HV.out, Below.refl _ _⟩
  have q20 : ¬ ((20 : Int) < (len : Int)) := by omega
  go_enter Tryz.func24, Tryz.ntmps24
  go_wp2
  go_loopw [10] (fun i wr => ∃ k : Nat, k ≤ len ∧ i = .int .i64 (k : Int) ∧ Hid (∀ j, j < k → (rowB T j).length = (rowB T 0).length ∧ (rowB T j).length ≤ 20) ∧ Hid (Below w.heap.size w wr)) (fun i _ => len - (intOf i).toNat)
  case atStart => exact ⟨0, Nat.zero_le _, rfl, Lib.hid (fun j hj => by omega), Lib.hid (Below.refl _ _)⟩
  case round =>
    obtain ⟨k, hk, rfl, HJ, HW⟩ := hrel
    by_cases hlt : k < len
    · obtain ⟨b, rfl, ltb, hc⟩ := (HR.out.next HW.out).some (by omega)
      obtain ⟨⟨sa, sl, sc⟩, d1, I1, I2⟩ := hc k hlt
      obtain ⟨⟨ta, tl, tc⟩, d2, J1, J2⟩ := hc 0 (by omega)
      unfold Bol.slQ at d1 d2
      simp only at d1 d2 I1 I2 J1 J2
      have HL1 := Lib.hid (show sl = (rowB T k).length from I1.1)
      have HL2 := Lib.hid (show tl = (rowB T 0).length from J1.1)
      have j1 : (0 : Int) ≤ (k : Int) := by omega
      have j2 : (k : Int) < (len : Int) := by omega
      have j3 : (0 : Int) < (len : Int) := by omega
      clear hc I1 J1
      by_cases h2 : sl ≤ 20
      · have q2 : ¬ ((20 : Int) < (sl : Int)) := by omega
        by_cases h1 : sl = tl
        · have q1 : ((sl : Int) != (tl : Int)) = false := by simp [h1]
          have HJ2 : Hid (∀ j, j < k + 1 → (rowB T j).length = (rowB T 0).length ∧ (rowB T j).length ≤ 20) := Lib.hid fun j hj => by
            by_cases e : j = k
            · subst e; rw [← HL1.out, ← HL2.out]; exact ⟨h1, h2⟩
            · exact HJ.out j (by omega)
          replace h1 := Lib.hid h1
          clear h2
          go_wp2
          go_roundw
          case rel => exact ⟨k + 1, by omega, by congr 1, HJ2, HW⟩
          case measure => simp [intOf]; omega
        · have q1 : ((sl : Int) != (tl : Int)) = true := by simp; omega
          have HV := Lib.hid (show false = decide (squV T) from (decide_eq_false (fun q => h1 (by rw [HL1.out, HL2.out]; exact (q.2 k (by have := HN.out; omega)).1))).symm)
          replace h1 := Lib.hid h1
          clear h2
          go_wp2
          go_ret
          exact ⟨ret_bool HV.out, HW.out⟩
      · have q2 : (20 : Int) < (sl : Int) := by omega
        have HV := Lib.hid (show false = decide (squV T) from (decide_eq_false (fun q => h2 (by rw [HL1.out]; exact (q.2 k (by have := HN.out; omega)).2))).symm)
        clear h2
        go_wp2
        go_ret
        exact ⟨ret_bool HV.out, HW.out⟩
    · obtain rfl : k = len := by omega
      have j2 : ¬ ((k : Int) < (k : Int)) := by omega
      have HV := Lib.hid (show true = decide (squV T) from (decide_eq_true (p := squV T) ⟨by have := HN.out; omega, fun j hj => HJ.out j (by have := HN.out; omega)⟩).symm)
      go_wp2
      go_ret
      exact ⟨ret_bool HV.out, HW.out⟩
end Go.Proofs.YtkogoflcacameaaGreatDoor
namespace Go.Proofs.YtkogoflcacameaaGreatDoor
set_option maxRecDepth 100000
theorem bk_one (s : Qu) (f k : Nat) (out : List C2) : bkL s (f + 1) (k : Int) out = bkL s f (qb s k) (qc s k :: out) := by
  show (if (k : Int) < 0 then out else bkL s f (qb s (k : Int).toNat) (qc s (k : Int).toNat :: out)) = _
  rw [if_neg (by omega), Int.toNat_natCast]
theorem bk_end (s : Qu) (f : Nat) (out : List C2) : bkL s f (-1) out = out := by
  cases f with
  | zero => rfl
  | succ f => rfl
theorem bk_fuel {fr : C2 → Bool} {a : C2} {s : Qu} {K : Nat} {d : Nat → Nat} (h : QI fr a s K d) : ∀ (k : Nat), k < s.length → ∀ f g out, k < f → k < g → bkL s f (k : Int) out = bkL s g (k : Int) out := by
  intro k
  induction k using Nat.strongRecOn with
  | _ k ih =>
    intro hk f g out hf hg
    obtain ⟨f, rfl⟩ : ∃ f', f = f' + 1 := ⟨f - 1, by omega⟩
    obtain ⟨g, rfl⟩ : ∃ g', g = g' + 1 := ⟨g - 1, by omega⟩
    rw [bk_one, bk_one]
    by_cases h0 : k = 0
    · subst h0
      rw [h.root.2.2.1, bk_end, bk_end]
    · obtain ⟨p, p1, p2, _⟩ := h.par k (by omega) hk
      rw [p1]
      exact ih p p2 (by omega) f g _ (by omega) (by omega)
theorem bk_prefix {fr : C2 → Bool} {a : C2} {s : Qu} {K : Nat} {d : Nat → Nat} (h : QI fr a s K d) (t : Qu) : ∀ (k : Nat), k < s.length → ∀ f out, bkL (s ++ t) f (k : Int) out = bkL s f (k : Int) out := by
  intro k
  induction k using Nat.strongRecOn with
  | _ k ih =>
    intro hk f out
    cases f with
    | zero => rfl
    | succ f =>
      have e1 : qc (s ++ t) k = qc s k := by unfold qc; rw [getD_app_left _ _ _ hk]
      have e2 : qb (s ++ t) k = qb s k := by unfold qb; rw [getD_app_left _ _ _ hk]
      rw [bk_one, bk_one, e1, e2]
      by_cases h0 : k = 0
      · subst h0
        rw [h.root.2.2.1, bk_end, bk_end]
      · obtain ⟨p, p1, p2, _⟩ := h.par k (by omega) hk
        rw [p1]
        exact ih p p2 (by omega) f _
theorem bfs_found {fr : C2 → Bool} {a b : C2} : ∀ (n f : Nat) (s : Qu) (k i : Nat) (d : Nat → Nat), QI fr a s k d → k + n = i → i < s.length → qc s i = b → n < f → bfs fr b f s k = bkL s (i + 1) (i : Int) []
  | _, 0, _, _, _, _, _, _, _, _, hf => absurd hf (by omega)
  | 0, f + 1, s, k, i, d, h, hi, hl, hb, hf => by
    obtain rfl : k = i := by omega
    show (if k < s.length then _ else _) = _
    rw [if_pos hl, if_pos hb]
  | n + 1, f + 1, s, k, i, d, h, hi, hl, hb, hf => by
    have hk : k < s.length := by omega
    have hne : qc s k ≠ b := fun q => by
      have := h.dist k i hk hl (by rw [q, hb])
      omega
    show (if k < s.length then _ else _) = _
    rw [if_pos hk, if_neg hne]
    obtain ⟨d', h', t, e⟩ := h.step hk
    have hl' : i < (expd fr s k).length := by rw [e, List.length_append]; omega
    have hb' : qc (expd fr s k) i = b := by rw [e]; unfold qc; rw [getD_app_left _ _ _ hl]; exact hb
    rw [bfs_found n f _ (k + 1) i d' h' (by omega) hl' hb' (by omega), e]
    exact bk_prefix h t i hl _ _
/-- Where a search stands: k cells have been looked at, none of them the end. -/
def At11 (T : List (List Bool)) (a b : C2) (s : Qu) (k : Nat) : Prop := squV T ∧ freeV T a = true ∧ freeV T b = true ∧ ∃ d, QI (freeV T) a s k d ∧ (∀ i, i < k → i < s.length → qc s i ≠ b) ∧ k ≤ s.length ∧ bfs (freeV T) b (401 - k) s k = planV T a b
section
variable {T : List (List Bool)} {a b : C2} {s : Qu} {k : Nat}
theorem At11.start (h : squV T ∧ freeV T a = true ∧ freeV T b = true) : At11 T a b [(a, -1)] 0 :=
  ⟨h.1, h.2.1, h.2.2, _, QI.start h.2.1, fun i hi => by omega, by simp, (if_pos h : planV T a b = _).symm⟩
theorem At11.len (h : At11 T a b s k) : s.length ≤ 400 := by
  obtain ⟨hs, _, _, d, q, _⟩ := h
  exact q.small hs
theorem At11.step (h : At11 T a b s k) (hk : k < s.length) (hb : qc s k ≠ b) : At11 T a b (expd (freeV T) s k) (k + 1) := by
  have hl := h.len
  obtain ⟨hs, ha, hbb, d, q, q1, q2, q3⟩ := h
  obtain ⟨d', h', t, e⟩ := q.step hk
  have hlen : s.length ≤ (expd (freeV T) s k).length := by rw [e, List.length_append]; omega
  refine ⟨hs, ha, hbb, d', h', fun i hi hi2 => ?_, by omega, ?_⟩
  · have his : i < s.length := by omega
    have : qc (expd (freeV T) s k) i = qc s i := by rw [e]; unfold qc; rw [getD_app_left _ _ _ his]
    rw [this]
    by_cases hik : i < k
    · exact q1 i hik his
    · obtain rfl : i = k := by omega
      exact hb
  · rw [← q3, show 401 - k = (401 - (k + 1)) + 1 by omega]
    show _ = (if k < s.length then _ else _)
    rw [if_pos hk, if_neg hb]
theorem At11.none (h : At11 T a b s k) (hk : s.length ≤ k) : planV T a b = [] := by
  have hl := h.len
  obtain ⟨hs, ha, hbb, d, q, q1, q2, q3⟩ := h
  rw [← q3, show 401 - k = (400 - k) + 1 by omega]
  show (if k < s.length then _ else _) = _
  rw [if_neg (by omega)]
theorem At11.found (h : At11 T a b s k) {i : Nat} (hi : i < s.length) (hb : qc s i = b) : planV T a b = bkL s (i + 1) (i : Int) [] := by
  have hl := h.len
  obtain ⟨hs, ha, hbb, d, q, q1, q2, q3⟩ := h
  have hik : k ≤ i := by
    rcases Nat.lt_or_ge i k with c | c
    · exact absurd hb (q1 i c hi)
    · exact c
  rw [← q3]
  exact bfs_found (i - k) (401 - k) s k i d q (by omega) hi hb (by omega)
theorem At11.small (h : At11 T a b s k) : ∀ i, i < s.length → 0 ≤ (qc s i).1 ∧ (qc s i).1 < 20 ∧ 0 ≤ (qc s i).2 ∧ (qc s i).2 < 20 := fun i hi => by
  obtain ⟨hs, ha, hbb, d, q, _⟩ := h
  exact freeV_small hs (q.free i hi)
theorem At11.par (h : At11 T a b s k) : ∀ i, i < s.length → (qb s i).toNat < s.length := fun i hi => by
  obtain ⟨hs, ha, hbb, d, q, _⟩ := h
  by_cases h0 : i = 0
  · subst h0; rw [q.root.2.2.1]; exact hi
  · obtain ⟨p, p1, p2, _⟩ := q.par i (by omega) hi
    rw [p1]; omega
theorem At11.has0 (h : At11 T a b s k) : 0 < s.length ∧ qc s 0 = a := by
  obtain ⟨hs, ha, hbb, d, q, _⟩ := h
  exact ⟨q.root.1, q.root.2.1⟩
end
/-- The cell from which the one at i was visited. -/
def befV (s : Qu) (i : Nat) : C2 := if qb s i < 0 then qc s i else qc s (qb s i).toNat
/-- The way back, from i down to j, the cells as they are appended. -/
def Way (s : Qu) (i j : Nat) (L : List C2) : Prop := ∃ M, L = M ++ [qc s j] ∧ bkL s (i + 1) (i : Int) [] = bkL s (j + 1) (j : Int) M.reverse
theorem Way.start (s : Qu) (i : Nat) : Way s i i [qc s i] := ⟨[], rfl, rfl⟩
section
variable {T : List (List Bool)} {a b : C2} {s : Qu} {k i j : Nat} {L : List C2}
theorem At11.back (h : At11 T a b s k) (hw : Way s i j L) (hj : j < s.length) (hne : qc s j ≠ a) : ∃ p, p < j ∧ befV s j = qc s p ∧ Way s i p (L ++ [qc s p]) := by
  obtain ⟨hs, ha, hbb, d, q, _⟩ := h
  have h0 : 0 < j := by
    rcases Nat.eq_zero_or_pos j with c | c
    · subst c; exact absurd q.root.2.1 hne
    · exact c
  obtain ⟨p, p1, p2, _⟩ := q.par j h0 hj
  refine ⟨p, p2, ?_, ?_⟩
  · unfold befV; rw [p1, if_neg (by omega), Int.toNat_natCast]
  · obtain ⟨M, e, hM⟩ := hw
    refine ⟨L, rfl, ?_⟩
    rw [hM, bk_one, p1, e, List.reverse_append]
    exact bk_fuel q p (by omega) _ _ _ p2 (by omega)
theorem At11.back0 (h : At11 T a b s k) (hw : Way s i j L) (hj : j < s.length) (he : qc s j = a) : bkL s (i + 1) (i : Int) [] = L.reverse := by
  obtain ⟨hs, ha, hbb, d, q, _⟩ := h
  obtain rfl : j = 0 := q.dist j 0 hj q.root.1 (by rw [he, q.root.2.1])
  obtain ⟨M, e, hM⟩ := hw
  rw [hM, bk_one, q.root.2.2.1, bk_end, e, List.reverse_append]
  rfl
theorem Way.len (hw : Way s i j L) : 0 < L.length := by obtain ⟨M, e, _⟩ := hw; rw [e]; simp
end
/-- A cell's number. -/
def cno (c : C2) : Nat := c.1.toNat * 20 + c.2.toNat
def smC (c : C2) : Prop := 0 ≤ c.1 ∧ c.1 < 20 ∧ 0 ≤ c.2 ∧ c.2 < 20
theorem cno_lt {c : C2} (h : smC c) : cno c < 400 := by unfold cno; unfold smC at h; omega
theorem cno_inj {c d : C2} (h : smC c) (k : smC d) (e : cno c = cno d) : c = d := by
  unfold cno at e; unfold smC at h k
  exact Prod.ext (by omega) (by omega)
/-- The seven words say which cells the queue has. -/
def Bits11 (V : Nat → Nat) (s : Qu) : Prop := (∀ q, q < 7 → V q < 18446744073709551616) ∧ ∀ k, k < 400 → ((V (k / 64)).testBit (k % 64) = true ↔ ∃ i, i < s.length ∧ cno (qc s i) = k)
theorem Bits11.nil : Bits11 (fun _ => 0) [] := ⟨fun _ _ => by show 0 < 18446744073709551616; omega, fun k _ => by simp⟩
theorem Bits11.has {V : Nat → Nat} {s : Qu} {c : C2} (h : Bits11 V s) (hs : ∀ i, i < s.length → smC (qc s i)) (hc : smC c) : (V (cno c / 64)).testBit (cno c % 64) = decide (Has s c) := by
  rw [Bool.eq_iff_iff, h.2 _ (cno_lt hc), decide_eq_true_iff]
  exact ⟨fun ⟨i, h1, h2⟩ => ⟨i, h1, cno_inj (hs i h1) hc h2⟩, fun ⟨i, h1, h2⟩ => ⟨i, h1, by rw [h2]⟩⟩
/-- One bit is set. -/
def setB (V : Nat → Nat) (n : Nat) : Nat → Nat := fun q => if q = n / 64 then V q ||| 2 ^ (n % 64) else V q
theorem Bits11.add {V : Nat → Nat} {s : Qu} {c : C2} (h : Bits11 V s) (p : Int) : Bits11 (setB V (cno c)) (s ++ [(c, p)]) := by
  refine ⟨fun q hq => ?_, fun k hk => ?_⟩
  · unfold setB
    split
    · exact Nat.or_lt_two_pow (n := 64) (h.1 q hq) (Nat.pow_lt_pow_right (by omega) (Nat.mod_lt _ (by omega)))
    · exact h.1 q hq
  · have key : (∃ i, i < (s ++ [(c, p)]).length ∧ cno (qc (s ++ [(c, p)]) i) = k) ↔ ((∃ i, i < s.length ∧ cno (qc s i) = k) ∨ cno c = k) := by
      constructor
      · rintro ⟨i, h1, h2⟩
        by_cases hi : i < s.length
        · rw [qc_app hi] at h2; exact .inl ⟨i, hi, h2⟩
        · obtain rfl : i = s.length := by simp at h1; omega
          rw [qc_last] at h2; exact .inr h2
      · rintro (⟨i, h1, h2⟩ | h2)
        · exact ⟨i, by simp; omega, by rw [qc_app h1]; exact h2⟩
        · exact ⟨s.length, by simp, by rw [qc_last]; exact h2⟩
    rw [key, ← h.2 k hk]
    unfold setB
    split
    · rename_i e
      rw [Nat.testBit_or, Nat.testBit_two_pow, Bool.or_eq_true, decide_eq_true_iff]
      constructor
      · rintro (q | q)
        · exact .inl q
        · exact .inr (by omega)
      · rintro (q | q)
        · exact .inl q
        · exact .inr (by omega)
    · rename_i e
      constructor
      · exact fun q => .inl q
      · rintro (q | q)
        · exact q
        · exact absurd (by rw [q]) e
theorem and_bit (v n : Nat) : (((v &&& 2 ^ n : Nat) : Int) != 0) = v.testBit n := by
  have e : (v &&& 2 ^ n).testBit n = v.testBit n := by rw [Nat.testBit_and, Nat.testBit_two_pow]; simp
  cases h : v.testBit n with
  | true =>
    rw [h] at e
    have : v &&& 2 ^ n ≠ 0 := fun q => by rw [q, Nat.zero_testBit] at e; cases e
    simp; omega
  | false =>
    have : v &&& 2 ^ n = 0 := by
      apply Nat.eq_of_testBit_eq
      intro i
      rw [Nat.testBit_and, Nat.testBit_two_pow, Nat.zero_testBit]
      by_cases k : n = i
      · subst k; rw [h]; rfl
      · simp [k]
    rw [this]; rfl
/-- One neighbour more. -/
def exps (fr : C2 → Bool) (s : Qu) (k j : Nat) : Qu := ((nbs (qc s k)).take j).foldl (vis fr k) s
theorem exps_zero (fr : C2 → Bool) (s : Qu) (k : Nat) : exps fr s k 0 = s := rfl
theorem exps_four (fr : C2 → Bool) (s : Qu) (k : Nat) : exps fr s k 4 = expd fr s k := rfl
theorem exps_succ (fr : C2 → Bool) (s : Qu) (k : Nat) {j : Nat} (h : j < 4) : exps fr s k (j + 1) = vis fr k (exps fr s k j) ((nbs (qc s k)).getD j (0, 0)) := by
  have e : (nbs (qc s k)).length = 4 := rfl
  unfold exps
  rw [List.take_succ_eq_append_getElem (by rw [e]; exact h), List.foldl_append, List.getD_eq_getElem?_getD, List.getElem?_eq_getElem (by rw [e]; exact h)]
  rfl
theorem vis_app (fr : C2 → Bool) (k : Nat) (s : Qu) (n : C2) : ∃ t, vis fr k s n = s ++ t := by
  unfold vis
  split
  · exact ⟨[], by simp⟩
  · exact ⟨_, rfl⟩
theorem exps_app (fr : C2 → Bool) (s : Qu) (k : Nat) : ∀ j, ∃ t, exps fr s k j = s ++ t := by
  have key : ∀ (l : List C2) (s : Qu), ∃ t, l.foldl (vis fr k) s = s ++ t := by
    intro l
    induction l with
    | nil => exact fun s => ⟨[], by simp⟩
    | cons n l ih =>
      intro s
      obtain ⟨t1, e1⟩ := vis_app fr k s n
      obtain ⟨t2, e2⟩ := ih (vis fr k s n)
      exact ⟨t1 ++ t2, by rw [List.foldl_cons, e2, e1, List.append_assoc]⟩
  exact fun j => key _ s
end Go.Proofs.YtkogoflcacameaaGreatDoor
namespace Go.Proofs.YtkogoflcacameaaGreatDoor
set_option maxRecDepth 100000
open Go.RowKit
attribute [local go_sem ↓] Go.wp_at_zero Go.wp_at_succ
theorem Cel.PtsAt.next {w w' : World} {a : Option Addr} {len : Nat} {ps : List (Int × Int)} (h : Cel.PtsAt w a len ps) (hb : Below w.heap.size w w') : Cel.PtsAt w' a len ps :=
  ⟨h.1, h.2.imp id fun ⟨b, h1, h2, h3⟩ => ⟨b, h1, Nat.lt_of_lt_of_le h2 hb.size, fun i hi => ⟨(hb.cell (p := ⟨b, i * 2, none⟩) h2).trans (h3 i hi).1, (hb.cell (p := ⟨b, i * 2 + 1, none⟩) h2).trans (h3 i hi).2⟩⟩⟩
theorem eqT11 {a b : C2} (h : a = b) (u : World) : (if a.1 = b.1 then if a.2 = b.2 then Result.ok (Next.value (Value.bool true)) u else Result.ok (Next.value (Value.bool false)) u else Result.ok (Next.value (Value.bool false)) u) = Result.ok (Next.value (Value.bool true)) u := by
  rw [if_pos (by rw [h]), if_pos (by rw [h])]
theorem eqF11 {a b : C2} (h : a ≠ b) (u : World) : (if a.1 = b.1 then if a.2 = b.2 then Result.ok (Next.value (Value.bool true)) u else Result.ok (Next.value (Value.bool false)) u else Result.ok (Next.value (Value.bool false)) u) = Result.ok (Next.value (Value.bool false)) u := by
  by_cases h1 : a.1 = b.1
  · rw [if_pos h1, if_neg (fun h2 => h (Prod.ext h1 h2))]
  · rw [if_neg h1]
/-- A cell's neighbours as the value of an array. -/
abbrev nbv (x y : Int) : Value := .agg #[.int .i64 (x - 1), .int .i64 y, .int .i64 x, .int .i64 (y - 1), .int .i64 x, .int .i64 (y + 1), .int .i64 (x + 1), .int .i64 y]
set_option maxHeartbeats 2000000 in
theorem nbsC (x y : Int) (w : World) (h : smC (x, y)) :
    Calls Tryz.prog 49 #[pt x y] w fun e w' => e = .returned (nbv x y) ∧ Below w.heap.size w w' := by
  obtain ⟨h1, h2, h3, h4⟩ := h
  simp only at h1 h2 h3 h4
  have o1 : IntKind.i64.wrap (x - 1) = x - 1 := wrap_in (by omega) (by omega)
  have o2 : IntKind.i64.wrap (y - 1) = y - 1 := wrap_in (by omega) (by omega)
  have o3 : IntKind.i64.wrap (y + 1) = y + 1 := wrap_in (by omega) (by omega)
  have o4 : IntKind.i64.wrap (x + 1) = x + 1 := wrap_in (by omega) (by omega)
  have hne : w.heap.size ≤ w.heap.size + 1 := by omega
  have HB := Lib.hid (below_box2 w (.cells #[.int .i64 x, .int .i64 y] 37) (.cells #[.int .i64 (x - 1), .int .i64 y, .int .i64 x, .int .i64 (y - 1), .int .i64 x, .int .i64 (y + 1), .int .i64 (x + 1), .int .i64 y] 98))
  clear h1 h2 h3 h4
  go_enter Tryz.func49, Tryz.ntmps49
  go_wp2
  exact bodyPost_ret (v := nbv x y) (by simp [results, Tryz.results49, go_sem]) rfl ⟨rfl, HB.out⟩
end Go.Proofs.YtkogoflcacameaaGreatDoor
namespace Go.Proofs.YtkogoflcacameaaGreatDoor
set_option maxRecDepth 100000
open Go.RowKit
attribute [local go_sem ↓] Go.wp_at_zero Go.wp_at_succ
theorem Cel.pvals_snoc (ps : List (Int × Int)) (p : Int × Int) : Cel.pvals (ps ++ [p]) = Cel.pvals ps ++ [.int .i64 p.1, .int .i64 p.2] := by
  apply List.ext_getElem?
  intro j
  by_cases h : j < ps.length * 2
  · rw [List.getElem?_append_left (by rw [Cel.pvals_len]; exact h), Cel.pvals_at ps j h, Cel.pvals_at (ps ++ [p]) j (by simp only [List.length_append, List.length_singleton]; omega)]
    unfold Cel.cz
    rw [List.getD_eq_getElem?_getD, List.getD_eq_getElem?_getD, List.getElem?_append_left (by omega)]
  · by_cases h0 : j = ps.length * 2
    · subst h0
      rw [List.getElem?_append_right (by rw [Cel.pvals_len]; omega), Cel.pvals_len, Cel.pvals_at (ps ++ [p]) _ (by simp only [List.length_append, List.length_singleton]; omega), Cel.cz0, List.getD_eq_getElem?_getD, List.getElem?_append_right (by omega)]
      simp
    · by_cases h1 : j = ps.length * 2 + 1
      · subst h1
        rw [List.getElem?_append_right (by rw [Cel.pvals_len]; omega), Cel.pvals_len, Cel.pvals_at (ps ++ [p]) _ (by simp only [List.length_append, List.length_singleton]; omega), Cel.cz1, List.getD_eq_getElem?_getD, List.getElem?_append_right (by omega)]
        simp
      · rw [List.getElem?_eq_none (by rw [Cel.pvals_len]; simp; omega), List.getElem?_eq_none (by simp [Cel.pvals_len]; omega)]
theorem Cel.pvals_cons (p : Int × Int) (ps : List (Int × Int)) : Cel.pvals (p :: ps) = [.int .i64 p.1, .int .i64 p.2] ++ Cel.pvals ps := by
  apply List.ext_getElem?
  intro j
  by_cases h : j < (ps.length + 1) * 2
  · rw [Cel.pvals_at (p :: ps) j (by simpa using h)]
    by_cases h0 : j = 0
    · subst h0; rfl
    · by_cases h1 : j = 1
      · subst h1; rfl
      · rw [List.getElem?_append_right (by simp; omega)]
        simp only [List.length_cons, List.length_nil]
        rw [Cel.pvals_at ps (j - (0 + 1 + 1)) (by omega)]
        unfold Cel.cz
        obtain ⟨q, hq⟩ : ∃ q, j = q + 2 := ⟨j - 2, by omega⟩
        subst hq
        rw [show q + 2 - (0 + 1 + 1) = q by omega, show (q + 2) % 2 = q % 2 by omega, show (q + 2) / 2 = q / 2 + 1 by omega, List.getD_cons_succ]
  · rw [List.getElem?_eq_none (by rw [Cel.pvals_len]; simp; omega), List.getElem?_eq_none (by simp [Cel.pvals_len]; omega)]
theorem Cel.two_new (w : World) (a b : Value) (t : Nat) : ∀ (j : Nat) u, [a, b][j]? = some u → (w.alloc (.cells #[a, b] t)).cell? ((⟨w.heap.size, 0, none⟩ : Addr).add j) = some u := by
  intro j u hu
  have hj : j = 0 ∨ j = 1 := by
    have := (List.getElem?_eq_some_iff.1 hu).1
    simp at this; omega
  rcases hj with rfl | rfl
  · simp at hu; subst hu; simp [Addr.add]
  · simp at hu; subst hu; simp [Addr.add]
theorem Cel.one (w : World) (B : Nat) (hB : B ≤ w.heap.size) (c : C2) (T : TypeId) (hT : T = 37) : Cel.OwnPt (w.alloc (.cells #[.int .i64 c.1, .int .i64 c.2] T)) B (.slice (some ⟨w.heap.size, 0, none⟩) 1 1) [c] := by
  subst hT
  unfold Cel.OwnPt
  rw [show Cel.pvals [c] = [.int .i64 c.1, .int .i64 c.2] from by rw [Cel.pvals_cons]; rfl]
  exact World.ownsRow_lit (base := B) (e := 37) (size := 2) w #[.int .i64 c.1, .int .i64 c.2] 1 hB (by unfold maxLen; omega) rfl
theorem Cel.news {w : World} {B n cap : Nat} {a : Option Addr} {ps : List C2} (h : Cel.OwnPt w B (.slice a n cap) ps) (hn : 1 ≤ ps.length) : ∃ g, a = some ⟨g, 0, none⟩ ∧ n = ps.length ∧ ∀ (j : Nat) u, (Cel.pvals ps)[j]? = some u → w.cell? ((⟨g, 0, none⟩ : Addr).add j) = some u := by
  rcases h.2 with ⟨hv, h0⟩ | ⟨g, c, cur, hv, hb, hg, hnc, hcm, hcs, htake⟩
  · omega
  · simp only [Value.slice.injEq] at hv
    obtain ⟨rfl, rfl, rfl⟩ := hv
    refine ⟨g, rfl, rfl, fun j u hu => ?_⟩
    have hlt := (List.getElem?_eq_some_iff.1 hu).1
    rw [Cel.pvals_len] at hlt
    have := World.ownsRow.cellAt h j (by omega)
    rw [hu] at this
    by_cases h0 : j = 0
    · subst h0; simpa [Addr.add] using this
    · simpa [Addr.add, h0] using this
theorem Cel.pvals_one (ps : List C2) : ∀ u ∈ Cel.pvals ps, u.oneCell' = true := by
  intro u hu
  unfold Cel.pvals at hu
  obtain ⟨j, _, rfl⟩ := List.mem_map.1 hu
  rfl
/-- An append of nothing. -/
theorem wpList_append_zero {ops : Array Oper} {rest : List Oper} {o : Oper} {a : Act} {w : World} {Q : Exit → Act → World → Prop} (hgd : o.guard = none) (s x : Operand)
    (ho : o.op = .call { callee := .builtin .append, args := #[s, x], argTypes := #[34, 34] })
    (b n c : Nat) (hnc : n ≤ c) (hs : a.eval s = .slice (some ⟨b, 0, none⟩) n c) (xa : Option Addr) (xc : Nat) (hx : a.eval x = .slice xa 0 xc)
    (h : wpList Tryz.prog ops Q rest (a.put o.dst (.slice (some ⟨b, 0, none⟩) n c)) w) : wpList Tryz.prog ops Q (o :: rest) a w := by
  obtain ⟨i0, hi0, hz0, hz1, hz2⟩ := info_parts Cel.infoPt6
  refine wpList_plain hgd fun _ hK => ?_
  have hr : (Builtin.append_ #[34, 34] o.type #[.slice (some ⟨b, 0, none⟩) n c, .slice xa 0 xc]).run Tryz.prog w = .ok (.slice (some ⟨b, 0, none⟩) n c) w := by
    cases xa <;> simp [Builtin.append_, run_underlying Tryz.underlying34, sizeOf, typeInfo, hi0, Builtin.lenOf, Builtin.firstCells, loadCells, loadCellsFrom, storeCells, hnc]
  unfold Oper.wp execOp
  simp only [ho, resolve, invoke, builtin, Sem.run_bind, Sem.run_pure, Result.andThen_ok, List.map_toArray, List.map_cons, List.map_nil, hs, hx, hr]
  exact hK _ _ h
end Go.Proofs.YtkogoflcacameaaGreatDoor
