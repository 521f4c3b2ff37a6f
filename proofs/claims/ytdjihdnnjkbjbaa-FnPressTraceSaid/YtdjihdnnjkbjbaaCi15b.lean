/- Contact: the program's functions on presses. -/
import Derived.Test.YtdjihdnnjkbjbaaCi15a
namespace Go.Proofs.Ytdjihdnnjkbjbaa
set_option maxRecDepth 100000
open Go.RowKit
attribute [local go_sem ↓] Go.wp_at_zero Go.wp_at_succ
set_option maxHeartbeats 2000000 in
theorem pressValidM (q k f s : Int) (w : World) : Calls Try.prog 31 #[prs q k f s] w fun e w' => e = .returned (.bool (decide (okPr q k f s))) ∧ Below w.heap.size w w' := by
  have P0 := At4.box w q k f s 47
  have HB := Lib.hid (below_box w (.cells #[.int .i64 q, .int .i64 k, .int .i64 f, .int .i64 s] 47))
  have HE : ∀ b, (b = true ↔ okPr q k f s) → b = decide (okPr q k f s) := fun b h => by rw [Bool.eq_iff_iff, h]; simp
  by_cases h0 : okWl q k
  rotate_left
  · have HV := Lib.hid (HE false ⟨(fun h => by cases h), fun h => absurd h.1 h0⟩)
    have HC := Lib.hid (fun u => no14 (wallValidM q k u) h0)
    clear HE
    generalize decide (okPr q k f s) = d at *
    go_enter Try.func31, Try.ntmps31
    go_wp2_with fail
    refine (HC.out _).mono ?_
    rintro e w2 ⟨rfl, B2⟩
    have HB2 := Lib.hid (below_call HB.out B2)
    clear B2
    go_wp2
    go_ret
    exact ⟨ret_bool HV.out, HB2.out⟩
  have HC := Lib.hid (fun u => yes14 (wallValidM q k u) h0)
  by_cases h1 : 1 ≤ f
  rotate_left
  · have HV := Lib.hid (HE false ⟨(fun h => by cases h), fun h => absurd h.2.1.1 h1⟩)
    have q1 : decide (1 ≤ f) = false := decide_eq_false h1
    clear HE
    generalize decide (okPr q k f s) = d at *
    go_enter Try.func31, Try.ntmps31
    go_wp2_with fail
    refine (HC.out _).mono ?_
    rintro e w2 ⟨rfl, B2⟩
    have HB2 := Lib.hid (below_call HB.out B2)
    obtain ⟨_, c0, c1, c2, c3⟩ := P0.next B2
    clear B2
    go_wp2
    go_ret
    exact ⟨ret_bool HV.out, HB2.out⟩
  by_cases h2 : f ≤ 1000
  rotate_left
  · have HV := Lib.hid (HE false ⟨(fun h => by cases h), fun h => absurd h.2.1.2 h2⟩)
    have q2 : decide (f ≤ 1000) = false := decide_eq_false h2
    clear HE
    generalize decide (okPr q k f s) = d at *
    go_enter Try.func31, Try.ntmps31
    go_wp2_with fail
    refine (HC.out _).mono ?_
    rintro e w2 ⟨rfl, B2⟩
    have HB2 := Lib.hid (below_call HB.out B2)
    obtain ⟨_, c0, c1, c2, c3⟩ := P0.next B2
    clear B2
    go_wp2
    go_ret
    exact ⟨ret_bool HV.out, HB2.out⟩
  by_cases h3 : 1 ≤ s
  rotate_left
  · have HV := Lib.hid (HE false ⟨(fun h => by cases h), fun h => absurd h.2.2.1 h3⟩)
    have q3 : decide (1 ≤ s) = false := decide_eq_false h3
    clear HE
    generalize decide (okPr q k f s) = d at *
    go_enter Try.func31, Try.ntmps31
    go_wp2_with fail
    refine (HC.out _).mono ?_
    rintro e w2 ⟨rfl, B2⟩
    have HB2 := Lib.hid (below_call HB.out B2)
    obtain ⟨_, c0, c1, c2, c3⟩ := P0.next B2
    clear B2
    go_wp2
    go_ret
    exact ⟨ret_bool HV.out, HB2.out⟩
  have HV := Lib.hid (HE (decide (s ≤ 200)) ⟨fun h => by have hh := of_decide_eq_true h; exact ⟨h0, ⟨h1, h2⟩, h3, hh⟩, fun h => decide_eq_true h.2.2.2⟩)
  clear HE
  generalize decide (okPr q k f s) = d at *
  go_enter Try.func31, Try.ntmps31
  go_wp2_with fail
  refine (HC.out _).mono ?_
  rintro e w2 ⟨rfl, B2⟩
  have HB2 := Lib.hid (below_call HB.out B2)
  obtain ⟨_, c0, c1, c2, c3⟩ := P0.next B2
  clear B2
  go_wp2
  go_ret
  exact ⟨ret_bool HV.out, HB2.out⟩
set_option maxHeartbeats 2000000 in
theorem exceededM (q k f s p : Int) (w : World) (hk : 1 ≤ k ∧ k ≤ 100) (h1 : -20300 ≤ p - q) (h2 : p - q ≤ 20300) :
    Calls Try.prog 39 #[prs q k f s, .int .i64 p] w fun e w' => e = .returned (.bool (decide (f < frc p q k))) ∧ Below w.heap.size w w' := by
  have P0 := At4.box w q k f s 47
  have B0 := below_box w (.cells #[.int .i64 q, .int .i64 k, .int .i64 f, .int .i64 s] 47)
  have HF0 := Lib.hid (fun u => wallForceM q k p u hk h1 h2)
  generalize frc p q k = n at *
  clear hk h1 h2
  go_enter Try.func39, Try.ntmps39
  go_upto_region 1 with fail
  generalize w.alloc (.cells #[.int .i64 q, .int .i64 k, .int .i64 f, .int .i64 s] 47) = w1 at *
  have HF := Lib.hid (fun (u : Kept w1) => keptCall (n := u) (HF0.out u.u))
  obtain ⟨e0, e1, e2, e3⟩ := P0.kepts
  clear HF0 P0
  refine wp_region_kept (by kernel_rfl) (by kernel_rfl) ?_
  repeat (go_big_quiet_step ((go_at_call 27; with_reducible exact HF.out _)))
  refine wpQuiet_nil ?_
  rintro w4 ⟨⟨_, K2⟩, rfl⟩
  have HB4 := Lib.hid (below_call B0 K2)
  clear HF e0 e1 e2 e3 K2 B0
  go_wp2
  go_ret
  exact ⟨rfl, HB4.out⟩
set_option maxHeartbeats 2000000 in
theorem boundM (q k f s p : Int) (w : World) (h : okPrs p q k f s) (hf : frc p q k ≤ f) :
    Calls Try.prog 41 #[prs q k f s, .int .i64 p] w fun e w' => e = .returned (.int .i64 (bndN p q k f s)) ∧ Below w.heap.size w w' := by
  have P0 := At4.box w q k f s 47
  have B0 := below_box w (.cells #[.int .i64 q, .int .i64 k, .int .i64 f, .int .i64 s] 47)
  obtain ⟨⟨hp, hq, hk⟩, hF, hs⟩ := h
  have HF0 := Lib.hid (fun u => wallForceM q k p u hk (by omega) (by omega))
  have b1 := frc_pos (p := p) (w := q) hk.1
  have b2 := left_div hk.1 hf
  unfold bndN
  generalize frc p q k = n at *
  obtain ⟨m, hm⟩ : ∃ m, f - n = m := ⟨_, rfl⟩
  have o1 : IntKind.i64.wrap (f - n) = m := by rw [hm]; exact wrap_in (by omega) (by omega)
  rw [hm] at b2 ⊢
  obtain ⟨d, hd⟩ : ∃ d, m.tdiv k = d := ⟨_, rfl⟩
  rw [hd] at b2 ⊢
  have o2 : IntKind.i64.wrap (m.tdiv k) = d := by rw [hd]; exact wrap_in (by omega) (by omega)
  obtain ⟨x, hx⟩ : ∃ x, max 1 d = x := ⟨_, rfl⟩
  have o3 : (if 1 < d then d else 1) = x := by rw [← hx]; split <;> omega
  rw [hx]
  obtain ⟨y, hy⟩ : ∃ y, min s x = y := ⟨_, rfl⟩
  have o4 : (if x < s then x else s) = y := by rw [← hy]; split <;> omega
  rw [hy]
  have nk : ¬ k = 0 := by omega
  clear hp hq hk hF hs hf b1 b2 hm hd hx hy
  go_enter Try.func41, Try.ntmps41
  go_upto_region 1 with fail
  generalize w.alloc (.cells #[.int .i64 q, .int .i64 k, .int .i64 f, .int .i64 s] 47) = w1 at *
  have HF := Lib.hid (fun (u : Kept w1) => keptCall (n := u) (HF0.out u.u))
  obtain ⟨e0, e1, e2, e3⟩ := P0.kepts
  clear HF0
  refine wp_region_kept (by kernel_rfl) (by kernel_rfl) ?_
  repeat (go_big_quiet_step ((go_at_call 27; with_reducible exact HF.out _)))
  refine wpQuiet_nil ?_
  rintro w4 ⟨⟨_, K2⟩, rfl⟩
  have P4 := P0.next K2
  have B4 := below_call B0 K2
  clear HF e0 e1 e2 e3 K2 B0 P0
  go_upto_region 2 with fail
  obtain ⟨e0, e1, e2, e3⟩ := P4.kepts
  refine wp_region_kept (by kernel_rfl) (by kernel_rfl) ?_
  repeat (go_big_quiet_step (fail))
  refine wpQuiet_nil ?_
  rintro w5 ⟨⟨_, K3⟩, rfl⟩
  have HB4 := Lib.hid (below_call B4 K3)
  clear e0 e1 e2 e3 K3 B4 P4
  go_wp2
  go_ret
  exact ⟨rfl, HB4.out⟩
set_option maxHeartbeats 2000000 in
/-- The closure: one unit more than d is too much. -/
theorem askM (q k f s p : Int) (b c : Nat) (i : Nat) (u : World) (h : okPrs p q k f s) (hi : i < 200) (hP : At4 u b q k f s) (hc : u.cell? ⟨c, 0, none⟩ = some (.int .i64 p)) :
    Calls Try.prog 42 (#[.int .i64 i] ++ #[.pointer (some ⟨b, 0, none⟩), .pointer (some ⟨c, 0, none⟩)]) u fun e w' => e = .returned (.bool (decide (f < frc (p + (i : Int) + 1) q k))) ∧ Below u.heap.size u w' := by
  obtain ⟨⟨hp, hq, hk⟩, hF, hs⟩ := h
  have HF := Lib.hid (fun w => exceededM q k f s (p + (i : Int) + 1) w hk (by omega) (by omega))
  have o1 : IntKind.i64.wrap (p + (i : Int)) = p + (i : Int) := wrap_in (by omega) (by omega)
  have o2 : IntKind.i64.wrap (p + (i : Int) + 1) = p + (i : Int) + 1 := wrap_in (by omega) (by omega)
  generalize decide (f < frc (p + (i : Int) + 1) q k) = d at *
  obtain ⟨_, c0, c1, c2, c3⟩ := hP
  clear hp hq hk hF hs hi
  go_enter Try.func42, Try.ntmps42
  go_wp2_with fail
  refine (HF.out _).mono ?_
  rintro e w2 ⟨rfl, B2⟩
  have HB2 := Lib.hid B2
  clear B2
  go_wp2
  go_ret
  exact ⟨rfl, HB2.out⟩
set_option maxHeartbeats 4000000 in
/-- sort.Search with that closure: the least number at which it says yes. -/
theorem searchC (cb : Array Value) (n m : Nat) (a : Nat → Bool) (w : World) (hn : n < 4611686018427387904) (hm : m ≤ n)
    (hf : ∀ (u : World) (i : Nat), Below w.heap.size w u → i < n → Calls Try.prog 42 (#[.int .i64 i] ++ cb) u fun e w' => e = .returned (.bool (a i)) ∧ Below u.heap.size u w')
    (h1 : ∀ t, t < m → a t = false) (h2 : ∀ t, m ≤ t → t < n → a t = true) :
    Calls Try.prog 40 #[.int .i64 n, .func (.func 42) #[] cb] w fun e w' => e = .returned (.int .i64 (m : Int)) ∧ Below w.heap.size w w' := by
  have HF := Lib.hid hf
  have H1 := Lib.hid h1
  have H2 := Lib.hid h2
  have HM := Lib.hid hm
  have H0 := Lib.hid (Below.refl w.heap.size w)
  clear hf h1 h2 hm
  go_enter Try.func40, Try.ntmps40
  go_wp2
  go_loopg [5, 6] n (fun kx s5 s6 wr => ∃ (lo hi : Nat), s5 = .int .i64 lo ∧ s6 = .int .i64 hi ∧ lo ≤ hi ∧ hi ≤ n ∧ hi - lo ≤ kx ∧ Hid (lo ≤ m ∧ m ≤ hi) ∧ Hid (Below w.heap.size w wr))
  case atStart => exact ⟨0, n, rfl, rfl, Nat.zero_le _, Nat.le_refl _, by omega, Lib.hid ⟨Nat.zero_le _, HM.out⟩, H0⟩
  case round =>
    obtain ⟨lo, hi, rfl, rfl, hlh, hin, hg, HI, HW⟩ := hrel
    by_cases hlt : lo < hi
    · have hc := HF.out wr ((lo + hi) / 2) HW.out (by omega)
      rw [show (((lo + hi) / 2 : Nat) : Int) = ((lo : Int) + (hi : Int)) / 2 by omega] at hc
      cases hp : a ((lo + hi) / 2) <;> rw [hp] at hc
      · have HP := Lib.hid hp
        clear hp
        go_wp2_with fail
        refine hc.mono ?_
        rintro e w' ⟨rfl, B2⟩
        have HB2 := Lib.hid (below_call HW.out B2)
        clear B2
        go_wp2
        go_roundg (hi - ((lo + hi) / 2 + 1))
        case measure => omega
        case rel =>
          have q : (lo + hi) / 2 < m := by
            rcases Nat.lt_or_ge ((lo + hi) / 2) m with c | c
            · exact c
            · have := H2.out _ c (by omega); rw [HP.out] at this; cases this
          exact ⟨(lo + hi) / 2 + 1, hi, by rw [show ((lo : Int) + (hi : Int)) / 2 + 1 = (((lo + hi) / 2 + 1 : Nat) : Int) by omega], rfl, by omega, hin, Nat.le_refl _, Lib.hid ⟨by omega, HI.out.2⟩, HB2⟩
      · have HP := Lib.hid hp
        clear hp
        go_wp2_with fail
        refine hc.mono ?_
        rintro e w' ⟨rfl, B2⟩
        have HB2 := Lib.hid (below_call HW.out B2)
        clear B2
        go_wp2
        go_roundg ((lo + hi) / 2 - lo)
        case measure => omega
        case rel =>
          have q : m ≤ (lo + hi) / 2 := by
            rcases Nat.lt_or_ge ((lo + hi) / 2) m with c | c
            · have := H1.out _ c; rw [HP.out] at this; cases this
            · exact c
          exact ⟨lo, (lo + hi) / 2, rfl, by rw [show ((lo : Int) + (hi : Int)) / 2 = (((lo + hi) / 2 : Nat) : Int) by omega], by omega, by omega, Nat.le_refl _, Lib.hid ⟨HI.out.1, q⟩, HB2⟩
    · obtain rfl : hi = lo := by omega
      obtain rfl : m = hi := by have := HI.out; omega
      go_wp2
      go_ret
      exact ⟨rfl, HW.out⟩
def movN (p q k f s : Int) : Int := if f < frc p q k then -1 else advV p q k f s
theorem mov_nxt (p q k f s : Int) : clp (p + movN p q k f s) (-10000) 10000 = nxtN p q k f s := by
  unfold movN nxtN
  split <;> rfl
theorem mov_bd {p q k f s : Int} (h : okPrs p q k f s) : -1 ≤ movN p q k f s ∧ movN p q k f s ≤ 200 := by
  have hs := h.2.2
  unfold movN
  split
  · omega
  · have := adv_bd h (by omega)
    omega
set_option maxHeartbeats 4000000 in
theorem moveM (q k f s p : Int) (w : World) (h : okPrs p q k f s) :
    Calls Try.prog 38 #[prs q k f s, .int .i64 p] w fun e w' => e = .returned (.int .i64 (movN p q k f s)) ∧ Below w.heap.size w w' := by
  have P0 := (At4.box w q k f s 47).alloc (.cells #[.int .i64 p] 3)
  have Q0 : ((w.alloc (.cells #[.int .i64 q, .int .i64 k, .int .i64 f, .int .i64 s] 47)).alloc (.cells #[.int .i64 p] 3)).cell? ⟨w.heap.size + 1, 0, none⟩ = some (.int .i64 p) := by
    rw [World.cell?_alloc_at _ _ _ _ (by simp)]; rfl
  have B0 := below_box2 w (.cells #[.int .i64 q, .int .i64 k, .int .i64 f, .int .i64 s] 47) (.cells #[.int .i64 p] 3)
  have hz : ((w.alloc (.cells #[.int .i64 q, .int .i64 k, .int .i64 f, .int .i64 s] 47)).alloc (.cells #[.int .i64 p] 3)).heap.size = w.heap.size + 2 := by simp
  have hp := h.1.1
  have hq := h.1.2.1
  have HF := Lib.hid (fun u => exceededM q k f s p u h.1.2.2 (by omega) (by omega))
  rcases Int.lt_or_le f (frc p q k) with c | c
  · rw [show movN p q k f s = -1 from if_pos c]
    rw [decide_eq_true c] at HF
    have HB := Lib.hid B0
    have HP := Lib.hid P0
    clear P0 Q0 B0 hz hp hq c
    go_enter Try.func38, Try.ntmps38
    go_wp2_with fail
    refine (HF.out _).mono ?_
    rintro e w2 ⟨rfl, B2⟩
    have HB2 := Lib.hid (below_call HB.out B2)
    clear B2
    go_wp2
    go_ret
    exact ⟨rfl, HB2.out⟩
  · rw [show movN p q k f s = advV p q k f s from if_neg (by omega)]
    rw [decide_eq_false (show ¬ f < frc p q k by omega)] at HF
    have HG := Lib.hid (fun u => boundM q k f s p u h c)
    have hb := bnd_bd h
    have ha := adv_bd h c
    have hl := adv_le h c
    have HA := Lib.hid (fun t => adv_ask h c t)
    have HH := Lib.hid h
    generalize bndN p q k f s = n at *
    generalize advV p q k f s = m at *
    obtain ⟨N, rfl⟩ : ∃ N : Nat, n = (N : Int) := ⟨n.toNat, by omega⟩
    obtain ⟨M, rfl⟩ : ∃ M : Nat, m = (M : Int) := ⟨m.toNat, by omega⟩
    have HS := Lib.hid (fun (u : World) (HU : At4 u w.heap.size q k f s) (hu : u.cell? ⟨w.heap.size + 1, 0, none⟩ = some (.int .i64 p)) (hs : w.heap.size + 2 ≤ u.heap.size) =>
      searchC #[.pointer (some ⟨w.heap.size, 0, none⟩), .pointer (some ⟨w.heap.size + 1, 0, none⟩)] N M (fun t => decide (f < frc (p + (t : Int) + 1) q k)) u (by omega) (by omega)
        (fun v i hv hi => askM q k f s p w.heap.size (w.heap.size + 1) i v HH.out (by omega) (HU.next hv) ((hv.cell (p := ⟨w.heap.size + 1, 0, none⟩) (show w.heap.size + 1 < u.heap.size by omega)).trans hu))
        (fun t ht => (HA.out t).1 (by omega)) (fun t h1 h2 => (HA.out t).2 (by omega) (by omega)))
    have HP := Lib.hid P0
    have HQ := Lib.hid Q0
    have HB := Lib.hid B0
    have HZ := Lib.hid hz
    clear P0 Q0 B0 hz hp hq c h hb ha hl HA HH
    go_enter Try.func38, Try.ntmps38
    go_wp2_with fail
    refine (HF.out _).mono ?_
    rintro e w2 ⟨rfl, B2⟩
    have P2 := HP.out.next B2
    have q2 := (B2.cell (p := ⟨w.heap.size + 1, 0, none⟩) (by rw [HZ.out]; exact Nat.lt_succ_self _)).trans HQ.out
    have HZ2 : Hid (w.heap.size + 2 ≤ w2.heap.size) := Lib.hid (by have := B2.size; rw [HZ.out] at this; exact this)
    have HB2 := Lib.hid (below_call HB.out B2)
    have HQ2 := Lib.hid q2
    clear B2 HP HQ HB HZ HF
    obtain ⟨_, c0, c1, c2, c3⟩ := id P2
    go_wp2_with fail
    refine (HG.out _).mono ?_
    rintro e w3 ⟨rfl, B3⟩
    have P3 := P2.next B3
    have HQ3 := Lib.hid ((B3.cell (p := ⟨w.heap.size + 1, 0, none⟩) (by have := HZ2.out; show w.heap.size + 1 < w2.heap.size; omega)).trans HQ2.out)
    have HZ3 : Hid (w.heap.size + 2 ≤ w3.heap.size) := Lib.hid (Nat.le_trans HZ2.out B3.size)
    have HB3 := Lib.hid (below_call HB2.out B3)
    have HP3 := Lib.hid P3
    clear B3 HQ2 HZ2 HB2 P2 P3 q2 c0 c1 c2 c3 HG
    go_wp2_with fail
    refine (HS.out _ HP3.out HQ3.out HZ3.out).mono ?_
    rintro e w4 ⟨rfl, B4⟩
    have HB4 := Lib.hid (below_call HB3.out B4)
    clear B4
    go_wp2
    go_ret
    exact ⟨rfl, HB4.out⟩
set_option maxHeartbeats 2000000 in
theorem nextM (q k f s p : Int) (w : World) (h : okPrs p q k f s) :
    Calls Try.prog 32 #[prs q k f s, .int .i64 p] w fun e w' => e = .returned (.int .i64 (nxtN p q k f s)) ∧ Below w.heap.size w w' := by
  have HB := Lib.hid (below_box w (.cells #[.int .i64 q, .int .i64 k, .int .i64 f, .int .i64 s] 47))
  have HM := Lib.hid (fun u => moveM q k f s p u h)
  have hb := mov_bd h
  have he := mov_nxt p q k f s
  have hp := h.1.1
  have HN := Lib.hid (fun u => nearC 10000 (p + movN p q k f s) u (by omega))
  rw [he] at HN
  generalize movN p q k f s = m at *
  generalize nxtN p q k f s = n at *
  obtain ⟨x, hx⟩ : ∃ x, p + m = x := ⟨_, rfl⟩
  have o1 : IntKind.i64.wrap (p + m) = x := by rw [hx]; exact wrap_in (by omega) (by omega)
  rw [hx] at HN
  clear hb he hp hx h
  go_enter Try.func32, Try.ntmps32
  go_wp2_with fail
  refine (HM.out _).mono ?_
  rintro e w2 ⟨rfl, B2⟩
  have HB2 := Lib.hid (below_call HB.out B2)
  clear B2
  go_wp2_with fail
  refine (HN.out _).mono ?_
  rintro e w3 ⟨rfl, rfl⟩
  go_wp2
  go_ret
  exact ⟨rfl, HB2.out⟩
end Go.Proofs.Ytdjihdnnjkbjbaa
