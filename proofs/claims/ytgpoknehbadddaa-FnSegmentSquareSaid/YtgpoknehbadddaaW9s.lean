/- The walk of the law FnSegmentSquare: it returns true at every code. -/
import Derived.Test.YtgpoknehbadddaaLk9
import Derived.Test.YtgpoknehbadddaaDr9
import Derived.Test.YtgpoknehbadddaaPts2
namespace Go.Proofs.Ytgpoknehbadddaa
set_option maxRecDepth 100000
open Go.RowKit
attribute [local go_sem ↓] Go.wp_at_zero Go.wp_at_succ
theorem distE (p a : P2) (d : Int) (hp : near9 p) (ha : near9 a) (hd : sq2 p a = d) (w : World) :
    Calls Try.prog 14 #[pt p.1 p.2, pt a.1 a.2] w fun e w' => e = .returned (.int .i64 d) ∧ Below w.heap.size w w' := by
  have := implSquaredDistance p.1 p.2 a.1 a.2 w
  rw [sqV_in' ⟨near_ok hp, near_ok ha⟩] at this
  subst hd; exact this
set_option maxHeartbeats 4000000 in
theorem walkFnSegmentSquare (w : World) (a : Option Addr) (len cap : Nat) (zs : List Int) (h : Bytes w a len cap zs) :
    Calls Try.prog 3 #[.slice a len cap] w fun e w' => e = .returned (.bool true) ∧ Below w.heap.size w w' := by
  have hle := h.len_le
  obtain ⟨hl, hm⟩ := hle
  unfold maxLen at hm
  by_cases hbig : 1048576 < len
  · go_enter Try.func3, Try.ntmps3
    go_wp2
    go_ret
    exact ⟨rfl, Below.refl _ _⟩
  · go_enter Try.func3, Try.ntmps3
    go_wp2_with fail
    refine (drawSegmentSquareQ w a len cap zs h).mono ?_
    rintro e w0 ⟨p, q, s, rfl, hb⟩
    clear h hl hm hbig
    have HB := Lib.hid (below_call hb (below_box3 w0 (.cells #[.int .i64 p.1, .int .i64 p.2] 24) (.cells #[.int .i64 q.1, .int .i64 q.2] 24) (.cells #[.int .i64 s.1, .int .i64 s.2] 24)))
    have HX := Lib.hid (box3 w0 p q s)
    obtain ⟨n, hn⟩ : ∃ n, ssV p q s = n := ⟨_, rfl⟩
    have H1 := Lib.hid (fun u => iSqE p q s n hn u)
    have H2 := Lib.hid (fun u => sSqE p q s n hn u)
    have H3 := Lib.hid (fun u => iSqE p s q n ((ssV_swap p q s).trans hn) u)
    have HC := Lib.hid (ssV_cases p q s)
    rw [hn] at HC
    have e0 : (n != n) = false := by simp
    clear hb hn
    go_upto_region 4 with fail
    generalize ((w0.alloc (.cells #[.int .i64 p.1, .int .i64 p.2] 24)).alloc (.cells #[.int .i64 q.1, .int .i64 q.2] 24)).alloc (.cells #[.int .i64 s.1, .int .i64 s.2] 24) = w1 at *
    obtain ⟨⟨_, x1, x2⟩, ⟨_, y1, y2⟩, ⟨_, z1, z2⟩⟩ := HX.out
    go_upto_region 7 with (first | (go_at_call 11; with_reducible refine (H1.out _).mono ?_; rintro e u ⟨rfl, B⟩; replace HB := Lib.hid (below_call HB.out B); replace HX := Lib.hid (at3_next HX.out B); clear B x1 x2 y1 y2 z1 z2; obtain ⟨⟨_, x1, x2⟩, ⟨_, y1, y2⟩, ⟨_, z1, z2⟩⟩ := HX.out) | (go_at_call 12; with_reducible refine (H2.out _).mono ?_; rintro e u ⟨rfl, B⟩; replace HB := Lib.hid (below_call HB.out B); replace HX := Lib.hid (at3_next HX.out B); clear B x1 x2 y1 y2 z1 z2; obtain ⟨⟨_, x1, x2⟩, ⟨_, y1, y2⟩, ⟨_, z1, z2⟩⟩ := HX.out) | (go_at_call 11; with_reducible refine (H3.out _).mono ?_; rintro e u ⟨rfl, B⟩; replace HB := Lib.hid (below_call HB.out B); replace HX := Lib.hid (at3_next HX.out B); clear B x1 x2 y1 y2 z1 z2; obtain ⟨⟨_, x1, x2⟩, ⟨_, y1, y2⟩, ⟨_, z1, z2⟩⟩ := HX.out))
    clear H1 H2 H3
    rcases HC.out with ⟨rfl, hno⟩ | ⟨h0, k1, k2, k3, hv⟩
    · clear hno HC
      go_wp2_with fail
      refine (alive _).mono ?_
      rintro e w' ⟨rfl, rfl⟩
      go_wp2
      go_ret
      exact ⟨rfl, HB.out⟩
    · obtain ⟨d1, hd1⟩ : ∃ d1, sq2 p q = d1 := ⟨_, rfl⟩
      obtain ⟨d2, hd2⟩ : ∃ d2, sq2 p s = d2 := ⟨_, rfl⟩
      have c1 : n ≤ d1 := by have := segQ_left p q s; omega
      have c2 : n ≤ d2 := by have := segQ_right p q s; omega
      have H4 := Lib.hid (fun u => iSqE q q s 0 (by rw [ssV_yes k2 k2 k3]; exact segQ_first q s) u)
      have H5 := Lib.hid (fun u => iSqE p q q d1 (by rw [ssV_yes k1 k2 k2, segQ_point]; exact hd1) u)
      have H6 := Lib.hid (fun u => distE p q d1 k1 k2 hd1 u)
      have H7 := Lib.hid (fun u => distE p s d2 k1 k3 hd2 u)
      have g : ¬ n < 0 := by omega
      have q1 : decide (n ≤ d1) = true := decide_eq_true c1
      have q2 : decide (n ≤ d2) = true := decide_eq_true c2
      have q3 : (d1 == d1) = true := by simp
      have q4 : ((0 : Int) == 0) = true := rfl
      clear HC h0 k1 k2 k3 hv hd1 hd2
      go_upto_region 9 with fail
      clear x1 x2 y1 y2 z1 z2
      obtain ⟨x1, x2⟩ := HX.out.1.kepts
      obtain ⟨y1, y2⟩ := HX.out.2.1.kepts
      obtain ⟨z1, z2⟩ := HX.out.2.2.kepts
      have T4 := Lib.hid (fun (k : Kept u) => keptCall (H4.out k.u))
      have T5 := Lib.hid (fun (k : Kept u) => keptCall (H5.out k.u))
      have T6 := Lib.hid (fun (k : Kept u) => keptCall (H6.out k.u))
      have T7 := Lib.hid (fun (k : Kept u) => keptCall (H7.out k.u))
      clear H4 H5 H6 H7
      refine wp_region_kept (by kernel_rfl) (by kernel_rfl) ?_
      repeat (go_big_quiet_step ((first | (go_at_call 11; with_reducible exact T4.out _) | (go_at_call 11; with_reducible exact T5.out _) | (go_at_call 14; with_reducible exact T6.out _) | (go_at_call 14; with_reducible exact T7.out _))))
      refine wpQuiet_nil ?_
      rintro w9 ⟨⟨_, K9⟩, rfl⟩
      go_wp2
      go_ret
      exact ⟨rfl, below_call HB.out K9⟩
end Go.Proofs.Ytgpoknehbadddaa
