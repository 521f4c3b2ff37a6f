/- The walk of the law FnOrientArea: it returns true at every code. -/
import Derived.Test.YtkmopgdnaohcdaaLk8
import Derived.Test.YtkmopgdnaohcdaaDraw2b
namespace Go.Proofs.Ytkmopgdnaohcdaa
set_option maxRecDepth 100000
open Go.RowKit
attribute [local go_sem ↓] Go.wp_at_zero Go.wp_at_succ
theorem ori_cyc8 (a b c : P2) : ori b c a = ori a b c := oriV_cyc a.1 a.2 b.1 b.2 c.1 c.2
theorem tri_ok {a b c : P2} : okCvx [a, b, c] ↔ ori a b c = 1 := by
  rw [← cvx_each (ps := [a, b, c]) (by simp) (by simp)]
  constructor
  · intro h
    exact h 0 (by simp) 2 (by simp) (by omega) (by show (2:Nat) ≠ (0 + 1) % 3; omega)
  · intro h k hk j hj h1 h2
    have e : ∀ i, nx [a, b, c] i = (i + 1) % 3 := fun i => rfl
    rw [e] at h2 ⊢
    simp only [List.length_cons, List.length_nil, Nat.zero_add, Nat.reduceAdd] at hk hj
    obtain rfl | rfl | rfl : k = 0 ∨ k = 1 ∨ k = 2 := by omega
    · obtain rfl : j = 2 := by omega
      exact h
    · obtain rfl : j = 0 := by omega
      exact (ori_cyc8 a b c).trans h
    · obtain rfl : j = 1 := by omega
      exact (ori_cyc8 b c a).trans ((ori_cyc8 a b c).trans h)
theorem tri_area {a b c : P2} (h : ori a b c = 1) : 0 < daV [a, b, c] := by
  have k := tri_ok.2 h
  rw [daV_yes k]
  exact k.ccw.area k.1 _
/-- A literal of three points. -/
theorem pl3 (W : World) (a b c : P2) (T : TypeId) : PL (W.alloc (.cells #[.int .i64 a.1, .int .i64 a.2, .int .i64 b.1, .int .i64 b.2, .int .i64 c.1, .int .i64 c.2] T)) (some ⟨W.heap.size, 0, none⟩) 3 [a, b, c] := by
  have q := Cells8.new W #[.int .i64 a.1, .int .i64 a.2, .int .i64 b.1, .int .i64 b.2, .int .i64 c.1, .int .i64 c.2] T
  refine ⟨rfl, .inr ⟨_, 0, rfl, q.lt, fun i hi => ?_⟩⟩
  obtain rfl | rfl | rfl : i = 0 ∨ i = 1 ∨ i = 2 := by omega
  · exact ⟨q.cell rfl, q.cell rfl⟩
  · exact ⟨q.cell rfl, q.cell rfl⟩
  · exact ⟨q.cell rfl, q.cell rfl⟩
set_option maxHeartbeats 2000000 in
theorem walkFnOrientArea (w : World) (a : Option Addr) (len cap : Nat) (zs : List Int) (h : Bytes w a len cap zs) :
    Calls Try.prog 11 #[.slice a len cap] w fun e w' => e = .returned (.bool true) ∧ Below w.heap.size w w' := by
  have hle := h.len_le
  obtain ⟨hl, hm⟩ := hle
  unfold maxLen at hm
  by_cases hbig : 1048576 < len
  · go_enter Try.func11, Try.ntmps11
    go_wp2
    go_ret
    exact ⟨rfl, Below.refl _ _⟩
  · go_enter Try.func11, Try.ntmps11
    go_wp2_with fail
    refine (drawOrientation w a len cap zs h).mono ?_
    rintro e w0 ⟨ax, ay, bx, b_y, cx, cy, hs, rfl, hb⟩
    clear h hl hm hbig
    have HB := Lib.hid (below_call hb (below_box3 w0 (.cells #[.int .i64 ax, .int .i64 ay] 28) (.cells #[.int .i64 bx, .int .i64 b_y] 28) (.cells #[.int .i64 cx, .int .i64 cy] 28)))
    obtain ⟨P, Q, R⟩ := at3 w0 ax ay bx b_y cx cy 28
    obtain ⟨p1, p2, p3⟩ := id P
    obtain ⟨q1, q2, q3⟩ := id Q
    obtain ⟨r1, r2, r3⟩ := id R
    clear hb hs
    have e0 : (oriV ax ay bx b_y cx cy != oriV ax ay bx b_y cx cy) = false := by simp
    go_wp2_with fail
    refine (implOrientation ax ay bx b_y cx cy _).mono ?_
    rintro e w1 ⟨rfl, B1⟩
    replace HB := Lib.hid (below_call HB.out B1)
    clear p1 p2 p3
    replace P := P.next B1
    obtain ⟨p1, p2, p3⟩ := id P
    clear q1 q2 q3
    replace Q := Q.next B1
    obtain ⟨q1, q2, q3⟩ := id Q
    clear r1 r2 r3
    replace R := R.next B1
    obtain ⟨r1, r2, r3⟩ := id R
    clear B1
    go_wp2_with fail
    refine (specOrientation ax ay bx b_y cx cy _).mono ?_
    rintro e w2 ⟨rfl, B2⟩
    replace HB := Lib.hid (below_call HB.out B2)
    clear p1 p2 p3
    replace P := P.next B2
    obtain ⟨p1, p2, p3⟩ := id P
    clear q1 q2 q3
    replace Q := Q.next B2
    obtain ⟨q1, q2, q3⟩ := id Q
    clear r1 r2 r3
    replace R := R.next B2
    obtain ⟨r1, r2, r3⟩ := id R
    clear B2
    have HP := Lib.hid (pl3 w2 (ax, ay) (bx, b_y) (cx, cy) 28)
    have HBn := Lib.hid (below_call HB.out (below_box w2 (.cells #[.int .i64 ax, .int .i64 ay, .int .i64 bx, .int .i64 b_y, .int .i64 cx, .int .i64 cy] 28)))
    have HC := Lib.hid (implConvexValid (some ⟨w2.heap.size, 0, none⟩) 3 3 _ _ HP.out (by omega))
    have HA := Lib.hid (fun (u : World) (hu : PL u (some ⟨w2.heap.size, 0, none⟩) 3 [(ax, ay), (bx, b_y), (cx, cy)]) => iArea (some ⟨w2.heap.size, 0, none⟩) 3 3 _ u hu (by omega))
    by_cases hn : oriV ax ay bx b_y cx cy = 1
    · have k := (tri_ok (a := (ax, ay)) (b := (bx, b_y)) (c := (cx, cy))).2 hn
      have hv : 0 < daV [(ax, ay), (bx, b_y), (cx, cy)] := tri_area (a := (ax, ay)) (b := (bx, b_y)) (c := (cx, cy)) hn
      rw [decide_eq_true k] at HC
      clear k
      generalize daV [(ax, ay), (bx, b_y), (cx, cy)] = v at *
      have hd : decide (v > 0) = true := decide_eq_true hv
      rw [hn]
      go_wp2_with fail
      refine HC.out.mono ?_
      rintro e w3 ⟨rfl, B⟩
      have HB3 := Lib.hid (below_call HBn.out B)
      have HA3 := Lib.hid (HA.out _ (HP.out.next B))
      clear B
      go_wp2_with fail
      refine HA3.out.mono ?_
      rintro e w4 ⟨rfl, B⟩
      have HB4 := Lib.hid (below_call HB3.out B)
      clear B
      go_wp2_with fail
      refine (alive _).mono ?_
      rintro e w' ⟨rfl, rfl⟩
      go_wp2
      go_ret
      exact ⟨rfl, HB4.out⟩
    · have k : ¬ okCvx [(ax, ay), (bx, b_y), (cx, cy)] := fun q => hn ((tri_ok (a := (ax, ay)) (b := (bx, b_y)) (c := (cx, cy))).1 q)
      have hv := daV_no k
      rw [decide_eq_false k] at HC
      rw [hv] at HA
      have hd : (oriV ax ay bx b_y cx cy == 1) = false := by simpa using hn
      clear k hv
      go_wp2_with fail
      refine HC.out.mono ?_
      rintro e w3 ⟨rfl, B⟩
      have HB3 := Lib.hid (below_call HBn.out B)
      have HA3 := Lib.hid (HA.out _ (HP.out.next B))
      clear B
      go_wp2_with fail
      refine HA3.out.mono ?_
      rintro e w4 ⟨rfl, B⟩
      have HB4 := Lib.hid (below_call HB3.out B)
      clear B
      go_wp2_with fail
      refine (alive _).mono ?_
      rintro e w' ⟨rfl, rfl⟩
      go_wp2
      go_ret
      exact ⟨rfl, HB4.out⟩
end Go.Proofs.Ytkmopgdnaohcdaa
