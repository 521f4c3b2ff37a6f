/- The contracts of the functions on points, without the table of sines: what each returns, with nothing changed that was there. -/
import Derived.Test.YtcifokihellcdaaDoorBase
import Derived.Test.YtcifokihellcdaaDoorNum2
import Derived.Below
import Derived.Laws.StructEq
namespace Go.Proofs.YtcifokihellcdaaDoor
set_option maxRecDepth 100000
open Go.RowKit

/-- A point's value. -/
abbrev pt (x y : Int) : Value := .agg #[.int .i64 x, .int .i64 y]
theorem coordY (x : Int) (w : World) (h1 : -10000 ≤ x) (h2 : x ≤ 10000) :
    Calls Tryd.prog 108 #[.int .i64 x] w fun e w' => e = .returned (.bool true) ∧ w = w' := by
  go_enter Tryd.func108, Tryd.ntmps108
  go_wp2
  go_ret
  exact ⟨rfl, rfl⟩
theorem coordN (x : Int) (w : World) (h : ¬ okC x) :
    Calls Tryd.prog 108 #[.int .i64 x] w fun e w' => e = .returned (.bool false) ∧ w = w' := by
  unfold okC at h
  by_cases h1 : -10000 ≤ x
  · have h2 : decide (x ≤ 10000) = false := decide_eq_false (by omega)
    clear h
    go_enter Tryd.func108, Tryd.ntmps108
    go_wp2
    go_ret
    exact ⟨rfl, rfl⟩
  · clear h
    go_enter Tryd.func108, Tryd.ntmps108
    go_wp2
    go_ret
    exact ⟨rfl, rfl⟩
theorem validY (x y : Int) (w : World) (h : okP x y) :
    Calls Tryd.prog 103 #[pt x y] w fun e w' => e = .returned (.bool true) ∧ Below w.heap.size w w' := by
  obtain ⟨h1, h2, h3, h4⟩ := h
  have HB := Lib.hid ((Below.refl w.heap.size w).alloc (Nat.le_refl _) (.cells #[.int .i64 x, .int .i64 y] 34))
  go_enter Tryd.func103, Tryd.ntmps103
  go_wp2_with fail
  refine (coordY x _ h1 h2).mono ?_
  rintro e w' ⟨rfl, rfl⟩
  go_wp2_with fail
  refine (coordY y _ h3 h4).mono ?_
  rintro e w' ⟨rfl, rfl⟩
  go_wp2
  go_ret
  exact ⟨rfl, HB.out⟩
theorem validN (x y : Int) (w : World) (h : ¬ okP x y) :
    Calls Tryd.prog 103 #[pt x y] w fun e w' => e = .returned (.bool false) ∧ Below w.heap.size w w' := by
  have HB := Lib.hid ((Below.refl w.heap.size w).alloc (Nat.le_refl _) (.cells #[.int .i64 x, .int .i64 y] 34))
  by_cases hx : okC x
  · have hy : ¬ okC y := fun hy => h ⟨hx.1, hx.2, hy.1, hy.2⟩
    go_enter Tryd.func103, Tryd.ntmps103
    go_wp2_with fail
    refine (coordY x _ hx.1 hx.2).mono ?_
    rintro e w' ⟨rfl, rfl⟩
    go_wp2_with fail
    refine (coordN y _ hy).mono ?_
    rintro e w' ⟨rfl, rfl⟩
    go_wp2
    go_ret
    exact ⟨rfl, HB.out⟩
  · go_enter Tryd.func103, Tryd.ntmps103
    go_wp2_with fail
    refine (coordN x _ hx).mono ?_
    rintro e w' ⟨rfl, rfl⟩
    go_wp2
    go_ret
    exact ⟨rfl, HB.out⟩
theorem below_call {w w1 w2 : World} (h : Below w.heap.size w w1) (h2 : Below w1.heap.size w1 w2) : Below w.heap.size w w2 := h.trans (h2.mono h.size)
theorem below_box (w : World) (o : Obj) : Below w.heap.size w (w.alloc o) := (Below.refl w.heap.size w).alloc (Nat.le_refl _) o
theorem specPointValidY (x y : Int) (w : World) (h : okP x y) :
    Calls Tryd.prog 83 #[pt x y] w fun e w' => e = .returned (.bool true) ∧ Below w.heap.size w w' := by
  obtain ⟨h1, h2, h3, h4⟩ := h
  have HB := Lib.hid (below_box w (.cells #[.int .i64 x, .int .i64 y] 34))
  go_enter Tryd.func83, Tryd.ntmps83
  go_wp2_with fail
  refine (l1In_yes x (-10000) 10000 _ h1 h2).mono ?_
  rintro e w' ⟨rfl, rfl⟩
  go_wp2_with fail
  refine (l1In_yes y (-10000) 10000 _ h3 h4).mono ?_
  rintro e w' ⟨rfl, rfl⟩
  go_wp2
  go_ret
  exact ⟨rfl, HB.out⟩
theorem specPointValidN (x y : Int) (w : World) (h : ¬ okP x y) :
    Calls Tryd.prog 83 #[pt x y] w fun e w' => e = .returned (.bool false) ∧ Below w.heap.size w w' := by
  have HB := Lib.hid (below_box w (.cells #[.int .i64 x, .int .i64 y] 34))
  by_cases hx : okC x
  · have hy : ¬ okC y := fun hy => h ⟨hx.1, hx.2, hy.1, hy.2⟩
    go_enter Tryd.func83, Tryd.ntmps83
    go_wp2_with fail
    refine (l1In_yes x (-10000) 10000 _ hx.1 hx.2).mono ?_
    rintro e w' ⟨rfl, rfl⟩
    go_wp2_with fail
    refine (l1In_no y (-10000) 10000 _ (by unfold okC at hy; omega)).mono ?_
    rintro e w' ⟨rfl, rfl⟩
    go_wp2
    go_ret
    exact ⟨rfl, HB.out⟩
  · go_enter Tryd.func83, Tryd.ntmps83
    go_wp2_with fail
    refine (l1In_no x (-10000) 10000 _ (by unfold okC at hx; omega)).mono ?_
    rintro e w' ⟨rfl, rfl⟩
    go_wp2
    go_ret
    exact ⟨rfl, HB.out⟩
theorem specPointValid (x y : Int) (w : World) :
    Calls Tryd.prog 83 #[pt x y] w fun e w' => e = .returned (.bool (decide (okP x y))) ∧ Below w.heap.size w w' := by
  by_cases h : okP x y
  · rw [decide_eq_true h]; exact specPointValidY x y w h
  · rw [decide_eq_false h]; exact specPointValidN x y w h
theorem below_box2 (w : World) (a b : Obj) : Below w.heap.size w ((w.alloc a).alloc b) := below_call (below_box w a) (below_box _ b)
theorem below_box3 (w : World) (a b c : Obj) : Below w.heap.size w (((w.alloc a).alloc b).alloc c) := below_call (below_box2 w a b) (below_box _ c)
theorem below_box4 (w : World) (a b c d : Obj) : Below w.heap.size w ((((w.alloc a).alloc b).alloc c).alloc d) := below_call (below_box3 w a b c) (below_box _ d)
theorem toPoint (x y : Int) (w : World) :
    Calls Tryd.prog 74 #[pt x y] w fun e w' => e = .returned (pt x y) ∧ Below w.heap.size w w' := by
  go_enter Tryd.func74, Tryd.ntmps74
  go_wp2
  exact bodyPost_ret (v := pt x y) (by simp [results, Tryd.results74, go_sem]) rfl ⟨rfl, below_box3 _ _ _ _⟩
theorem eqPoint (x y : Int) (w : World) :
    Calls Tryd.prog 75 #[pt x y, pt x y] w fun e w' => e = .returned (.bool true) ∧ Below w.heap.size w w' := by
  have hx : (x != x) = false := by simp
  have hy : (y != y) = false := by simp
  go_enter Tryd.func75, Tryd.ntmps75
  go_wp2
  go_ret
  exact ⟨rfl, below_box2 _ _ _⟩
theorem minusP (px py qx qy : Int) (w : World) (h1 : -10000 ≤ px) (h2 : px ≤ 10000) (h3 : -10000 ≤ py) (h4 : py ≤ 10000) (h5 : -10000 ≤ qx) (h6 : qx ≤ 10000) (h7 : -10000 ≤ qy) (h8 : qy ≤ 10000) :
    Calls Tryd.prog 105 #[pt px py, pt qx qy] w fun e w' => e = .returned (pt (px - qx) (py - qy)) ∧ Below w.heap.size w w' := by
  go_enter Tryd.func105, Tryd.ntmps105
  go_wp2
  exact bodyPost_ret (v := pt (px - qx) (py - qy)) (by simp [results, Tryd.results105, go_sem]) rfl ⟨rfl, below_box3 _ _ _ _⟩
theorem plusP (px py qx qy : Int) (w : World) (h1 : -10000 ≤ px) (h2 : px ≤ 10000) (h3 : -10000 ≤ py) (h4 : py ≤ 10000) (h5 : -10000 ≤ qx) (h6 : qx ≤ 10000) (h7 : -10000 ≤ qy) (h8 : qy ≤ 10000) :
    Calls Tryd.prog 101 #[pt px py, pt qx qy] w fun e w' => e = .returned (pt (px + qx) (py + qy)) ∧ Below w.heap.size w w' := by
  go_enter Tryd.func101, Tryd.ntmps101
  go_wp2
  exact bodyPost_ret (v := pt (px + qx) (py + qy)) (by simp [results, Tryd.results101, go_sem]) rfl ⟨rfl, below_box3 _ _ _ _⟩
theorem cross (px py qx qy : Int) (w : World) (h1 : -20000 ≤ px) (h2 : px ≤ 20000) (h3 : -20000 ≤ py) (h4 : py ≤ 20000) (h5 : -20000 ≤ qx) (h6 : qx ≤ 20000) (h7 : -20000 ≤ qy) (h8 : qy ≤ 20000) :
    Calls Tryd.prog 106 #[pt px py, pt qx qy] w fun e w' => e = .returned (.int .i64 (px * qy - py * qx)) ∧ Below w.heap.size w w' := by
  obtain ⟨p0, p1⟩ := mul_bd8 h1 h2 h7 h8
  obtain ⟨q0, q1⟩ := mul_bd8 h3 h4 h5 h6
  go_enter Tryd.func106, Tryd.ntmps106
  go_wp2
  go_ret
  exact ⟨rfl, below_box2 _ _ _⟩
theorem floorDivide (n d : Int) (w : World) (hd : 0 < d) (h1 : -1000000000 ≤ n) (h2 : n ≤ 1000000000) (hd2 : d ≤ 1000000) :
    Calls Tryd.prog 116 #[.int .i64 n, .int .i64 d] w fun e w' => e = .returned (.int .i64 (flo n d)) ∧ w = w' := by
  obtain ⟨b1, b2⟩ := tdiv_bd n d hd h1 h2
  have hne : ¬ d = 0 := by omega
  by_cases h : n.tmod d < 0
  · have HE := Lib.hid (flo_neg n d hd h)
    go_enter Tryd.func116, Tryd.ntmps116
    go_wp2
    go_ret
    exact ⟨ret_int HE.out, rfl⟩
  · have HE := Lib.hid (flo_pos n d hd (by omega))
    go_enter Tryd.func116, Tryd.ntmps116
    go_wp2
    go_ret
    exact ⟨ret_int HE.out, rfl⟩
theorem l1Floor (n d : Int) (w : World) (hd : 0 < d) (h1 : -1000000000 ≤ n) (h2 : n ≤ 1000000000) (hd2 : d ≤ 1000000) :
    Calls Tryd.prog 98 #[.int .i64 n, .int .i64 d] w fun e w' => e = .returned (.int .i64 (flo n d)) ∧ w = w' := by
  obtain ⟨b1, b2⟩ := tdiv_bd n d hd h1 h2
  have hne : ¬ d = 0 := by omega
  by_cases h : n.tmod d < 0
  · have HE := Lib.hid (flo_neg n d hd h)
    go_enter Tryd.func98, Tryd.ntmps98
    go_wp2
    go_ret
    exact ⟨ret_int HE.out, rfl⟩
  · have HE := Lib.hid (flo_pos n d hd (by omega))
    go_enter Tryd.func98, Tryd.ntmps98
    go_wp2
    go_ret
    exact ⟨ret_int HE.out, rfl⟩
theorem isNaN (n : Int) (w : World) : Calls Tryd.prog 109 #[.int .i64 n] w fun e w' => e = .returned (.bool false) ∧ w = w' := by
  have h : (n != n) = false := by simp
  go_enter Tryd.func109, Tryd.ntmps109
  go_wp2
  go_ret
  exact ⟨rfl, rfl⟩
theorem compare0 (n : Int) (w : World) : Calls Tryd.prog 104 #[.int .i64 n, .int .i64 0] w fun e w' => e = .returned (.int .i64 (sgn n)) ∧ w = w' := by
  have HP := Lib.hid (sgn_pos n)
  have HN := Lib.hid (sgn_neg n)
  have HZ := Lib.hid (sgn_zero n)
  go_enter Tryd.func104, Tryd.ntmps104
  go_wp2_with fail
  refine (isNaN n _).mono ?_
  rintro e w' ⟨rfl, rfl⟩
  go_wp2_with fail
  refine (isNaN 0 _).mono ?_
  rintro e w' ⟨rfl, rfl⟩
  go_wp2
  all_goals
    go_ret
    exact ⟨ret_int (by first | (rw [HP.out (by omega)]) | (rw [HN.out (by omega)]) | (rw [HZ.out (by omega)])), rfl⟩
theorem l2Sign (n : Int) (w : World) : Calls Tryd.prog 69 #[.int .i64 n] w fun e w' => e = .returned (.int .i64 (sgn n)) ∧ w = w' := by
  have HP := Lib.hid (sgn_pos n)
  have HN := Lib.hid (sgn_neg n)
  have HZ := Lib.hid (sgn_zero n)
  go_enter Tryd.func69, Tryd.ntmps69
  go_wp2
  all_goals
    go_ret
    exact ⟨ret_int (by first | (rw [HP.out (by omega)]) | (rw [HN.out (by omega)]) | (rw [HZ.out (by omega)])), rfl⟩
theorem l2Cross (ax ay bx b_y cx cy : Int) (w : World) (ha : okP ax ay) (hb : okP bx b_y) (hc : okP cx cy) :
    Calls Tryd.prog 70 #[pt ax ay, pt bx b_y, pt cx cy] w fun e w' => e = .returned (.int .i64 (crossV ax ay bx b_y cx cy)) ∧ Below w.heap.size w w' := by
  obtain ⟨a1, a2, a3, a4⟩ := ha
  obtain ⟨b1, b2, b3, b4⟩ := hb
  obtain ⟨c1, c2, c3, c4⟩ := hc
  obtain ⟨p0, p1⟩ := mul_bd8 (x := bx - ax) (y := cy - ay) (by omega) (by omega) (by omega) (by omega)
  obtain ⟨q0, q1⟩ := mul_bd8 (x := b_y - ay) (y := cx - ax) (by omega) (by omega) (by omega) (by omega)
  have HE := Lib.hid (show (bx - ax) * (cy - ay) - (b_y - ay) * (cx - ax) = crossV ax ay bx b_y cx cy from rfl)
  go_enter Tryd.func70, Tryd.ntmps70
  go_wp2
  go_ret
  exact ⟨ret_int HE.out, below_box3 _ _ _ _⟩
theorem l2Square (ax ay bx b_y : Int) (w : World) (ha : okP ax ay) (hb : okP bx b_y) :
    Calls Tryd.prog 89 #[pt ax ay, pt bx b_y] w fun e w' => e = .returned (.int .i64 (sqV ax ay bx b_y)) ∧ Below w.heap.size w w' := by
  have HE := Lib.hid (sqV_in' ⟨ha, hb⟩)
  obtain ⟨a1, a2, a3, a4⟩ := ha
  obtain ⟨b1, b2, b3, b4⟩ := hb
  obtain ⟨p0, p1⟩ := mul_bd8 (x := ax - bx) (y := ax - bx) (by omega) (by omega) (by omega) (by omega)
  obtain ⟨q0, q1⟩ := mul_bd8 (x := ay - b_y) (y := ay - b_y) (by omega) (by omega) (by omega) (by omega)
  go_enter Tryd.func89, Tryd.ntmps89
  go_wp2
  go_ret
  exact ⟨ret_int HE.out.symm, below_box2 _ _ _⟩
end Go.Proofs.YtcifokihellcdaaDoor
