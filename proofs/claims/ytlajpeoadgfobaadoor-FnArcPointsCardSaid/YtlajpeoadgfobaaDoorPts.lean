/- The contracts of the functions on points, without the table of sines: what each returns, with nothing changed that was there. -/
import Derived.Test.YtlajpeoadgfobaaDoorBase
import Derived.Test.YtlajpeoadgfobaaDoorNum2
import Derived.Below
import Derived.Laws.StructEq
namespace Go.Proofs.YtlajpeoadgfobaaDoor
set_option maxRecDepth 100000
open Go.RowKit

/-- A point's value. -/
abbrev pt (x y : Int) : Value := .agg #[.int .i64 x, .int .i64 y]
theorem coordY (x : Int) (w : World) (h1 : -10000 ≤ x) (h2 : x ≤ 10000) :
    Calls Tryd.prog 37 #[.int .i64 x] w fun e w' => e = .returned (.bool true) ∧ w = w' := by
  go_enter Tryd.func37, Tryd.ntmps37
  go_wp2
  go_ret
  exact ⟨rfl, rfl⟩
theorem coordN (x : Int) (w : World) (h : ¬ okC x) :
    Calls Tryd.prog 37 #[.int .i64 x] w fun e w' => e = .returned (.bool false) ∧ w = w' := by
  unfold okC at h
  by_cases h1 : -10000 ≤ x
  · have h2 : decide (x ≤ 10000) = false := decide_eq_false (by omega)
    clear h
    go_enter Tryd.func37, Tryd.ntmps37
    go_wp2
    go_ret
    exact ⟨rfl, rfl⟩
  · clear h
    go_enter Tryd.func37, Tryd.ntmps37
    go_wp2
    go_ret
    exact ⟨rfl, rfl⟩
theorem validY (x y : Int) (w : World) (h : okP x y) :
    Calls Tryd.prog 26 #[pt x y] w fun e w' => e = .returned (.bool true) ∧ Below w.heap.size w w' := by
  obtain ⟨h1, h2, h3, h4⟩ := h
  have HB := Lib.hid ((Below.refl w.heap.size w).alloc (Nat.le_refl _) (.cells #[.int .i64 x, .int .i64 y] 24))
  go_enter Tryd.func26, Tryd.ntmps26
  go_wp2_with fail
  refine (coordY x _ h1 h2).mono ?_
  rintro e w' ⟨rfl, rfl⟩
  go_wp2_with fail
  refine (coordY y _ h3 h4).mono ?_
  rintro e w' ⟨rfl, rfl⟩
  go_wp2
  go_ret
  exact ⟨rfl, HB.out⟩
theorem validN (x y : Int) (w : World) (h : ¬ okP x y) :
    Calls Tryd.prog 26 #[pt x y] w fun e w' => e = .returned (.bool false) ∧ Below w.heap.size w w' := by
  have HB := Lib.hid ((Below.refl w.heap.size w).alloc (Nat.le_refl _) (.cells #[.int .i64 x, .int .i64 y] 24))
  by_cases hx : okC x
  · have hy : ¬ okC y := fun hy => h ⟨hx.1, hx.2, hy.1, hy.2⟩
    go_enter Tryd.func26, Tryd.ntmps26
    go_wp2_with fail
    refine (coordY x _ hx.1 hx.2).mono ?_
    rintro e w' ⟨rfl, rfl⟩
    go_wp2_with fail
    refine (coordN y _ hy).mono ?_
    rintro e w' ⟨rfl, rfl⟩
    go_wp2
    go_ret
    exact ⟨rfl, HB.out⟩
  · go_enter Tryd.func26, Tryd.ntmps26
    go_wp2_with fail
    refine (coordN x _ hx).mono ?_
    rintro e w' ⟨rfl, rfl⟩
    go_wp2
    go_ret
    exact ⟨rfl, HB.out⟩
theorem below_call {w w1 w2 : World} (h : Below w.heap.size w w1) (h2 : Below w1.heap.size w1 w2) : Below w.heap.size w w2 := h.trans (h2.mono h.size)
theorem below_box (w : World) (o : Obj) : Below w.heap.size w (w.alloc o) := (Below.refl w.heap.size w).alloc (Nat.le_refl _) o
theorem specPointValidY (x y : Int) (w : World) (h : okP x y) :
    Calls Tryd.prog 10 #[pt x y] w fun e w' => e = .returned (.bool true) ∧ Below w.heap.size w w' := by
  obtain ⟨h1, h2, h3, h4⟩ := h
  have HB := Lib.hid (below_box w (.cells #[.int .i64 x, .int .i64 y] 24))
  go_enter Tryd.func10, Tryd.ntmps10
  go_wp2_with fail
  refine (l1In_yes x (-10000) 10000 _ h1 h2).mono ?_
  rintro e w' ⟨rfl, rfl⟩
  go_wp2_with fail
  refine (l1In_yes y (-10000) 10000 _ h3 h4).mono ?_
  rintro e w' ⟨rfl, rfl⟩
  go_wp2
  go_ret
  exact ⟨rfl, HB.out⟩
theorem specPointValidN (x y : Int) (w : World) (h : ¬ okP x y) :
    Calls Tryd.prog 10 #[pt x y] w fun e w' => e = .returned (.bool false) ∧ Below w.heap.size w w' := by
  have HB := Lib.hid (below_box w (.cells #[.int .i64 x, .int .i64 y] 24))
  by_cases hx : okC x
  · have hy : ¬ okC y := fun hy => h ⟨hx.1, hx.2, hy.1, hy.2⟩
    go_enter Tryd.func10, Tryd.ntmps10
    go_wp2_with fail
    refine (l1In_yes x (-10000) 10000 _ hx.1 hx.2).mono ?_
    rintro e w' ⟨rfl, rfl⟩
    go_wp2_with fail
    refine (l1In_no y (-10000) 10000 _ (by unfold okC at hy; omega)).mono ?_
    rintro e w' ⟨rfl, rfl⟩
    go_wp2
    go_ret
    exact ⟨rfl, HB.out⟩
  · go_enter Tryd.func10, Tryd.ntmps10
    go_wp2_with fail
    refine (l1In_no x (-10000) 10000 _ (by unfold okC at hx; omega)).mono ?_
    rintro e w' ⟨rfl, rfl⟩
    go_wp2
    go_ret
    exact ⟨rfl, HB.out⟩
theorem specPointValid (x y : Int) (w : World) :
    Calls Tryd.prog 10 #[pt x y] w fun e w' => e = .returned (.bool (decide (okP x y))) ∧ Below w.heap.size w w' := by
  by_cases h : okP x y
  · rw [decide_eq_true h]; exact specPointValidY x y w h
  · rw [decide_eq_false h]; exact specPointValidN x y w h
theorem below_box2 (w : World) (a b : Obj) : Below w.heap.size w ((w.alloc a).alloc b) := below_call (below_box w a) (below_box _ b)
theorem below_box3 (w : World) (a b c : Obj) : Below w.heap.size w (((w.alloc a).alloc b).alloc c) := below_call (below_box2 w a b) (below_box _ c)
theorem below_box4 (w : World) (a b c d : Obj) : Below w.heap.size w ((((w.alloc a).alloc b).alloc c).alloc d) := below_call (below_box3 w a b c) (below_box _ d)
theorem toPoint (x y : Int) (w : World) :
    Calls Tryd.prog 14 #[pt x y] w fun e w' => e = .returned (pt x y) ∧ Below w.heap.size w w' := by
  go_enter Tryd.func14, Tryd.ntmps14
  go_wp2
  exact bodyPost_ret (v := pt x y) (by simp [results, Tryd.results14, go_sem]) rfl ⟨rfl, below_box3 _ _ _ _⟩
theorem eqPoint (x y : Int) (w : World) :
    Calls Tryd.prog 15 #[pt x y, pt x y] w fun e w' => e = .returned (.bool true) ∧ Below w.heap.size w w' := by
  have hx : (x != x) = false := by simp
  have hy : (y != y) = false := by simp
  go_enter Tryd.func15, Tryd.ntmps15
  go_wp2
  go_ret
  exact ⟨rfl, below_box2 _ _ _⟩
theorem plusP (px py qx qy : Int) (w : World) (h1 : -10000 ≤ px) (h2 : px ≤ 10000) (h3 : -10000 ≤ py) (h4 : py ≤ 10000) (h5 : -10000 ≤ qx) (h6 : qx ≤ 10000) (h7 : -10000 ≤ qy) (h8 : qy ≤ 10000) :
    Calls Tryd.prog 35 #[pt px py, pt qx qy] w fun e w' => e = .returned (pt (px + qx) (py + qy)) ∧ Below w.heap.size w w' := by
  go_enter Tryd.func35, Tryd.ntmps35
  go_wp2
  exact bodyPost_ret (v := pt (px + qx) (py + qy)) (by simp [results, Tryd.results35, go_sem]) rfl ⟨rfl, below_box3 _ _ _ _⟩
theorem floorDivide (n d : Int) (w : World) (hd : 0 < d) (h1 : -1000000000 ≤ n) (h2 : n ≤ 1000000000) (hd2 : d ≤ 1000000) :
    Calls Tryd.prog 46 #[.int .i64 n, .int .i64 d] w fun e w' => e = .returned (.int .i64 (flo n d)) ∧ w = w' := by
  obtain ⟨b1, b2⟩ := tdiv_bd n d hd h1 h2
  have hne : ¬ d = 0 := by omega
  by_cases h : n.tmod d < 0
  · have HE := Lib.hid (flo_neg n d hd h)
    go_enter Tryd.func46, Tryd.ntmps46
    go_wp2
    go_ret
    exact ⟨ret_int HE.out, rfl⟩
  · have HE := Lib.hid (flo_pos n d hd (by omega))
    go_enter Tryd.func46, Tryd.ntmps46
    go_wp2
    go_ret
    exact ⟨ret_int HE.out, rfl⟩
theorem l1Floor (n d : Int) (w : World) (hd : 0 < d) (h1 : -1000000000 ≤ n) (h2 : n ≤ 1000000000) (hd2 : d ≤ 1000000) :
    Calls Tryd.prog 49 #[.int .i64 n, .int .i64 d] w fun e w' => e = .returned (.int .i64 (flo n d)) ∧ w = w' := by
  obtain ⟨b1, b2⟩ := tdiv_bd n d hd h1 h2
  have hne : ¬ d = 0 := by omega
  by_cases h : n.tmod d < 0
  · have HE := Lib.hid (flo_neg n d hd h)
    go_enter Tryd.func49, Tryd.ntmps49
    go_wp2
    go_ret
    exact ⟨ret_int HE.out, rfl⟩
  · have HE := Lib.hid (flo_pos n d hd (by omega))
    go_enter Tryd.func49, Tryd.ntmps49
    go_wp2
    go_ret
    exact ⟨ret_int HE.out, rfl⟩
end Go.Proofs.YtlajpeoadgfobaaDoor
