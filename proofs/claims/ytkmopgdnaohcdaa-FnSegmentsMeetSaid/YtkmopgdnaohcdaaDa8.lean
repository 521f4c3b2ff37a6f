/- The program's doubled area. -/
import Derived.Test.YtkmopgdnaohcdaaSm8
namespace Go.Proofs.Ytkmopgdnaohcdaa
set_option maxRecDepth 100000
open Go.RowKit Go.Shelf
attribute [local go_sem] Oper.semAt_some
/-- What lay below n lies as it lay, but for block B. -/
def KeepBut8 (n B : Nat) (W W' : World) : Prop := W.heap.size ≤ W'.heap.size ∧ ∀ k, k < n → k ≠ B → W'.heap[k]? = W.heap[k]?
theorem KeepBut8.trans {n B : Nat} {X Y Z : World} (h : KeepBut8 n B X Y) (k : KeepBut8 n B Y Z) : KeepBut8 n B X Z := ⟨Nat.le_trans h.1 k.1, fun i hi hne => (k.2 i hi hne).trans (h.2 i hi hne)⟩
theorem KeepBut8.set (n B : Nat) (W : World) (v : Value) : KeepBut8 n B W (W.setCell ⟨B, 0, none⟩ v) := ⟨(KeepsOthers.setCell W _ v).size, fun k _ hne => Below.heap_setCell W ⟨B, 0, none⟩ v k hne⟩
theorem KeepBut8.put {n B : Nat} (W : World) (l : Nat) (o o' : Obj) (hl : n ≤ l) (_h : W.heap[l]? = some o) : KeepBut8 n B W (W.putObj l o') := ⟨by simp, fun k hk _ => World.putObj_heap_other (by omega)⟩
theorem KeepBut8.of {n B : Nat} {W W' : World} (h : Below W.heap.size W W') (hn : n ≤ W.heap.size) : KeepBut8 n B W W' := ⟨h.size, fun k hk _ => h.block k (by omega)⟩
/-- An edge between valid points. -/
abbrev QP := { x : EP // okQ x.1 ∧ okQ x.2 }
def areaX (x : QP) : Int := x.1.1.1 * x.1.2.2 - x.1.1.2 * x.1.2.1
def sumX : List QP → Int
  | [] => 0
  | x :: xs => areaX x + sumX xs
theorem sumX_snoc (xs : List QP) (x : QP) : sumX (xs ++ [x]) = sumX xs + areaX x := by
  induction xs with
  | nil => simp [sumX]
  | cons y ys ih => simp only [List.cons_append, sumX, ih]; omega
theorem areaX_bd (x : QP) : -800000000 ≤ areaX x ∧ areaX x ≤ 800000000 := okQ.mul x.2.1 x.2.2
theorem sumX_bd : ∀ xs : List QP, -(800000000 * (xs.length : Int)) ≤ sumX xs ∧ sumX xs ≤ 800000000 * (xs.length : Int)
  | [] => by simp [sumX]
  | x :: xs => by
    have h := sumX_bd xs
    have k := areaX_bd x
    simp only [sumX, List.length_cons]
    omega
theorem okQ0 : okQ (0, 0) := by unfold okQ okP; simp
open Classical in
noncomputable def edgeQ (ps : List P2) (hp : okPts ps) (i : Nat) : QP := if h : i < ps.length then ⟨(cor ps i, cor ps (nx ps i)), hp.cor h, hp.cor (nx_lt h)⟩ else ⟨((0, 0), (0, 0)), okQ0, okQ0⟩
theorem edgeQ_in {ps : List P2} {hp : okPts ps} {i : Nat} (h : i < ps.length) : (edgeQ ps hp i).1 = (cor ps i, cor ps (nx ps i)) := by unfold edgeQ; rw [dif_pos h]
theorem sumX_range {ps : List P2} (hp : okPts ps) : ∀ m, m ≤ ps.length → sumX ((List.range m).map (edgeQ ps hp)) = sumE ps (0, 0) m := by
  intro m
  induction m with
  | zero => intro _; rfl
  | succ m ih =>
    intro h
    rw [List.range_succ, List.map_append, List.map_cons, List.map_nil, sumX_snoc, ih (by omega)]
    show sumE ps (0, 0) m + areaX (edgeQ ps hp m) = sumE ps (0, 0) m + cr (0, 0) (cor ps m) (cor ps (nx ps m))
    unfold areaX cr
    rw [edgeQ_in (by omega)]
    simp only [Int.sub_zero]
set_option maxHeartbeats 2000000 in
theorem areaC (a : Option Addr) (len cap : Nat) (ps : List P2) (w : World) (hp : PL w a len ps) (hl : len ≤ 1000) (hk : okPts ps) (h1 : 1 ≤ len) :
    Calls Try.prog 64 #[.slice a len cap] w fun e w' => e = .returned (.int .i64 (loopSum ps (0, 0))) ∧ Below w.heap.size w w' := by
  refine (callsIn_wide (n := 9)).1 ?_
  have HLE := Lib.hid hp.1
  have HOK := Lib.hid hk
  have HV := Lib.hid (show sumX ((List.range ps.length).map (edgeQ ps hk)) = loopSum ps (0, 0) by rw [sumX_range hk _ (Nat.le_refl _), sumE_loop _ (by rw [← hp.1]; exact h1)])
  have HB := Lib.hid (below_box w (.cells #[.int .i64 0] 3))
  have HP := Lib.hid (hp.next HB.out)
  have HR := Lib.hid (Cells8.new w #[.int .i64 0] 3)
  have HPB := Lib.hid (show ∀ b o, a = some ⟨b, o, none⟩ → b < w.heap.size from fun b o e => by
    rw [e] at hp
    obtain ⟨b', o', e2, lt, _⟩ := hp.somes h1
    simp only [Option.some.injEq, Addr.mk.injEq, and_true] at e2
    rw [e2.1]; exact lt)
  clear hp
  refine callsIn_of_wp_marks Try.func64 rfl trivial ?_ rfl
  simp only [Try.ntmps64, List.size_toArray, List.length_cons, List.length_nil, Nat.reduceAdd, Nat.reduceSub, Array.replicate_succ, Array.replicate_zero, List.push_toArray, List.append_toArray, List.nil_append, List.cons_append]
  gi_wp2
  generalize w.alloc (.cells #[.int .i64 0] 3) = w2 at *
  refine ⟨trivial, ?_⟩
  refine (callsIn_wide.2 (edgesC a len cap ps w2 HP.out)).mono ?_
  rintro e w3 ⟨Bp, rfl, S3, B3, k1⟩
  have HS3 := Lib.hid S3
  have HR3 := Lib.hid (HR.out.next B3)
  have HB3 := Lib.hid (below_call HB.out B3)
  have hs2 := HR.out.lt
  have hs3 := B3.size
  clear S3 B3 HR HB HP
  gi_wp2
  refine wpIn_rangeFunc_ownH rfl (by omega) (gf := 101) (lb := #[.pointer (some ⟨Bp, 0, none⟩)]) rfl trivial (fun args w => by kernel_rfl)
    (edgesStopsG (fun x : QP => encE x.1) (edgeQ ps HOK.out) (KeepBut8 w3.heap.size w.heap.size) Bp a len cap ps w3 (fun _ _ hk h => h.keep hk.1 (hk.2 _ HS3.out.box.lt (by omega)) (fun _ b o e => hk.2 _ (by have := HPB.out b o e; omega) (by have := HPB.out b o e; omega))) HS3.out (by omega) (fun i hi => by rw [edgeQ_in hi]) 8)
    KeepBut8.trans (fun W l o o' hl h _ _ => KeepBut8.put W l o o' hl h) (Below.refl _ _) (fun _ => rfl)
    (fun pre W => Cells8 W w.heap.size #[.int .i64 (sumX pre)] 3 ∧ Below w.heap.size w W ∧ w3.heap.size ≤ W.heap.size)
    (fun _ _ _ => False)
    (OwnFrom.and (Own.from (cells8_own _ _ (fun pre => #[.int .i64 (sumX pre)])) _) (OwnFrom.and (ownFrom_below (Nat.le_refl _) (by omega)) (fun _ _ _ _ hs hg _ => Nat.le_trans hs hg.size)))
    (fun _ _ _ _ _ hs _ _ => hs)
    ⟨HR3.out, HB3.out, Nat.le_refl _⟩
    (fun x a' W => ∃ B1 B2, Ends W w3.heap.size x.1 B1 B2 ∧ a' = { tmps := #[.slice a len cap, undef, .int .i64 0, .pointer (some ⟨w.heap.size, 0, none⟩), .pointer (some ⟨B1, 0, none⟩), .pointer (some ⟨B2, 0, none⟩), .slice a len cap, .func (.func 101) #[] #[.pointer (some ⟨Bp, 0, none⟩)], pt x.1.1.1 x.1.1.2, pt x.1.2.1 x.1.2.2, undef, undef, undef, undef, undef, undef], defers := [] })
    (fun x a' _ X Y row hs hg hr => by obtain ⟨B1, B2, h1, h2⟩ := hs; exact ⟨B1, B2, ends_own () X Y row h1 hg hr, h2⟩)
    ?assign ?body ?done ?stop
  case assign =>
    rintro l pre x W K ⟨h1, h2, h3⟩ hK
    have hsz := h2.size
    have hlt := h1.lt
    have HB2 := below_box2 W (.cells #[.int .i64 x.1.1.1, .int .i64 x.1.1.2] 28) (.cells #[.int .i64 x.1.2.1, .int .i64 x.1.2.2] 28)
    have HK := Lib.hid (hK _ _ ((keepsBelow8 HB2).from _) (KeepBut8.of HB2 h3) ⟨h1.next HB2, below_call h2 HB2, Nat.le_trans h3 HB2.size⟩ ⟨W.heap.size, W.heap.size + 1, Ends.new W h3 x.1, rfl⟩)
    clear hK h1 h2 h3 HB2
    gi_wp2
    exact HK.out
  case body =>
    rintro l pre x a' W hl ⟨r', hr⟩ ⟨h1, h2, h3⟩ ⟨B1, B2, E, rfl⟩ hlen
    have HE := Lib.hid E
    have H1 := Lib.hid h1
    have H2 := Lib.hid h2
    have H3 := Lib.hid h3
    have hlen2 : pre.length < 1000 := by have := HLE.out; omega
    have sb := sumX_bd pre
    have sx := areaX_bd x
    have HS := Lib.hid (sumX_snoc pre x)
    obtain ⟨o1, o2⟩ := x.2
    unfold okQ okP at o1 o2
    have HC := Lib.hid (fun u => show Calls Try.prog 82 #[pt x.1.1.1 x.1.1.2, pt x.1.2.1 x.1.2.2] u fun e w' => e = .returned (.int .i64 (areaX x)) ∧ Below u.heap.size u w' from cross _ _ _ _ u (by omega) (by omega) (by omega) (by omega) (by omega) (by omega) (by omega) (by omega))
    clear h1 h2 h3 E hlen hr o1 o2
    have s1 : -800000000000 ≤ sumX pre := by omega
    have s2 : sumX pre ≤ 800000000000 := by omega
    have s3 := sx.1
    have s4 := sx.2
    clear sb sx
    generalize areaX x = v at *
    generalize sumX pre = s at *
    have HCK := Lib.hid (fun (q : Kept W) => keptCall (HC.out q.u))
    have u0 := keptCell H1.out.lt (H1.out.cell (i := 0) rfl)
    obtain ⟨u1, u2⟩ := HE.out.p1.kepts
    obtain ⟨u3, u4⟩ := HE.out.p2.kepts
    refine wpIn_block ?_
    refine wpIn_region_tailR 5 (by kernel_rfl) (by kernel_rfl) (by kernel_rfl) ?_
    simp only [List.take_succ_cons, List.take_zero, List.drop_succ_cons, List.drop_zero]
    repeat (go_big_quiet_step ((go_at_call 82; exact HCK.out _)))
    refine wpQuiet_nil ?_
    rintro w5 ⟨⟨_, K5⟩, rfl⟩
    have HR5 := Lib.hid (H1.out.next K5)
    have r0 := HR5.out.cell (i := 0) rfl
    have f0 := HR5.out.frozen (i := 0)
    clear u0 u1 u2 u3 u4 HCK
    gi_wp2
    exact ⟨((keepsBelow8 K5).trans (KeepsOthers.setCell _ _ _)).from _, (KeepBut8.of K5 H3.out).trans (KeepBut8.set _ _ _ _), by rw [HS.out]; exact HR5.out.set 0 _, (below_call H2.out K5).setCell (p := ⟨w.heap.size, 0, none⟩) (Nat.le_refl _) _, Nat.le_trans H3.out (Nat.le_trans K5.size (KeepsOthers.setCell _ _ _).size)⟩
  case done =>
    rintro D ys W hD rfl ⟨h1, h2, h3⟩ hK
    rw [HV.out] at h1
    have HRW := Lib.hid h1
    have HBW := Lib.hid h2
    have HK := Lib.hid hK
    have HD := Lib.hid hD
    have r0 := h1.cell (i := 0) rfl
    clear h1 h2 h3 hK hD
    gi_wp2
    refine ⟨by simp, .inl ⟨_, _, rfl, run_takeDeferred HK.out, ?_⟩⟩
    exact ⟨.int .i64 (loopSum ps (0, 0)), by simp [results, Try.results64, go_sem], rfl, HBW.out.trans (belowK_b (w := w) (Nat.le_refl _) _ D _ _ (by have := HD.out; omega) HK.out rfl rfl)⟩
  case stop =>
    rintro D c pre W _ _ h _
    exact h.elim
end Go.Proofs.Ytkmopgdnaohcdaa
