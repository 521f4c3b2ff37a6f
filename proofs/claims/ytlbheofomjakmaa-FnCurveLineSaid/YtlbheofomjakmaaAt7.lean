/- The program's curveAt: a point of a curve, worked out in place on an array of four points. -/
import Derived.Test.YtlbheofomjakmaaCv7
import Derived.Laws.CopyOwn
import Derived.Deep.DeepCutAuto
namespace Go.Proofs.Ytlbheofomjakmaa
set_option maxRecDepth 100000
open Go.RowKit
attribute [local go_sem ↓] Go.wp_at_zero Go.wp_at_succ
/-- copy of elements of two cells. -/
theorem run_copy_row2 {P : Program} (w : World) (dT sT ty elem : TypeId) (g o dLen dCap : Nat) (a : Addr) (sLen sCap : Nat) (cur : Array Value) (t : TypeId) (cs : List Value)
    (hu : P.underlying dT = some (.slice elem)) (hs : (P.info? elem).map (·.size) = some 2)
    (hg : w.heap[g]? = some (.cells cur t (0, 0))) (hn : cs.length = Nat.min sLen dLen * 2)
    (hsrc : ∀ j v, cs[j]? = some v → w.cell? (a.add j) = some v) (hfit : o + cs.length ≤ cur.size) (h1 : ∀ v ∈ cs, v.oneCell' = true) :
    (Builtin.copy_ #[dT, sT] ty #[.slice (some ⟨g, o, none⟩) dLen dCap, .slice (some a) sLen sCap]).run P w =
      .ok (goInt (Nat.min sLen dLen)) (w.setRow g (cur.toList.take o ++ cs ++ cur.toList.drop (o + cs.length)).toArray) := by
  have hl := run_loadCells_list (P := P) w a cs hsrc
  have hst := run_storeCells_at P g o t cs 0 cur w hg (by simpa using hfit) h1
  cases hq : P.info? elem with
  | none => simp [hq] at hs
  | some i =>
    have hi : i.size = 2 := by simpa [hq] using hs
    simp [Builtin.copy_, run_underlying hu, Builtin.lenOf, Builtin.firstCells, sizeOf, typeInfo, hq, hi, ← hn, hl, hst]
theorem wpList_copy2 {P : Program} {w : World} {ops : Array Oper} {rest : List Oper} {o : Oper} {a : Act} {Q : Exit → Act → World → Prop} (hgd : o.guard = none) (d s : Operand) (dT sT : TypeId)
    (ho : o.op = .call { callee := .builtin .copy, args := #[d, s], argTypes := #[dT, sT] }) (elem : TypeId) (hu : P.underlying dT = some (.slice elem)) (hsz : (P.info? elem).map (·.size) = some 2)
    (g off dLen dCap : Nat) (ad : Addr) (sLen sCap : Nat) (hd : a.eval d = .slice (some ⟨g, off, none⟩) dLen dCap) (hs : a.eval s = .slice (some ad) sLen sCap)
    (cur : List Value) (t : TypeId) (hg : w.heap[g]? = some (.cells cur.toArray t (0, 0))) (cs : List Value) (hn : cs.length = Nat.min sLen dLen * 2)
    (hsrc : ∀ j v, cs[j]? = some v → w.cell? (ad.add j) = some v) (hfit : off + cs.length ≤ cur.length) (h1 : ∀ v ∈ cs, v.oneCell' = true) (B : Nat) (w0 : World) (hb : Below B w0 w) (hBg : B ≤ g)
    (h : ∀ w', Hid (w'.heap[g]? = some (.cells (splice cur off cs).toArray t (0, 0))) → Below B w0 w' → wpList P ops Q rest (a.put o.dst (goInt (Nat.min sLen dLen))) w') :
    wpList P ops Q (o :: rest) a w := by
  refine wpList_plain hgd fun K hK => ?_
  have hrun := run_copy_row2 (P := P) w dT sT o.type elem g off dLen dCap ad sLen sCap cur.toArray t cs hu hsz hg hn hsrc (by simpa using hfit) h1
  unfold Oper.wp
  simp [execOp, ho, resolve, invoke, builtin, hd, hs, hrun, Result.andThen]
  exact hK _ _ (h _ (show _ = _ by simpa [splice] using setRow_heap w g _ _ t _ hg) (below_setRow hb hBg _))
/-- Eight numbers as values. -/
def arr8 (g : Nat → Int) : List Value := (List.range 8).map fun (j : Nat) => Value.int .i64 (g j)
theorem arr8_at (g : Nat → Int) (j : Nat) (h : j < 8) : (arr8 g)[j]? = some (.int .i64 (g j)) := by
  unfold arr8; rw [List.getElem?_map, List.getElem?_range h]; rfl
theorem arr8_len (g : Nat → Int) : (arr8 g).length = 8 := by simp [arr8]
theorem arr8_set (g : Nat → Int) (j : Nat) (v : Int) : (arr8 g).set j (.int .i64 v) = arr8 (fun i => if i = j then v else g i) := by
  apply List.ext_getElem?
  intro i
  rw [List.getElem?_set, arr8_len]
  by_cases hi : i < 8
  · rw [arr8_at g i hi, arr8_at _ i hi]
    by_cases hj : j = i
    · subst hj; rw [if_pos rfl, if_pos hi, if_pos rfl]
    · rw [if_neg hj, if_neg (fun e => hj e.symm)]
  · rw [List.getElem?_eq_none (by rw [arr8_len]; omega), List.getElem?_eq_none (by rw [arr8_len]; omega)]
    split
    · rw [if_neg (by omega)]
    · rfl
/-- The array in block b holds the numbers g. -/
def Arr (w : World) (b : Nat) (g : Nat → Int) (T : TypeId) : Prop := w.heap[b]? = some (.cells (arr8 g).toArray T (0, 0))
theorem Arr.lt {w : World} {b : Nat} {g : Nat → Int} {T : TypeId} (h : Arr w b g T) : b < w.heap.size := (Array.getElem?_eq_some_iff.1 h).1
theorem Arr.cell {w : World} {b : Nat} {g : Nat → Int} {T : TypeId} (h : Arr w b g T) (j : Nat) (hj : j < 8) : w.cell? ⟨b, j, none⟩ = some (.int .i64 (g j)) := by
  unfold Arr at h
  simp [World.cell?, h, arr8_at g j hj]
theorem Arr.free {w : World} {b : Nat} {g : Nat → Int} {T : TypeId} (h : Arr w b g T) (j : Nat) : w.frozen? ⟨b, j, none⟩ = false := by
  unfold Arr at h
  simp [World.frozen?, h]
theorem Arr.set {w : World} {b : Nat} {g : Nat → Int} {T : TypeId} (h : Arr w b g T) (j : Nat) (v : Int) : Arr (w.setCell ⟨b, j, none⟩ (.int .i64 v)) b (fun i => if i = j then v else g i) T := by
  unfold Arr
  rw [setCell_eq_setRow w b j _ T (0, 0) _ h, setRow_heap w b _ _ T _ h, ← arr8_set]
  simp
theorem Arr.next {w w' : World} {b : Nat} {g : Nat → Int} {T : TypeId} (h : Arr w b g T) (hb : Below w.heap.size w w') : Arr w' b g T := (hb.block b h.lt).trans h
/-- The rows of the scheme: the first k points are of row l + 1, the others of row l. -/
def Lev (t : Int) (X Y : Nat → Int) (n l k : Nat) (g : Nat → Int) : Prop :=
  (∀ i, i < k → g (i * 2) = cas t X (l + 1) i ∧ g (i * 2 + 1) = cas t Y (l + 1) i) ∧ ∀ i, k ≤ i → i + l < n → g (i * 2) = cas t X l i ∧ g (i * 2 + 1) = cas t Y l i
theorem Lev.step {t : Int} {X Y : Nat → Int} {n l k : Nat} {g : Nat → Int} (h : Lev t X Y n l k g) :
    Lev t X Y n l (k + 1) (fun i => if i = k * 2 + 1 then cas t Y (l + 1) k else (fun i => if i = k * 2 then cas t X (l + 1) k else g i) i) := by
  refine ⟨fun i hi => ?_, fun i h1 h2 => ?_⟩
  · by_cases e : i = k
    · subst e
      exact ⟨by simp, by simp⟩
    · obtain ⟨a, b⟩ := h.1 i (by omega)
      refine ⟨?_, ?_⟩
      · simp only; rw [if_neg (by omega), if_neg (by omega)]; exact a
      · simp only; rw [if_neg (by omega), if_neg (by omega)]; exact b
  · obtain ⟨a, b⟩ := h.2 i (by omega) h2
    refine ⟨?_, ?_⟩
    · simp only; rw [if_neg (by omega), if_neg (by omega)]; exact a
    · simp only; rw [if_neg (by omega), if_neg (by omega)]; exact b
theorem Lev.up {t : Int} {X Y : Nat → Int} {n l k : Nat} {g : Nat → Int} (h : Lev t X Y n l k g) (hk : n ≤ k + (l + 1)) : Lev t X Y n (l + 1) 0 g :=
  ⟨fun i hi => absurd hi (by omega), fun i _ h2 => h.1 i (by omega)⟩
/-- What curveAt holds: its array, its result, and all that lay before. -/
structure CSt (w : World) (T : TypeId) (g : Nat → Int) (u : World) : Prop where
  arr : Arr u (w.heap.size + 1) g T
  res : OwnP u w.heap.size 0 0
  bel : Below w.heap.size w u
theorem CSt.next {w u u' : World} {T : TypeId} {g : Nat → Int} (h : CSt w T g u) (hb : Below u.heap.size u u') : CSt w T g u' := ⟨h.arr.next hb, h.res.next hb, below_call h.bel hb⟩
theorem CSt.set2 {w u : World} {T : TypeId} {g : Nat → Int} (h : CSt w T g u) (j : Nat) (x y : Int) :
    CSt w T (fun i => if i = j + 1 then y else (fun i => if i = j then x else g i) i) ((u.setCell ⟨w.heap.size + 1, j, none⟩ (.int .i64 x)).setCell ⟨w.heap.size + 1, j + 1, none⟩ (.int .i64 y)) := by
  have h1 := (h.arr.set j x).set (j + 1) y
  refine ⟨h1, ?_, (h.bel.setCell (p := ⟨w.heap.size + 1, j, none⟩) (by show _ ≤ w.heap.size + 1; omega) _).setCell (p := ⟨w.heap.size + 1, j + 1, none⟩) (by show _ ≤ w.heap.size + 1; omega) _⟩
  have hc : w.heap.size + 1 ≠ w.heap.size := by omega
  exact ⟨⟨by simpa [World.setCell] using h.res.lt, (World.cell?_setCell_far _ _ _ _ hc).trans ((World.cell?_setCell_far _ _ _ _ hc).trans h.res.c0), (World.cell?_setCell_far _ _ _ _ hc).trans ((World.cell?_setCell_far _ _ _ _ hc).trans h.res.c1)⟩,
    ((World.frozen?_setCell _ _ _ _).trans (World.frozen?_setCell _ _ _ _)).trans h.res.z0, ((World.frozen?_setCell _ _ _ _).trans (World.frozen?_setCell _ _ _ _)).trans h.res.z1⟩
/-- The same, the numbers left open, with the rows that they are of. -/
def CLev (w : World) (T : TypeId) (t : Int) (X Y : Nat → Int) (n l k : Nat) (u : World) : Prop := ∃ g, CSt w T g u ∧ Lev t X Y n l k g
theorem pvals_one (ps : List (Int × Int)) : ∀ v ∈ pvals ps, v.oneCell' = true := by
  intro v hv
  unfold pvals at hv
  obtain ⟨j, _, rfl⟩ := List.mem_map.1 hv
  rfl
theorem pts_news {w : World} {b len : Nat} {ps : List (Int × Int)} (h : PtsAt w (some ⟨b, 0, none⟩) len ps) : ∀ j v, (pvals ps)[j]? = some v → w.cell? ((⟨b, 0, none⟩ : Addr).add j) = some v := by
  intro j v hv
  have hj : j < ps.length * 2 := by have := (List.getElem?_eq_some_iff.1 hv).1; rwa [pvals_len] at this
  rw [pvals_at ps j hj] at hv
  injection hv with hv
  subst hv
  obtain ⟨b', e, _, hc⟩ := h.some (by have := h.1; omega)
  simp only [Option.some.injEq, Addr.mk.injEq, and_true] at e
  subst e
  have hc := hc (j / 2) (by have := h.1; omega)
  have ha : (⟨b, 0, none⟩ : Addr).add j = ⟨b, j, none⟩ := by unfold Addr.add; split <;> simp_all
  rw [ha]
  unfold cz
  by_cases hm : j % 2 = 0
  · rw [if_pos hm]; rw [show j / 2 * 2 = j by omega] at hc; exact hc.1
  · rw [if_neg hm]; rw [show j / 2 * 2 + 1 = j by omega] at hc; exact hc.2
/-- The array behind the copy. -/
theorem splice8 (ps : List (Int × Int)) (h : ps.length ≤ 4) : splice (arr8 fun _ => 0) 0 (pvals ps) = arr8 (cz ps) := by
  apply List.ext_getElem?
  intro i
  unfold splice
  rw [List.take_zero, List.nil_append]
  by_cases hi : i < 8
  · rw [arr8_at _ i hi]
    by_cases hp : i < ps.length * 2
    · rw [List.getElem?_append_left (by rw [pvals_len]; exact hp), pvals_at ps i hp]
    · rw [List.getElem?_append_right (by rw [pvals_len]; omega), List.getElem?_drop, pvals_len, show 0 + ps.length * 2 + (i - ps.length * 2) = i by omega, arr8_at _ i hi]
      unfold cz
      rw [List.getD_eq_getElem?_getD, List.getElem?_eq_none (by omega)]
      split <;> rfl
  · rw [List.getElem?_eq_none (by simp [pvals_len, arr8_len]; omega), List.getElem?_eq_none (by rw [arr8_len]; omega)]
theorem Lev.start (t : Int) (ps : List (Int × Int)) (n : Nat) : Lev t (pX ps) (pY ps) n 0 0 (cz ps) :=
  ⟨fun i hi => absurd hi (by omega), fun i _ _ => ⟨cz0 ps i, cz1 ps i⟩⟩
set_option maxHeartbeats 4000000 in
theorem curveAt (a : Option Addr) (len cap : Nat) (ps : List (Int × Int)) (t : Int) (w : World) (h : PtsAt w a len ps) (hk : okCurve ps) (t0 : 0 ≤ t) (t1 : t ≤ 64) :
    Calls Try.prog 44 #[.slice a len cap, .int .i64 t] w fun e w' => e = .returned (pt (curX ps t) (curY ps t)) ∧ Below w.heap.size w w' := by
  have hle := h.1
  have n1 := hk.1
  have n4 := hk.2.1
  obtain ⟨b, rfl, lt, _⟩ := h.some (by omega)
  have HB := Lib.hid (below_box2 w (.cells #[.int .i64 0, .int .i64 0] 31) (.cells #[.int .i64 0, .int .i64 0, .int .i64 0, .int .i64 0, .int .i64 0, .int .i64 0, .int .i64 0, .int .i64 0] 64))
  have HN := Lib.hid (pts_news (h.next HB.out))
  have HLL := Lib.hid (show (pvals ps).length = Nat.min len 4 * 2 by rw [pvals_len, show len.min 4 = len from Nat.min_eq_left (by omega), hle])
  have HL8 := Lib.hid (show 0 + (pvals ps).length ≤ (arr8 fun _ => 0).length by rw [pvals_len, arr8_len]; omega)
  have HG := Lib.hid (show ((w.alloc (.cells #[.int .i64 0, .int .i64 0] 31)).alloc (.cells #[.int .i64 0, .int .i64 0, .int .i64 0, .int .i64 0, .int .i64 0, .int .i64 0, .int .i64 0, .int .i64 0] 64)).heap[w.heap.size + 1]? = some (.cells (arr8 fun _ => 0).toArray 64 (0, 0)) by
    show (((w.alloc (.cells #[.int .i64 0, .int .i64 0] 31)).heap.push (.cells #[.int .i64 0, .int .i64 0, .int .i64 0, .int .i64 0, .int .i64 0, .int .i64 0, .int .i64 0, .int .i64 0] 64)))[w.heap.size + 1]? = _
    have e : (w.alloc (.cells #[.int .i64 0, .int .i64 0] 31)).heap.size = w.heap.size + 1 := by simp
    rw [← e, Array.getElem?_push_size]
    rfl)
  have HSP := Lib.hid (splice8 ps n4)
  have HR := Lib.hid ((OwnP.box w 0 0 31).next (below_box _ (.cells #[.int .i64 0, .int .i64 0, .int .i64 0, .int .i64 0, .int .i64 0, .int .i64 0, .int .i64 0, .int .i64 0] 64)))
  have HBX := Lib.hid (fun l i => cas_bdX hk.2.2 t0 t1 l i)
  have HBY := Lib.hid (fun l i => cas_bdY hk.2.2 t0 t1 l i)
  have HS := Lib.hid (Lev.start t ps len)
  have HE := Lib.hid (show rndS (cas t (pX ps) (len - 1) 0) (sc (len - 1)) = curX ps t ∧ rndS (cas t (pY ps) (len - 1) 0) (sc (len - 1)) = curY ps t by rw [hle]; exact ⟨rfl, rfl⟩)
  rw [← hle] at n1 n4
  clear h hk
  go_enter Try.func44, Try.ntmps44
  go_upto_region 3 with (with_reducible refine wpList_copy2 rfl (.tmp 9) (.tmp 10) 23 23 rfl 31 Try.underlying23 (by kernel_rfl) (w.heap.size + 1) 0 4 4 ⟨b, 0, none⟩ len cap rfl rfl (arr8 fun _ => 0) 64 HG.out (pvals ps) HLL.out HN.out HL8.out (pvals_one ps) (w.heap.size + 1) ((w.alloc (.cells #[.int .i64 0, .int .i64 0] 31)).alloc (.cells #[.int .i64 0, .int .i64 0, .int .i64 0, .int .i64 0, .int .i64 0, .int .i64 0, .int .i64 0, .int .i64 0] 64)) (Below.refl _ _) (Nat.le_refl _) ?_; intro w2 HG2 hB2)
  rw [HSP.out] at HG2
  have S2 : CSt w 64 (cz ps) w2 := ⟨HG2.out, by
      have r := HR.out
      exact ⟨⟨Nat.lt_of_lt_of_le r.lt hB2.size, (hB2.cell (p := ⟨w.heap.size, 0, none⟩) (by show w.heap.size < w.heap.size + 1; omega)).trans r.c0, (hB2.cell (p := ⟨w.heap.size, 1, none⟩) (by show w.heap.size < w.heap.size + 1; omega)).trans r.c1⟩,
        (hB2.frozen (p := ⟨w.heap.size, 0, none⟩) (by show w.heap.size < w.heap.size + 1; omega)).trans r.z0, (hB2.frozen (p := ⟨w.heap.size, 1, none⟩) (by show w.heap.size < w.heap.size + 1; omega)).trans r.z1⟩,
    HB.out.trans (hB2.mono (by omega))⟩
  clear HG2 hB2 HR HSP HN HLL HL8 HG HB hle lt
  generalize pX ps = X at *
  generalize pY ps = Y at *
  generalize cz ps = g0 at *
  go_wp2
  go_loopw [6, 7] (fun s v wr => ∃ l : Nat, l < len ∧ s = .int .i64 (sc l) ∧ v = .int .i64 ((len : Int) - 1 - (l : Int)) ∧ Hid (CLev w 64 t X Y len l 0 wr)) (fun _ v _ => (intOf v).toNat)
  case atStart => exact ⟨0, by omega, rfl, by congr 1; omega, Lib.hid ⟨g0, S2, HS.out⟩⟩
  case round =>
    obtain ⟨l, hl, rfl, rfl, HCL⟩ := hrel
    obtain ⟨g, HC, HL⟩ := HCL.out
    replace HC := Lib.hid HC
    replace HL := Lib.hid HL
    clear S2 HS HCL
    have l3 : l ≤ 3 := by omega
    by_cases hlt : 0 < (len : Int) - 1 - (l : Int)
    · have l2 : l ≤ 2 := by omega
      obtain ⟨s1, s2⟩ := sc_le l3
      have HSC := Lib.hid (sc_succ l)
      have HS2 := Lib.hid (show sc l ≤ 4096 by
        have : l = 0 ∨ l = 1 ∨ l = 2 := by omega
        rcases this with rfl | rfl | rfl <;> simp only [sc_zero, sc_one, sc_two] <;> omega)
      generalize hwr : wr = wo at *
      clear hwr
      go_wp2
      go_loopw [20] (fun iv wr => ∃ k : Nat, k + l + 1 ≤ len ∧ iv = .int .i64 (k : Int) ∧ Hid (CLev w 64 t X Y len l k wr)) (fun iv _ => len - (intOf iv).toNat)
      case atStart => exact ⟨0, by omega, rfl, Lib.hid ⟨g, HC.out, HL.out⟩⟩
      case round =>
        obtain ⟨k, hk2, rfl, HCL⟩ := hrel
        obtain ⟨g', HC', HL'⟩ := HCL.out
        replace HC' := Lib.hid HC'
        replace HL' := Lib.hid HL'
        clear HC HL HCL
        by_cases hk3 : (k : Int) < (len : Int) - 1 - (l : Int)
        · have hk8 : k * 2 + 3 < 8 := by omega
          obtain ⟨x1, y1⟩ := HL'.out.2 k (Nat.le_refl _) (by omega)
          obtain ⟨x2, y2⟩ := HL'.out.2 (k + 1) (by omega) (by omega)
          have c1 := HC'.out.arr.cell (k * 2) (by omega)
          have c2 := HC'.out.arr.cell (k * 2 + 1) (by omega)
          have c3 := HC'.out.arr.cell ((k + 1) * 2) (by omega)
          have c4 := HC'.out.arr.cell ((k + 1) * 2 + 1) (by omega)
          rw [x1] at c1
          rw [y1] at c2
          rw [x2] at c3
          rw [y2] at c4
          have HLN := Lib.hid HL'.out.step
          obtain ⟨bx1, bx2⟩ := HBX.out l k
          obtain ⟨by1, by2⟩ := HBY.out l k
          obtain ⟨bx3, bx4⟩ := HBX.out l (k + 1)
          obtain ⟨by3, by4⟩ := HBY.out l (k + 1)
          have hs2 := HS2.out
          have HE2 := Lib.hid (And.intro (cas_succ t X l k) (cas_succ t Y l k))
          have e1 := keptCell HC'.out.arr.lt c1
          have e2 := keptCell HC'.out.arr.lt c2
          have e3 := keptCell HC'.out.arr.lt c3
          have e4 := keptCell HC'.out.arr.lt c4
          clear x1 y1 x2 y2 c1 c2 c3 c4
          generalize cas t X l k = ax at *
          generalize cas t Y l k = ay at *
          generalize cas t X l (k + 1) = bx at *
          generalize cas t Y l (k + 1) = cy at *
          generalize cas t X (l + 1) k = nx at *
          generalize cas t Y (l + 1) k = ny at *
          obtain ⟨e5, e6⟩ := HE2.out
          have m1 := mul_bd (x := ax) (y := 64 - t) (A := 40960000) (B := 64) (by omega) (by omega) (by omega) (by omega)
          have m2 := mul_bd (x := ay) (y := 64 - t) (A := 40960000) (B := 64) (by omega) (by omega) (by omega) (by omega)
          have m3 := mul_bd (x := bx) (y := t) (A := 40960000) (B := 64) (by omega) (by omega) (by omega) (by omega)
          have m4 := mul_bd (x := cy) (y := t) (A := 40960000) (B := 64) (by omega) (by omega) (by omega) (by omega)
          have HT1 := Lib.hid (fun (q : Kept wr) => keptCall (timesP ax ay (64 - t) q.u (by omega) (by omega) (by omega) (by omega) (by omega) (by omega)))
          have HT2 := Lib.hid (fun (q : Kept wr) => keptCall (timesP bx cy t q.u (by omega) (by omega) (by omega) (by omega) (by omega) (by omega)))
          have HPL := Lib.hid (fun (q : Kept wr) => keptCall (plusV (ax * (64 - t)) (ay * (64 - t)) (bx * t) (cy * t) q.u (by omega) (by omega) (by omega) (by omega) (by omega) (by omega) (by omega) (by omega)))
          rw [← e5, ← e6] at HPL
          have j1 : (0 : Int) ≤ (k : Int) := by omega
          have j2 : (k : Int) < 4 := by omega
          have j3 : (0 : Int) ≤ (k : Int) + 1 := by omega
          have j4 : (k : Int) + 1 < 4 := by omega
          have o1 : IntKind.i64.wrap (64 - t) = 64 - t := wrap_in (by omega) (by omega)
          have o2 : IntKind.i64.wrap ((k : Int) + 1) = (k : Int) + 1 := wrap_in (by omega) (by omega)
          clear m1 m2 m3 m4 e5 e6 HE2 bx1 bx2 bx3 bx4 by1 by2 by3 by4 hs2
          go_wp2
          refine wp_region_ktail 15 (by kernel_rfl) (by kernel_rfl) ?_
          simp only [List.take_succ_cons, List.take_zero, List.drop_succ_cons, List.drop_zero]
          repeat (go_big_quiet_step ((first | (go_at_call 55; with_reducible exact HT1.out _) | (go_at_call 55; with_reducible exact HT2.out _) | (go_at_call 50; with_reducible exact HPL.out _))))
          refine wpQuiet_nil ?_
          rintro w5 ⟨⟨_, K5⟩, rfl⟩
          have HC5 := Lib.hid (HC'.out.next K5)
          have r1 := HC5.out.arr.cell (k * 2) (by omega)
          have r2 := HC5.out.arr.free (k * 2)
          have r3 := HC5.out.arr.cell (k * 2 + 1) (by omega)
          have r4 := HC5.out.arr.free (k * 2 + 1)
          have HC6 := Lib.hid (HC5.out.set2 (k * 2) nx ny)
          clear K5 e1 e2 e3 e4 HT1 HT2 HPL
          go_wp2
          go_roundw
          case rel => exact ⟨k + 1, by omega, by congr 1, Lib.hid ⟨_, HC6.out, HLN.out⟩⟩
          case measure => simp [intOf]; omega
        · have HU := Lib.hid (HL'.out.up (by omega))
          have o3 : IntKind.i64.wrap (sc l * 64) = sc (l + 1) := by rw [HSC.out]; exact wrap_in (by omega) (by omega)
          have o4 : IntKind.i64.wrap ((len : Int) - 1 - (l : Int) - 1) = (len : Int) - 1 - ((l + 1 : Nat) : Int) := by rw [show (len : Int) - 1 - (l : Int) - 1 = (len : Int) - 1 - ((l + 1 : Nat) : Int) by omega]; exact wrap_in (by omega) (by omega)
          go_wp2
          go_roundw
          case rel => exact ⟨l + 1, by omega, by first | rfl | (congr 1; done), by first | rfl | (congr 1; done) | (congr 1; omega), Lib.hid ⟨g', HC'.out, HU.out⟩⟩
          case measure => simp [intOf]; omega
    · obtain rfl : len = l + 1 := by omega
      obtain ⟨x1, y1⟩ := HL.out.2 0 (Nat.le_refl _) (by omega)
      have c1 := HC.out.arr.cell 0 (by omega)
      have c2 := HC.out.arr.cell 1 (by omega)
      rw [show g 0 = _ from x1] at c1
      rw [show g 1 = _ from y1] at c2
      rw [Nat.add_sub_cancel] at HE
      obtain ⟨bx1, bx2⟩ := HBX.out l 0
      obtain ⟨by1, by2⟩ := HBY.out l 0
      obtain ⟨s1, s2⟩ := sc_le l3
      have e1 := keptCell HC.out.arr.lt c1
      have e2 := keptCell HC.out.arr.lt c2
      clear x1 y1 c1 c2
      generalize cas t X l 0 = ax at *
      generalize cas t Y l 0 = ay at *
      have HD1 := Lib.hid (fun (q : Kept wr) => keptSame (roundDivide ax l q.u l3 (by omega) (by omega)))
      have HD2 := Lib.hid (fun (q : Kept wr) => keptSame (roundDivide ay l q.u l3 (by omega) (by omega)))
      rw [HE.out.1] at HD1
      rw [HE.out.2] at HD2
      generalize sc l = s at *
      clear bx1 bx2 by1 by2
      go_wp2
      refine wp_region_ktail 10 (by kernel_rfl) (by kernel_rfl) ?_
      simp only [List.take_succ_cons, List.take_zero, List.drop_succ_cons, List.drop_zero]
      repeat (go_big_quiet_step ((first | (go_at_call 56; with_reducible exact HD1.out _) | (go_at_call 56; with_reducible exact HD2.out _))))
      refine wpQuiet_nil ?_
      rintro w5 ⟨⟨_, K5⟩, rfl⟩
      have HC5 := Lib.hid (HC.out.next K5)
      obtain ⟨⟨_, v8, v9⟩, z1, z2⟩ := id HC5.out.res
      clear K5 e1 e2 HD1 HD2
      go_wp2
      exact bodyPost_ret (v := pt (curX ps t) (curY ps t)) (by simp [results, Try.results44, go_sem, v8, v9]) rfl ⟨rfl, below_set HC5.out.bel (Nat.le_refl _) _ _⟩
end Go.Proofs.Ytlbheofomjakmaa
