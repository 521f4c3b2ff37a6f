/- The program's queue: grow and add. -/
import Derived.Test.YtkogoflcacameaaIm11b
import Derived.Laws.CopyOwn
import Derived.Deep.DeepCutAuto
namespace Go.Proofs.Ytkogoflcacameaa
set_option maxRecDepth 100000
open Go.RowKit
attribute [local go_sem ↓] Go.wp_at_zero Go.wp_at_succ
/-- copy of elements of two cells. -/
theorem run_copyC {P : Program} (w : World) (dT sT ty elem : TypeId) (g o dLen dCap : Nat) (a : Addr) (sLen sCap : Nat) (cur : Array Value) (t : TypeId) (cs : List Value)
    (hu : P.underlying dT = some (.slice elem)) (hs : (P.info? elem).map (·.size) = some 2)
    (hg : w.heap[g]? = some (.cells cur t (0, 0))) (hn : cs.length = Nat.min sLen dLen * 2)
    (hsrc : ∀ j v, cs[j]? = some v → w.cell? (a.add j) = some v) (hfit : o + cs.length ≤ cur.size) (h1 : ∀ v ∈ cs, v.oneCell' = true) :
    (Builtin.copy_ #[dT, sT] ty #[.slice (some ⟨g, o, none⟩) dLen dCap, .slice (some a) sLen sCap]).run P w =
      .ok (goInt (Nat.min sLen dLen)) (w.setRow g (cur.toList.take o ++ cs ++ cur.toList.drop (o + cs.length)).toArray) := by
  have hl := run_loadCells_list (P := P) w a cs hsrc
  have hst := run_storeCells_at P g o t cs 0 cur w hg (by simpa using hfit) h1
  cases hq : P.info? elem with
  | none => simp [hq] at hs
  | some i =>
    have hi : i.size = 2 := by simpa [hq] using hs
    simp [Builtin.copy_, run_underlying hu, Builtin.lenOf, Builtin.firstCells, sizeOf, typeInfo, hq, hi, ← hn, hl, hst]
theorem wpList_copyC {P : Program} {w : World} {ops : Array Oper} {rest : List Oper} {o : Oper} {a : Act} {Q : Exit → Act → World → Prop} (hgd : o.guard = none) (d s : Operand) (dT sT : TypeId)
    (ho : o.op = .call { callee := .builtin .copy, args := #[d, s], argTypes := #[dT, sT] }) (elem : TypeId) (hu : P.underlying dT = some (.slice elem)) (hsz : (P.info? elem).map (·.size) = some 2)
    (g off dLen dCap : Nat) (ad : Addr) (sLen sCap : Nat) (hd : a.eval d = .slice (some ⟨g, off, none⟩) dLen dCap) (hs : a.eval s = .slice (some ad) sLen sCap)
    (cur : List Value) (t : TypeId) (hg : w.heap[g]? = some (.cells cur.toArray t (0, 0))) (cs : List Value) (hn : cs.length = Nat.min sLen dLen * 2)
    (hsrc : ∀ j v, cs[j]? = some v → w.cell? (ad.add j) = some v) (hfit : off + cs.length ≤ cur.length) (h1 : ∀ v ∈ cs, v.oneCell' = true) (n : Nat) (hmn : Nat.min sLen dLen = n) (B : Nat) (w0 : World) (hb : Below B w0 w) (hBg : B ≤ g)
    (h : ∀ w', Hid (w'.heap[g]? = some (.cells (splice cur off cs).toArray t (0, 0))) → Below B w0 w' → wpList P ops Q rest (a.put o.dst (.int .i64 (n : Int))) w') :
    wpList P ops Q (o :: rest) a w := by
  refine wpList_plain hgd fun K hK => ?_
  have hrun := run_copyC (P := P) w dT sT o.type elem g off dLen dCap ad sLen sCap cur.toArray t cs hu hsz hg hn hsrc (by simpa using hfit) h1
  rw [hmn] at hrun
  unfold Oper.wp
  simp [execOp, ho, resolve, invoke, builtin, hd, hs, hrun, Result.andThen]
  exact hK _ _ (h _ (show _ = _ by simpa [splice] using setRow_heap w g _ _ t _ hg) (below_setRow hb hBg _))
theorem run_copyN {P : Program} (w : World) (dT sT ty elem : TypeId) (d : Option Addr) (dLen dCap sCap : Nat) (hu : P.underlying dT = some (.slice elem)) (hs : (P.info? elem).map (·.size) = some 2) :
    (Builtin.copy_ #[dT, sT] ty #[.slice d dLen dCap, .slice none 0 sCap]).run P w = .ok (goInt 0) w := by
  cases hq : P.info? elem with
  | none => simp [hq] at hs
  | some i => cases d <;> simp [Builtin.copy_, run_underlying hu, Builtin.lenOf, Builtin.firstCells, sizeOf, typeInfo, hq, storeCells]
theorem wpList_copyN {P : Program} {w : World} {ops : Array Oper} {rest : List Oper} {o : Oper} {a : Act} {Q : Exit → Act → World → Prop} (hgd : o.guard = none) (d s : Operand) (dT sT : TypeId)
    (ho : o.op = .call { callee := .builtin .copy, args := #[d, s], argTypes := #[dT, sT] }) (elem : TypeId) (hu : P.underlying dT = some (.slice elem)) (hsz : (P.info? elem).map (·.size) = some 2)
    (dp : Option Addr) (dLen dCap sCap : Nat) (hd : a.eval d = .slice dp dLen dCap) (hs : a.eval s = .slice none 0 sCap)
    (h : wpList P ops Q rest (a.put o.dst (goInt 0)) w) : wpList P ops Q (o :: rest) a w := by
  refine wpList_plain hgd fun K hK => ?_
  have hrun := run_copyN (P := P) w dT sT o.type elem dp dLen dCap sCap hu hsz
  unfold Oper.wp
  simp [execOp, ho, resolve, invoke, builtin, hd, hs, hrun, Result.andThen]
  exact hK _ _ h
theorem nmin {a b : Nat} (h : a ≤ b) : Nat.min a b = a := Nat.min_eq_left h
theorem mod_small {f j m : Nat} (hf : f < m) (hj : j < m) : (f + j) % m = if f + j < m then f + j else f + j - m := by
  split
  · exact Nat.mod_eq_of_lt (by assumption)
  · rw [Nat.mod_eq_sub_mod (by omega), Nat.mod_eq_of_lt (by omega)]
/-- The cells of a ring, the first one at the first place. -/
theorem ring_turn (rs Z : List Value) (m fi j : Nat) (hr : rs.length = m * 2) (hZ : m * 2 ≤ Z.length) (hf : fi < m) (hj : j < m) (e : Nat) (he : e < 2) :
    (splice (splice Z 0 (rs.drop (fi * 2))) ((m - fi) * 2) (rs.take (fi * 2)))[j * 2 + e]? = rs[((fi + j) % m) * 2 + e]? := by
  rw [mod_small hf hj]
  unfold splice
  simp only [List.take_zero, List.nil_append, List.length_drop, List.length_take, Nat.zero_add]
  rw [List.getElem?_append]
  split
  · rename_i h
    simp only [List.length_take, List.length_append, List.length_drop] at h
    rw [List.getElem?_take_of_lt (by omega), List.getElem?_append_left (by simp only [List.length_drop]; omega), List.getElem?_drop, if_pos (by omega)]
    congr 1
    omega
  · rename_i h
    simp only [List.length_take, List.length_append, List.length_drop] at h ⊢
    rw [List.getElem?_append_left (by simp only [List.length_take]; omega), List.getElem?_take_of_lt (by omega), if_neg (by omega)]
    congr 1
    omega
theorem Frm.set {v g : Nat} {w w1 : World} (h : Frm v g w w1) (b : Nat) (hb : b = v ∨ b = g ∨ w.heap.size ≤ b) (o : Nat) (x : Value) : Frm v g w (w1.setCell ⟨b, o, none⟩ x) :=
  ⟨h.os, h.tape, h.output, by simpa [World.setCell] using h.size, fun k hk h1 h2 => (Below.heap_setCell _ _ _ k (by show k ≠ b; omega)).trans (h.block k hk h1 h2)⟩
theorem RQ.push {u u' : World} {v g m fi p : Nat} {cs rs : Array Value} {L : List C2} (h : RQ u v cs L g rs m fi) (hlt : L.length < m) (hp : (fi + L.length) % m = p) (c : C2)
    (hb : Blk u' v (cs.setIfInBounds 3 (.int .i64 ((L.length : Int) + 1))) 77) (hg : Blk u' g ((rs.setIfInBounds (p * 2) (.int .i64 c.1)).setIfInBounds (p * 2 + 1) (.int .i64 c.2)) 33) :
    RQ u' v (cs.setIfInBounds 3 (.int .i64 ((L.length : Int) + 1))) (L ++ [c]) g ((rs.setIfInBounds (p * 2) (.int .i64 c.1)).setIfInBounds (p * 2 + 1) (.int .i64 c.2)) m fi := by
  have hm0 : m ≠ 0 := by omega
  obtain ⟨r1, r2, r3⟩ := h.ring hm0
  have hf := h.f1 hm0
  have hpm : p < m := by rw [← hp]; exact Nat.mod_lt _ (by omega)
  refine ⟨hb, by simp [h.size], hg.lt, by rw [Array.getElem?_setIfInBounds_ne (by omega)]; exact h.rng, by rw [Array.getElem?_setIfInBounds_ne (by omega)]; exact h.fst, by rw [Array.getElem?_setIfInBounds_self_of_lt (by rw [h.size]; omega)]; simp, by simp; omega, h.top, h.f0, h.f1, fun _ => ⟨hg, by simp [r2], r3⟩, fun i x hx => ?_, fun j hj => ?_⟩
  · rw [Array.getElem?_setIfInBounds] at hx
    split at hx
    · split at hx
      · cases hx; rfl
      · cases hx
    · rw [Array.getElem?_setIfInBounds] at hx
      split at hx
      · split at hx
        · cases hx; rfl
        · cases hx
      · exact h.one i x hx
  by_cases hjl : j < L.length
  · have hne : (fi + j) % m ≠ p := by
      rw [← hp, mod_small hf (by omega), mod_small hf hlt]
      split <;> split <;> omega
    obtain ⟨k1, k2⟩ := h.cont j hjl
    rw [Array.getElem?_setIfInBounds_ne (by omega), Array.getElem?_setIfInBounds_ne (by omega), Array.getElem?_setIfInBounds_ne (by omega), Array.getElem?_setIfInBounds_ne (by omega), List.getD_eq_getElem?_getD, List.getElem?_append_left hjl, ← List.getD_eq_getElem?_getD]
    exact ⟨k1, k2⟩
  · obtain rfl : j = L.length := by simp at hj; omega
    rw [hp, Array.getElem?_setIfInBounds_ne (by omega), Array.getElem?_setIfInBounds_self_of_lt (by rw [r2]; omega), Array.getElem?_setIfInBounds_self_of_lt (by simp [r2]; omega), List.getD_eq_getElem?_getD, List.getElem?_append_right (Nat.le_refl _)]
    simp
/-- The row of a make of cells. -/
theorem made_blk {w : World} {B n : Nat} (h : w.ownsRow B 33 2 (.slice (some ⟨B, 0, none⟩) n n) n (madeCells (pt 0 0).cells (n * 2)).toList) : ∃ Z : List Value, Blk w B Z.toArray 33 ∧ Z.length = n * 2 ∧ ∀ (i : Nat) x, Z[i]? = some x → x.oneCell' = true := by
  rw [Cel.made6 (fun _ => 0) n] at h
  rcases h.2 with ⟨hv, hn⟩ | ⟨g, c, cur, hv, hb, hg, hnc, hcm, hcs, htake⟩
  · cases hv
  · simp only [Value.slice.injEq, Option.some.injEq, Addr.mk.injEq] at hv
    obtain ⟨⟨rfl, _⟩, _, rfl⟩ := hv
    have hl : cur.toList.length = n * 2 := by simpa using hcs
    have e : cur.toList = Cel.cpart (fun _ => 0) (fun _ => 0) (n * 2) (0 * 2) := by rw [← htake, ← hl]; exact List.take_length.symm
    refine ⟨cur.toList, by simpa [Blk] using hg, hl, fun i x hx => ?_⟩
    have hi : i < n * 2 := by rw [← hl]; exact (List.getElem?_eq_some_iff.1 hx).1
    rw [e, Cel.cpart_at _ _ _ _ _ hi] at hx
    cases hx
    rfl
theorem one_splice {Z X : List Value} {o : Nat} (hZ : ∀ (i : Nat) x, Z[i]? = some x → x.oneCell' = true) (hX : ∀ (i : Nat) x, X[i]? = some x → x.oneCell' = true) : ∀ (i : Nat) x, (splice Z o X)[i]? = some x → x.oneCell' = true := by
  intro i x hx
  have hm := List.mem_of_getElem? hx
  unfold splice at hm
  simp only [List.mem_append] at hm
  rcases hm with q | q | q
  · obtain ⟨k, hk⟩ := List.getElem?_of_mem (List.mem_of_mem_take q); exact hZ k x hk
  · obtain ⟨k, hk⟩ := List.getElem?_of_mem q; exact hX k x hk
  · obtain ⟨k, hk⟩ := List.getElem?_of_mem (List.mem_of_mem_drop q); exact hZ k x hk
theorem src_drop (rl : List Value) (o : Nat) (h : ∀ (i : Nat) x, rl[i]? = some x → x.oneCell' = true) : (∀ (j : Nat) v, (rl.drop o)[j]? = some v → rl[o + j]? = some v) ∧ (∀ (i : Nat) x, (rl.drop o)[i]? = some x → x.oneCell' = true) ∧ ∀ v ∈ rl.drop o, v.oneCell' = true := by
  refine ⟨fun j x hx => by rw [List.getElem?_drop] at hx; exact hx, fun j x hx => by rw [List.getElem?_drop] at hx; exact h _ x hx, fun x hx => ?_⟩
  obtain ⟨k, hk⟩ := List.getElem?_of_mem (List.mem_of_mem_drop hx)
  exact h k x hk
theorem src_take (rl : List Value) (o : Nat) (h : ∀ (i : Nat) x, rl[i]? = some x → x.oneCell' = true) : (∀ (j : Nat) v, (rl.take o)[j]? = some v → rl[0 + j]? = some v) ∧ (∀ (i : Nat) x, (rl.take o)[i]? = some x → x.oneCell' = true) ∧ ∀ v ∈ rl.take o, v.oneCell' = true := by
  have key : ∀ (j : Nat) v, (rl.take o)[j]? = some v → rl[j]? = some v := fun j x hx => by
    rw [List.getElem?_take] at hx
    split at hx
    · exact hx
    · cases hx
  refine ⟨fun j x hx => by rw [Nat.zero_add]; exact key j x hx, fun j x hx => h j x (key j x hx), fun x hx => ?_⟩
  obtain ⟨k, hk⟩ := List.getElem?_of_mem (List.mem_of_mem_take hx)
  exact h k x hk
theorem src_of {u : World} {g : Nat} {rl : List Value} {T : TypeId} (h : Blk u g rl.toArray T) (o : Nat) (X : List Value) (hX : ∀ (j : Nat) v, X[j]? = some v → rl[o + j]? = some v) : ∀ j v, X[j]? = some v → u.cell? ((⟨g, o, none⟩ : Addr).add j) = some v := by
  intro j x hx
  have e : (⟨g, o, none⟩ : Addr).add j = ⟨g, o + j, none⟩ := by unfold Addr.add; split <;> simp_all
  rw [e]
  exact h.cell (o + j) (by simpa using hX j x hx)
/-- What grow leaves. -/
def Grown (v : Nat) (cs : Array Value) (L : List C2) (g m : Nat) (w : World) (e : Ending) (w' : World) : Prop :=
  e = .returned (.tuple #[]) ∧ ∃ rs2, RQ w' v ((cs.setIfInBounds 1 (.slice (some ⟨w.heap.size, 0, none⟩) (2 * m + 4) (2 * m + 4))).setIfInBounds 2 (.int .i64 0)) L w.heap.size rs2 (2 * m + 4) 0 ∧ Frm v g w w'
theorem RQ.grown {u u' : World} {v g m fi b M : Nat} {cs rs : Array Value} {L : List C2} (h : RQ u v cs L g rs m fi) (hM : 2 * m + 4 = M) (hm : m ≤ 400) (hbv : b ≠ v) (row : List Value) (hrow : row.length = M * 2) (hone : ∀ (i : Nat) x, row[i]? = some x → x.oneCell' = true)
    (hc : ∀ j, j < L.length → ∀ e, e < 2 → row[j * 2 + e]? = rs[((fi + j) % m) * 2 + e]?)
    (hb : Blk u' v ((cs.setIfInBounds 1 (.slice (some ⟨b, 0, none⟩) M M)).setIfInBounds 2 (.int .i64 0)) 77) (hg : Blk u' b row.toArray 33) :
    RQ u' v ((cs.setIfInBounds 1 (.slice (some ⟨b, 0, none⟩) M M)).setIfInBounds 2 (.int .i64 0)) L b row.toArray M 0 := by
  have hfit := h.fit
  refine ⟨hb, by simp [h.size], hg.lt, by rw [Array.getElem?_setIfInBounds_ne (by omega), Array.getElem?_setIfInBounds_self_of_lt (by rw [h.size]; omega), if_neg (by omega)], by rw [Array.getElem?_setIfInBounds_self_of_lt (by simp [h.size])]; rfl, by rw [Array.getElem?_setIfInBounds_ne (by omega), Array.getElem?_setIfInBounds_ne (by omega)]; exact h.cnt, by omega, by omega, fun q => rfl, fun q => by omega, fun _ => ⟨hg, by simpa using hrow, hbv⟩, fun i x hx => hone i x (by simpa using hx), fun j hj => ?_⟩
  obtain ⟨k1, k2⟩ := h.cont j hj
  rw [Nat.zero_add, Nat.mod_eq_of_lt (by omega)]
  have q0 := hc j hj 0 (by omega)
  have q1 := hc j hj 1 (by omega)
  simp only [Nat.add_zero] at q0
  simp only [List.getElem?_toArray]
  exact ⟨q0.trans k1, q1.trans k2⟩
set_option maxHeartbeats 4000000 in
theorem queueGrow (v : Nat) (cs : Array Value) (L : List C2) (g : Nat) (rs : Array Value) (m fi : Nat) (w : World) (h : RQ w v cs L g rs m fi) (hm : m ≤ 400) (hm0 : m ≠ 0) :
    Calls Try.prog 71 #[.pointer (some ⟨v, 1, none⟩)] w (Grown v cs L g m w) := by
  unfold Grown
  obtain ⟨i0, hi0, hz0, hz1, hz2⟩ := info_parts Cel.infoPt6
  obtain ⟨M, hM⟩ : ∃ M, 2 * m + 4 = M := ⟨_, rfl⟩
  rw [hM]
  have HQ := Lib.hid h
  obtain ⟨r1, r2, r3⟩ := h.ring hm0
  have HRG := Lib.hid r1
  have hrng := h.rng
  rw [if_neg hm0] at hrng
  have HCS := Lib.hid (And.intro hrng h.fst)
  have hfi := h.f1 hm0
  have hvl := h.blk.lt
  have hgl := r1.lt
  obtain ⟨rl, rfl⟩ : ∃ rl : List Value, rs = rl.toArray := ⟨rs.toList, by simp⟩
  have HRL := Lib.hid (show rl.length = m * 2 by simpa using r2)
  obtain ⟨X1, hX1⟩ : ∃ X1, X1 = rl.drop (fi * 2) := ⟨_, rfl⟩
  obtain ⟨X2, hX2⟩ : ∃ X2, X2 = rl.take (fi * 2) := ⟨_, rfl⟩
  have one1 : ∀ (i : Nat) x, rl[i]? = some x → x.oneCell' = true := fun i x hx => h.one i x (by simpa using hx)
  have HS1 := Lib.hid (hX1 ▸ src_drop rl (fi * 2) one1)
  have HS2 := Lib.hid (hX2 ▸ src_take rl (fi * 2) one1)
  have HXE := Lib.hid (And.intro hX1 hX2)
  clear hX1 hX2 one1
  have HV := Lib.hid h.blk
  have o1 : IntKind.i64.wrap (2 * (m : Int)) = 2 * (m : Int) := wrap_in (by omega) (by omega)
  have o2 : IntKind.i64.wrap (2 * (m : Int) + 4) = (M : Int) := by rw [show 2 * (m : Int) + 4 = (M : Int) by omega]; exact wrap_in (by omega) (by omega)
  have o2' : 2 * (m : Int) + 4 = (M : Int) := by omega
  have j0 : (0 : Int) ≤ (fi : Int) := by omega
  have j1 : (fi : Int) ≤ (m : Int) := by omega
  have j2 : ¬ ((fi : Int) = (m : Int)) := by omega
  have j3 : ¬ (fi = m) := by omega
  have j4 : fi < m := hfi
  have u0 := h.blk.cell 1 hrng
  clear h r1 r2 hrng
  go_enter Try.func71, Try.ntmps71
  go_upto_region 1 with (first
    | (at_make; refine wpList_make_full _ rfl _ _ 42 rfl w.heap.size 33 i0 (pt 0 0) 2 Try.underlying42 hi0 hz0 hz1 .i64 .i64 _ _ M rfl rfl (by omega) (by omega) (by rw [hz2]; omega) (by unfold maxLen; omega) (Nat.le_refl _) ?_; intro w1 own1 grow1))
  obtain ⟨Z, HZ0, hzl, hz1c⟩ := made_blk own1
  have HG : Below w.heap.size w w1 := (Below.refl _ _).grown grow1 (Nat.le_refl _) (fun k hk => by cases hk)
  have HZ := Lib.hid HZ0
  have HZL := Lib.hid (And.intro hzl hz1c)
  have HB := Lib.hid HG
  clear own1 grow1 HZ0 HG u0 o1 o2 o2' hzl hz1c
  have u0 := (HV.out.next HB.out).kept 1 HCS.out.1
  have u1 := (HV.out.next HB.out).kept 2 HCS.out.2
  refine wp_region_ktail 10 (by kernel_rfl) (by kernel_rfl) ?_
  simp only [List.take_succ_cons, List.take_zero, List.drop_succ_cons, List.drop_zero]
  repeat (go_big_quiet_step (fail))
  refine wpQuiet_nil ?_
  rintro w2 ⟨⟨_, K2⟩, rfl⟩
  have HZ2 := Lib.hid (HZ.out.next K2)
  have HB2 := Lib.hid (below_call HB.out K2)
  have HR2 := Lib.hid ((HRG.out.next HB.out).next K2)
  clear K2 u0 u1 HZ HB
  obtain ⟨k1, hk1⟩ : ∃ k, m - fi = k := ⟨_, rfl⟩
  have HX1 := Lib.hid (show X1.length = k1 * 2 from by rw [HXE.out.1, List.length_drop, HRL.out]; omega)
  have HX2 := Lib.hid (show X2.length = fi * 2 from by rw [HXE.out.2, List.length_take, HRL.out]; omega)
  have HK1 := Lib.hid hk1
  clear hk1
  refine wpList_copyC rfl (.tmp 12) (.tmp 21) 42 42 rfl 33 Try.underlying42 (by kernel_rfl) w.heap.size 0 M M ⟨g, fi * 2, none⟩ (m - fi) (m - fi) rfl rfl Z 33 HZ2.out X1 (by have q := HK1.out; rw [HX1.out, nmin (by omega)]; omega) (src_of HR2.out (fi * 2) X1 HS1.out.1) (by have q := HK1.out; rw [HX1.out, HZL.out.1]; omega) HS1.out.2.2 k1 (by have q := HK1.out; rw [nmin (by omega)]; exact q) w.heap.size w HB2.out (Nat.le_refl _) ?_
  intro w3 HZ3 HB3
  go_upto_region 2 with fail
  have HR3 := Lib.hid (show Blk w3 g rl.toArray 33 from (HB3.block g hgl).trans ((HB2.out.block g hgl).symm.trans HR2.out))
  have HV3 := Lib.hid (HV.out.next HB3)
  have HB3' := Lib.hid HB3
  have hk1 := HK1.out
  have k0 : (0 : Int) ≤ (k1 : Int) := by omega
  have k2 : (k1 : Int) ≤ (M : Int) := by omega
  have k3 : ¬ ((k1 : Int) = (M : Int)) := by omega
  have k4 : ¬ (k1 = M) := by omega
  have k5 : k1 < M := by omega
  clear hk1
  have u0 := HV3.out.kept 1 HCS.out.1
  have u1 := HV3.out.kept 2 HCS.out.2
  clear HB3 HB2 HR2 HZ2
  obtain ⟨Z1, hZ1⟩ : ∃ Z1, Z1 = splice Z 0 X1 := ⟨_, rfl⟩
  rw [← hZ1] at HZ3
  have HZ1 := Lib.hid hZ1
  have HL1 := Lib.hid (show Z1.length = M * 2 from by rw [hZ1, length_splice _ _ _ (by have q := HK1.out; rw [HX1.out, HZL.out.1]; omega), HZL.out.1])
  clear hZ1
  refine wp_region_ktail 12 (by kernel_rfl) (by kernel_rfl) ?_
  simp only [List.take_succ_cons, List.take_zero, List.drop_succ_cons, List.drop_zero]
  repeat (go_big_quiet_step (fail))
  refine wpQuiet_nil ?_
  rintro w4 ⟨⟨_, K4⟩, rfl⟩
  have HZ4 := Lib.hid (show Blk w4 w.heap.size Z1.toArray 33 from Blk.next HZ3.out K4)
  have HB4 := Lib.hid (below_call HB3'.out K4)
  have HR4 := Lib.hid (HR3.out.next K4)
  clear K4 u0 u1 HZ3 HB3' HR3 HV3
  refine wpList_copyC rfl (.tmp 25) (.tmp 34) 42 42 rfl 33 Try.underlying42 (by kernel_rfl) w.heap.size (k1 * 2) (M - k1) (M - k1) ⟨g, 0, none⟩ fi m rfl rfl Z1 33 HZ4.out X2 (by have q := HK1.out; rw [HX2.out, nmin (by omega)]) (src_of HR4.out 0 X2 HS2.out.1) (by have q := HK1.out; rw [HX2.out, HL1.out]; omega) HS2.out.2.2 fi (by have q := HK1.out; rw [nmin (by omega)]) w.heap.size w HB4.out (Nat.le_refl _) ?_
  intro w5 HZ5 HB5
  go_upto_region 3 with fail
  have HB5' := Lib.hid HB5
  have HV5 := Lib.hid (HV.out.next HB5)
  have d0 := HV5.out.cell 1 HCS.out.1
  have d1 := HV5.out.frozen 1
  have d2 := HV5.out.cell 2 HCS.out.2
  have d3 := HV5.out.frozen 2
  clear HB5 HB4 HR4 HZ4
  go_wp2
  go_end0
  have hk1 := HK1.out
  subst hM
  refine ⟨rfl, _, RQ.grown HQ.out rfl hm (by omega) (splice Z1 (k1 * 2) X2) (by rw [length_splice _ _ _ (by have q := HK1.out; rw [HX2.out, HL1.out]; omega), HL1.out]) (one_splice (by rw [HZ1.out]; exact one_splice HZL.out.2 HS1.out.2.1) HS2.out.2.1) (fun j hj e he => by rw [HZ1.out, HXE.out.1, HXE.out.2, ← hk1, List.getElem?_toArray]; exact ring_turn rl Z m fi j HRL.out (by rw [HZL.out.1]; omega) hfi (by have := HQ.out.fit; omega) e he) ((HV5.out.set 1 _).set 2 _) (((show Blk w5 w.heap.size _ _ from HZ5.out).other (by omega) _).other (by omega) _), ((Frm.of_below HB5'.out).set v (.inl rfl) 1 _).set v (.inl rfl) 2 _⟩
set_option maxHeartbeats 4000000 in
theorem queueGrow0 (v : Nat) (cs : Array Value) (L : List C2) (g : Nat) (rs : Array Value) (fi : Nat) (w : World) (h : RQ w v cs L g rs 0 fi) :
    Calls Try.prog 71 #[.pointer (some ⟨v, 1, none⟩)] w (Grown v cs L g 0 w) := by
  unfold Grown
  obtain ⟨i0, hi0, hz0, hz1, hz2⟩ := info_parts Cel.infoPt6
  have HQ := Lib.hid h
  have hrng := h.rng
  rw [if_pos rfl] at hrng
  obtain rfl : fi = 0 := h.f0 rfl
  have HCS := Lib.hid (And.intro hrng h.fst)
  have hvl := h.blk.lt
  have HV := Lib.hid h.blk
  have u0 := h.blk.cell 1 hrng
  clear h hrng
  go_enter Try.func71, Try.ntmps71
  go_upto_region 1 with (first
    | (at_make; refine wpList_make_full _ rfl _ _ 42 rfl w.heap.size 33 i0 (pt 0 0) 2 Try.underlying42 hi0 hz0 hz1 .i64 .i64 _ _ 4 rfl rfl (by omega) (by omega) (by rw [hz2]; omega) (by unfold maxLen; omega) (Nat.le_refl _) ?_; intro w1 own1 grow1))
  obtain ⟨Z, HZ0, hzl, hz1c⟩ := made_blk own1
  have HG : Below w.heap.size w w1 := (Below.refl _ _).grown grow1 (Nat.le_refl _) (fun k hk => by cases hk)
  have HZ := Lib.hid HZ0
  have HZL := Lib.hid (And.intro hzl hz1c)
  have HB := Lib.hid HG
  clear own1 grow1 HZ0 HG u0 hzl hz1c
  have u0 := (HV.out.next HB.out).kept 1 HCS.out.1
  have u1 := (HV.out.next HB.out).kept 2 HCS.out.2
  refine wp_region_ktail 10 (by kernel_rfl) (by kernel_rfl) ?_
  simp only [List.take_succ_cons, List.take_zero, List.drop_succ_cons, List.drop_zero]
  repeat (go_big_quiet_step (fail))
  refine wpQuiet_nil ?_
  rintro w2 ⟨⟨_, K2⟩, rfl⟩
  have HZ2 := Lib.hid (HZ.out.next K2)
  have HB2 := Lib.hid (below_call HB.out K2)
  clear K2 u0 u1 HZ HB
  refine wpList_copyN rfl (.tmp 12) (.tmp 21) 42 42 rfl 33 Try.underlying42 (by kernel_rfl) (some ⟨w.heap.size, 0, none⟩) 4 4 0 rfl rfl ?_
  go_upto_region 2 with fail
  have u0 := (HV.out.next HB2.out).kept 1 HCS.out.1
  have u1 := (HV.out.next HB2.out).kept 2 HCS.out.2
  refine wp_region_ktail 12 (by kernel_rfl) (by kernel_rfl) ?_
  simp only [List.take_succ_cons, List.take_zero, List.drop_succ_cons, List.drop_zero]
  repeat (go_big_quiet_step (fail))
  refine wpQuiet_nil ?_
  rintro w4 ⟨⟨_, K4⟩, rfl⟩
  have HZ4 := Lib.hid (HZ2.out.next K4)
  have HB4 := Lib.hid (below_call HB2.out K4)
  clear K4 u0 u1 HZ2 HB2
  refine wpList_copyN rfl (.tmp 25) (.tmp 34) 42 42 rfl 33 Try.underlying42 (by kernel_rfl) (some ⟨w.heap.size, 0, none⟩) 4 4 0 rfl rfl ?_
  go_upto_region 3 with fail
  have HV5 := Lib.hid (HV.out.next HB4.out)
  have d0 := HV5.out.cell 1 HCS.out.1
  have d1 := HV5.out.frozen 1
  have d2 := HV5.out.cell 2 HCS.out.2
  have d3 := HV5.out.frozen 2
  go_wp2
  go_end0
  refine ⟨rfl, _, RQ.grown HQ.out rfl (by omega) (by omega) Z HZL.out.1 HZL.out.2 (fun j hj => by have := HQ.out.fit; omega) ((HV5.out.set 1 _).set 2 _) ((HZ4.out.other (by omega) _).other (by omega) _), ((Frm.of_below HB4.out).set v (.inl rfl) 1 _).set v (.inl rfl) 2 _⟩
end Go.Proofs.Ytkogoflcacameaa
