/- The program's search: its state, and visit. -/
import Derived.Test.YtkogoflcacameaaIm11a
import Derived.Test.YtkogoflcacameaaIm11d
namespace Go.Proofs.Ytkogoflcacameaa
set_option maxRecDepth 100000
open Go.RowKit
attribute [local go_sem ↓] Go.wp_at_zero Go.wp_at_succ
theorem RQ.swap {u u' : World} {v g m fi : Nat} {cs cs2 rs : Array Value} {L : List C2} (h : RQ u v cs L g rs m fi) (hb : Blk u' v cs2 77) (hs : cs2.size = 811) (h1 : ∀ i, i = 1 ∨ i = 2 ∨ i = 3 → cs2[i]? = cs[i]?) (hg : m ≠ 0 → Blk u' g rs 33) (hgl : g < u'.heap.size) : RQ u' v cs2 L g rs m fi :=
  ⟨hb, hs, hgl, (h1 1 (by omega)).trans h.rng, (h1 2 (by omega)).trans h.fst, (h1 3 (by omega)).trans h.cnt, h.fit, h.top, h.f0, h.f1, fun q => ⟨hg q, (h.ring q).2⟩, h.one, h.cont⟩
/-- The search's state: the queue s has been visited, k cells of it have been taken. -/
structure Sea (B : Nat) (u : World) (v : Nat) (tv : Value) (s : Qu) (k : Nat) (g : Nat) (cs rs : Array Value) (m fi : Nat) (V : Nat → Nat) : Prop where
  rq : RQ u v cs ((s.map Prod.fst).drop k) g rs m fi
  tab : cs[0]? = some tv
  vis : ∀ q, q < 7 → cs[4 + q]? = some (.int .u64 (V q : Int))
  bits : Bits11 V s
  small : ∀ i, i < s.length → smC (qc s i)
  par : ∀ i, i < s.length → (qb s i).toNat < s.length
  bef : ∀ i, i < s.length → cs[11 + cno (qc s i) * 2]? = some (.int .i64 (befV s i).1) ∧ cs[11 + cno (qc s i) * 2 + 1]? = some (.int .i64 (befV s i).2)
  vB : B ≤ v
  gB : B ≤ g
  kl : k ≤ s.length
section
variable {B v k g m fi : Nat} {u u' : World} {tv : Value} {s : Qu} {cs rs : Array Value} {V : Nat → Nat}
theorem Sea.next (h : Sea B u v tv s k g cs rs m fi V) (hb : Below u.heap.size u u') : Sea B u' v tv s k g cs rs m fi V :=
  ⟨h.rq.frm hb, h.tab, h.vis, h.bits, h.small, h.par, h.bef, h.vB, h.gB, h.kl⟩
theorem Sea.srs (h : Sea B u v tv s k g cs rs m fi V) : SrS cs tv V (if m = 0 then .slice none 0 0 else .slice (some ⟨g, 0, none⟩) m m) fi ((s.map Prod.fst).drop k).length :=
  ⟨h.rq.size, h.tab, h.rq.rng, h.rq.fst, h.rq.cnt, h.vis⟩
theorem befV_app (hp : ∀ i, i < s.length → (qb s i).toNat < s.length) (x : C2 × Int) {i : Nat} (hi : i < s.length) : befV (s ++ [x]) i = befV s i := by
  unfold befV
  rw [qb_app hi, qc_app hi, qc_app (hp i hi)]
theorem Sea.has (h : Sea B u v tv s k g cs rs m fi V) (X Y : Nat) (hX : X < 20) (hY : Y < 20) : (V ((X * 20 + Y) / 64)).testBit ((X * 20 + Y) % 64) = decide (Has s ((X : Int), (Y : Int))) :=
  h.bits.has h.small (c := ((X : Int), (Y : Int))) ⟨by simp only; omega, by simp only; omega, by simp only; omega, by simp only; omega⟩
/-- What visit leaves in the search's block, the queue aside. -/
def befC (cs : Array Value) (V : Nat → Nat) (n : Nat) (p : C2) : Array Value :=
  ((cs.setIfInBounds (4 + n / 64) (.int .u64 (setB V n (n / 64) : Int))).setIfInBounds (11 + n * 2) (.int .i64 p.1)).setIfInBounds (11 + n * 2 + 1) (.int .i64 p.2)
theorem Sea.push {cs' rs' : Array Value} {g' m' fi' X Y : Nat} (h : Sea B u v tv s k g cs rs m fi V) (hX : X < 20) (hY : Y < 20) (hn : ¬ Has s ((X : Int), (Y : Int))) (j : Int) (p : C2) (hj : befV (s ++ [(((X : Int), (Y : Int)), j)]) s.length = p) (hj2 : j.toNat ≤ s.length)
    (hq : RQ u' v cs' ((s.map Prod.fst).drop k ++ [((X : Int), (Y : Int))]) g' rs' m' fi') (hc : ∀ i, i = 0 ∨ 4 ≤ i → cs'[i]? = (befC cs V (X * 20 + Y) p)[i]?) (hg : B ≤ g') :
    Sea B u' v tv (s ++ [(((X : Int), (Y : Int)), j)]) k g' cs' rs' m' fi' (setB V (X * 20 + Y)) := by
  have hsz := h.rq.size
  have hno : X * 20 + Y < 400 := by omega
  have hsm : smC ((X : Int), (Y : Int)) := ⟨by simp only; omega, by simp only; omega, by simp only; omega, by simp only; omega⟩
  have hcn : cno ((X : Int), (Y : Int)) = X * 20 + Y := by simp [cno]
  refine ⟨?_, ?_, fun q hq7 => ?_, ?_, fun i hi => ?_, fun i hi => ?_, fun i hi => ?_, h.vB, hg, by have := h.kl; simp; omega⟩
  · rw [List.map_append, List.drop_append_of_le_length (by have := h.kl; simp; omega)]
    exact hq
  · rw [hc 0 (by omega)]
    unfold befC
    rw [Array.getElem?_setIfInBounds_ne (by omega), Array.getElem?_setIfInBounds_ne (by omega), Array.getElem?_setIfInBounds_ne (by omega)]
    exact h.tab
  · rw [hc (4 + q) (by omega)]
    unfold befC
    rw [Array.getElem?_setIfInBounds_ne (by omega), Array.getElem?_setIfInBounds_ne (by omega)]
    by_cases e : q = (X * 20 + Y) / 64
    · subst e
      rw [Array.getElem?_setIfInBounds_self_of_lt (by omega)]
    · rw [Array.getElem?_setIfInBounds_ne (by omega), h.vis q hq7]
      unfold setB
      rw [if_neg e]
  · have hb := h.bits.add (c := ((X : Int), (Y : Int))) j
    rw [hcn] at hb
    exact hb
  · by_cases e : i < s.length
    · rw [qc_app e]; exact h.small i e
    · obtain rfl : i = s.length := by simp at hi; omega
      rw [qc_last]; exact hsm
  · by_cases e : i < s.length
    · rw [qb_app e]; have := h.par i e; simp; omega
    · obtain rfl : i = s.length := by simp at hi; omega
      rw [qb_last]; simp; omega
  · rw [hc _ (by omega), hc _ (by omega)]
    unfold befC
    by_cases e : i < s.length
    · rw [qc_app e, befV_app h.par _ e]
      have hne : cno (qc s i) ≠ X * 20 + Y := fun q => hn ⟨i, e, cno_inj (h.small i e) hsm (by rw [q, hcn])⟩
      have hlt := cno_lt (h.small i e)
      rw [Array.getElem?_setIfInBounds_ne (by omega), Array.getElem?_setIfInBounds_ne (by omega), Array.getElem?_setIfInBounds_ne (by omega), Array.getElem?_setIfInBounds_ne (by omega), Array.getElem?_setIfInBounds_ne (by omega), Array.getElem?_setIfInBounds_ne (by omega)]
      exact h.bef i e
    · obtain rfl : i = s.length := by simp at hi; omega
      rw [qc_last, hj, hcn, Array.getElem?_setIfInBounds_ne (by omega), Array.getElem?_setIfInBounds_self_of_lt (by simp; omega), Array.getElem?_setIfInBounds_self_of_lt (by simp; omega)]
      exact ⟨rfl, rfl⟩
end
set_option maxHeartbeats 4000000 in
theorem visitNo (B v k g m fi : Nat) (a : Option Addr) (len cap : Nat) (T : List (List Bool)) (s : Qu) (cs rs : Array Value) (V : Nat → Nat) (cx cy : Int) (p : C2) (w : World) (h : Sea B w v (.slice a len cap) s k g cs rs m fi V) (hT : Bol.RSA w a len T) (hl : len ≤ 9223372036854775807) (hs : squV T) (hn : Has s (cx, cy) ∨ freeV T (cx, cy) = false) :
    Calls Try.prog 59 #[.pointer (some ⟨v, 0, none⟩), pt cx cy, pt p.1 p.2] w fun e w' => e = .returned (.tuple #[]) ∧ Below w.heap.size w w' := by
  by_cases hf : freeV T (cx, cy) = true
  rotate_left
  · have hf' : freeV T (cx, cy) = false := by simpa using hf
    have B0 := below_box2 w (.cells #[.int .i64 cx, .int .i64 cy] 33) (.cells #[.int .i64 p.1, .int .i64 p.2] 33)
    have HB := Lib.hid B0
    have HS := Lib.hid (h.next B0)
    have HT := Lib.hid (hT.next B0)
    have HX := Lib.hid ((Blk.new w #[.int .i64 cx, .int .i64 cy] 33).alloc (.cells #[.int .i64 p.1, .int .i64 p.2] 33))
    have HP0 := Blk.new (w.alloc (.cells #[.int .i64 cx, .int .i64 cy] 33)) #[.int .i64 p.1, .int .i64 p.2] 33
    rw [show (w.alloc (.cells #[.int .i64 cx, .int .i64 cy] 33)).heap.size = w.heap.size + 1 by simp] at HP0
    have HP := Lib.hid HP0
    have HVG := Lib.hid (And.intro h.rq.blk.lt h.rq.glt)
    clear B0 HP0 h hT
    go_enter Try.func59, Try.ntmps59
    go_upto_region 1 with fail
    generalize (w.alloc (.cells #[.int .i64 cx, .int .i64 cy] 33)).alloc (.cells #[.int .i64 p.1, .int .i64 p.2] 33) = w0 at *
    have u0 := HX.out.kept 0 rfl
    have u1 := HX.out.kept 1 rfl
    have u2 := HS.out.rq.blk.kept 0 HS.out.tab
    have HF := Lib.hid (fun (q : Kept w0) => keptCall (isFreeC a len cap T cx cy q.u (HT.out.next q.b) hl))
    rw [hf'] at HF
    clear hf hf'
    refine wp_region_kept (by kernel_rfl) (by kernel_rfl) ?_
    repeat (go_big_quiet_step ((go_at_call 44; with_reducible exact HF.out _)))
    refine wpQuiet_nil ?_
    rintro w1 ⟨⟨_, K1⟩, rfl⟩
    have HB1 := Lib.hid (below_call HB.out K1)
    clear K1 u0 u1 u2 HF
    go_wp2
    exact bodyPost_ret (v := .tuple #[]) (by simp [results, Try.results59, go_sem]) rfl ⟨rfl, HB1.out⟩
  · obtain ⟨h1, h2, h3, h4⟩ := freeV_small hs hf
    simp only at h1 h2 h3 h4
    obtain ⟨X, rfl⟩ := Int.eq_ofNat_of_zero_le h1
    obtain ⟨Y, rfl⟩ := Int.eq_ofNat_of_zero_le h3
    have hX : X < 20 := by omega
    have hY : Y < 20 := by omega
    have hh : Has s ((X : Int), (Y : Int)) := by
      rcases hn with q | q
      · exact q
      · rw [hf] at q; cases q
    clear h1 h2 h3 h4 hn
    have B0 := below_box2 w (.cells #[.int .i64 (X : Int), .int .i64 (Y : Int)] 33) (.cells #[.int .i64 p.1, .int .i64 p.2] 33)
    have HB := Lib.hid B0
    have HS := Lib.hid (h.next B0)
    have HT := Lib.hid (hT.next B0)
    have HX := Lib.hid ((Blk.new w #[.int .i64 (X : Int), .int .i64 (Y : Int)] 33).alloc (.cells #[.int .i64 p.1, .int .i64 p.2] 33))
    have HP0 := Blk.new (w.alloc (.cells #[.int .i64 (X : Int), .int .i64 (Y : Int)] 33)) #[.int .i64 p.1, .int .i64 p.2] 33
    rw [show (w.alloc (.cells #[.int .i64 (X : Int), .int .i64 (Y : Int)] 33)).heap.size = w.heap.size + 1 by simp] at HP0
    have HP := Lib.hid HP0
    have HVG := Lib.hid (And.intro h.rq.blk.lt h.rq.glt)
    clear B0 HP0 h hT
    go_enter Try.func59, Try.ntmps59
    go_upto_region 1 with fail
    generalize (w.alloc (.cells #[.int .i64 (X : Int), .int .i64 (Y : Int)] 33)).alloc (.cells #[.int .i64 p.1, .int .i64 p.2] 33) = w0 at *
    have u0 := HX.out.kept 0 rfl
    have u1 := HX.out.kept 1 rfl
    have u2 := HS.out.rq.blk.kept 0 HS.out.tab
    have HF := Lib.hid (fun (q : Kept w0) => keptCall (isFreeC a len cap T (X : Int) (Y : Int) q.u (HT.out.next q.b) hl))
    have HH := Lib.hid (fun (q : Kept w0) => keptCall (setHas v cs _ _ V fi _ X Y hX hY q.u (HS.out.rq.blk.next q.b) HS.out.srs HS.out.bits.1))
    rw [hf] at HF
    rw [HS.out.has X Y hX hY, decide_eq_true hh] at HH
    clear hf hh
    refine wp_region_kept (by kernel_rfl) (by kernel_rfl) ?_
    repeat (go_big_quiet_step (first | (go_at_call 44; with_reducible exact HF.out _) | (go_at_call 60; with_reducible exact HH.out _)))
    refine wpQuiet_nil ?_
    rintro w1 ⟨⟨_, K1⟩, rfl⟩
    have HB1 := Lib.hid (below_call HB.out K1)
    clear K1 u0 u1 u2 HF HH
    go_wp2
    exact bodyPost_ret (v := .tuple #[]) (by simp [results, Try.results59, go_sem]) rfl ⟨rfl, HB1.out⟩
/-- What a visit of a new cell leaves. -/
def Visited (B v : Nat) (tv : Value) (s : Qu) (k g : Nat) (w : World) (e : Ending) (w' : World) : Prop :=
  e = .returned (.tuple #[]) ∧ ∃ (cs' : Array Value) (g' : Nat) (rs' : Array Value) (m' fi' : Nat) (V' : Nat → Nat), Sea B w' v tv s k g' cs' rs' m' fi' V' ∧ Frm v g w w' ∧ (g' = g ∨ w.heap.size ≤ g')
set_option maxHeartbeats 4000000 in
theorem visitYes (B v k g m fi : Nat) (a : Option Addr) (len cap : Nat) (T : List (List Bool)) (s : Qu) (cs rs : Array Value) (V : Nat → Nat) (X Y : Nat) (j : Int) (p : C2) (w : World) (h : Sea B w v (.slice a len cap) s k g cs rs m fi V) (hT : Bol.RSA w a len T) (hl : len ≤ 9223372036854775807) (hlen : s.length ≤ 400) (hX : X < 20) (hY : Y < 20) (hf : freeV T ((X : Int), (Y : Int)) = true) (hn : ¬ Has s ((X : Int), (Y : Int)))
    (hj : befV (s ++ [(((X : Int), (Y : Int)), j)]) s.length = p) (hj2 : j.toNat ≤ s.length) (hBw : B ≤ w.heap.size) :
    Calls Try.prog 59 #[.pointer (some ⟨v, 0, none⟩), pt (X : Int) (Y : Int), pt p.1 p.2] w (Visited B v (.slice a len cap) (s ++ [(((X : Int), (Y : Int)), j)]) k g w) := by
  unfold Visited
  have HJ := Lib.hid (And.intro hj hj2)
  have HNH := Lib.hid hn
  have hpl : ((s.map Prod.fst).drop k).length ≤ 400 := by simp; omega
  clear hj hj2
  have B0 := below_box2 w (.cells #[.int .i64 (X : Int), .int .i64 (Y : Int)] 33) (.cells #[.int .i64 p.1, .int .i64 p.2] 33)
  have HB := Lib.hid B0
  have HS := Lib.hid (h.next B0)
  have HT := Lib.hid (hT.next B0)
  have HX := Lib.hid ((Blk.new w #[.int .i64 (X : Int), .int .i64 (Y : Int)] 33).alloc (.cells #[.int .i64 p.1, .int .i64 p.2] 33))
  have HP0 := Blk.new (w.alloc (.cells #[.int .i64 (X : Int), .int .i64 (Y : Int)] 33)) #[.int .i64 p.1, .int .i64 p.2] 33
  rw [show (w.alloc (.cells #[.int .i64 (X : Int), .int .i64 (Y : Int)] 33)).heap.size = w.heap.size + 1 by simp] at HP0
  have HP := Lib.hid HP0
  have HVG := Lib.hid (And.intro h.rq.blk.lt h.rq.glt)
  clear B0 HP0 h hT
  go_enter Try.func59, Try.ntmps59
  go_upto_region 1 with fail
  generalize (w.alloc (.cells #[.int .i64 (X : Int), .int .i64 (Y : Int)] 33)).alloc (.cells #[.int .i64 p.1, .int .i64 p.2] 33) = w0 at *
  have u0 := HX.out.kept 0 rfl
  have u1 := HX.out.kept 1 rfl
  have u2 := HS.out.rq.blk.kept 0 HS.out.tab
  have HF := Lib.hid (fun (q : Kept w0) => keptCall (isFreeC a len cap T (X : Int) (Y : Int) q.u (HT.out.next q.b) hl))
  have HH := Lib.hid (fun (q : Kept w0) => keptCall (setHas v cs _ _ V fi _ X Y hX hY q.u (HS.out.rq.blk.next q.b) HS.out.srs HS.out.bits.1))
  rw [hf] at HF
  rw [HS.out.has X Y hX hY, decide_eq_false hn] at HH
  clear hf hn
  refine wp_region_kept (by kernel_rfl) (by kernel_rfl) ?_
  repeat (go_big_quiet_step (first | (go_at_call 44; with_reducible exact HF.out _) | (go_at_call 60; with_reducible exact HH.out _)))
  refine wpQuiet_nil ?_
  rintro w1 ⟨⟨_, K1⟩, rfl⟩
  have HF1 := Lib.hid ((Frm.of_below HB.out : Frm v g _ _).trans (Frm.of_below K1 : Frm v g _ _) (.inl rfl))
  have HS1 := Lib.hid (HS.out.next K1)
  have HX1 := Lib.hid (HX.out.next K1)
  have HP1 := Lib.hid (HP.out.next K1)
  clear K1 u0 u1 u2 HF HH HS HX HP HT
  go_upto_region 2 with fail
  have u0 := HX1.out.kept 0 rfl
  have u1 := HX1.out.kept 1 rfl
  refine wp_region_ktail 4 (by kernel_rfl) (by kernel_rfl) ?_
  simp only [List.take_succ_cons, List.take_zero, List.drop_succ_cons, List.drop_zero]
  repeat (go_big_quiet_step (fail))
  refine wpQuiet_nil ?_
  rintro w2 ⟨⟨_, K2⟩, rfl⟩
  have HF2 := Lib.hid (HF1.out.trans (Frm.of_below K2 : Frm v g _ _) (.inl rfl))
  have HS2 := Lib.hid (HS1.out.next K2)
  have HX2 := Lib.hid (HX1.out.next K2)
  have HP2 := Lib.hid (HP1.out.next K2)
  clear K2 u0 u1 HF1 HS1 HX1 HP1
  go_wp2_with fail
  refine (setAdd v cs _ _ V fi _ X Y hX hY _ HS2.out.rq.blk HS2.out.srs HS2.out.bits.1).mono ?_
  rintro e w3 ⟨rfl, BL3, G3⟩
  have HF3 := Lib.hid (HF2.out.trans (Frm.of_v G3 : Frm v g _ _) (.inl rfl))
  have HBL3 := Lib.hid BL3
  have HX3 := Lib.hid (HX2.out.row G3 (by have := HVG.out.1; intro q; injection q; omega))
  have HP3 := Lib.hid (HP2.out.row G3 (by have := HVG.out.1; intro q; injection q; omega))
  have HR3 := Lib.hid (fun (q : m ≠ 0) => (HS2.out.rq.ring q).1.row G3 (by have := (HS2.out.rq.ring q).2.2; intro e; injection e; omega))
  clear BL3 G3 HF2 HX2 HP2
  go_upto_region 3 with fail
  have x0 : (0 : Int) ≤ (X : Int) := by omega
  have x1 : (X : Int) < 20 := by omega
  have x2 : (0 : Int) ≤ (Y : Int) := by omega
  have x3 : (Y : Int) < 20 := by omega
  have u0 := HX3.out.kept 0 rfl
  have u1 := HX3.out.kept 1 rfl
  have u2 := HP3.out.kept 0 rfl
  have u3 := HP3.out.kept 1 rfl
  refine wp_region_ktail 9 (by kernel_rfl) (by kernel_rfl) ?_
  simp only [List.take_succ_cons, List.take_zero, List.drop_succ_cons, List.drop_zero]
  repeat (go_big_quiet_step (fail))
  refine wpQuiet_nil ?_
  rintro w4 ⟨⟨_, K4⟩, rfl⟩
  have HBL4 := Lib.hid (HBL3.out.next K4)
  have HF4 := Lib.hid (HF3.out.trans (Frm.of_below K4 : Frm v g _ _) (.inl rfl))
  have HX4 := Lib.hid (HX3.out.next K4)
  have HR4 := Lib.hid (fun q => (HR3.out q).next K4)
  clear K4 u0 u1 u2 u3 HF3 HBL3 HX3 HP3 HR3
  obtain ⟨y0, hy0⟩ : ∃ y, (cs.setIfInBounds (4 + (X * 20 + Y) / 64) (.int .u64 (setB V (X * 20 + Y) ((X * 20 + Y) / 64) : Int)))[11 + X * 40 + Y * 2]? = some y := ⟨_, Array.getElem?_eq_getElem (by have := HS2.out.rq.size; simp; omega)⟩
  obtain ⟨y1, hy1⟩ : ∃ y, (cs.setIfInBounds (4 + (X * 20 + Y) / 64) (.int .u64 (setB V (X * 20 + Y) ((X * 20 + Y) / 64) : Int)))[11 + X * 40 + Y * 2 + 1]? = some y := ⟨_, Array.getElem?_eq_getElem (by have := HS2.out.rq.size; simp; omega)⟩
  have d0 := HBL4.out.cell _ hy0
  have d1 := HBL4.out.frozen (11 + X * 40 + Y * 2)
  have d2 := HBL4.out.cell _ hy1
  have d3 := HBL4.out.frozen (11 + X * 40 + Y * 2 + 1)
  have HX5 := Lib.hid ((HX4.out.other (c := v) (by have := HVG.out.1; omega) (i := 11 + X * 40 + Y * 2) (.int .i64 p.1)).other (c := v) (by have := HVG.out.1; omega) (i := 11 + X * 40 + Y * 2 + 1) (.int .i64 p.2))
  have HF5 := Lib.hid ((HF4.out.set v (.inl rfl) (11 + X * 40 + Y * 2) (.int .i64 p.1)).set v (.inl rfl) (11 + X * 40 + Y * 2 + 1) (.int .i64 p.2))
  have HQ5 := Lib.hid (show RQ ((w4.setCell ⟨v, 11 + X * 40 + Y * 2, none⟩ (.int .i64 p.1)).setCell ⟨v, 11 + X * 40 + Y * 2 + 1, none⟩ (.int .i64 p.2)) v (befC cs V (X * 20 + Y) p) ((s.map Prod.fst).drop k) g rs m fi from
    HS2.out.rq.swap (by unfold befC; rw [show 11 + (X * 20 + Y) * 2 = 11 + X * 40 + Y * 2 by omega]; exact (HBL4.out.set _ _).set _ _) (by unfold befC; simp [HS2.out.rq.size]) (fun i hi => by unfold befC; rw [Array.getElem?_setIfInBounds_ne (by omega), Array.getElem?_setIfInBounds_ne (by omega), Array.getElem?_setIfInBounds_ne (by omega)])
      (fun q => ((HR4.out q).other (HS2.out.rq.ring q).2.2 _).other (HS2.out.rq.ring q).2.2 _) (Nat.lt_of_lt_of_le HVG.out.2 HF5.out.size))
  clear hy0 hy1 HR4 HBL4 HX4 HF4
  go_upto_region 4 with fail
  clear d0 d1 d2 d3
  generalize (w4.setCell ⟨v, 11 + X * 40 + Y * 2, none⟩ (.int .i64 p.1)).setCell ⟨v, 11 + X * 40 + Y * 2 + 1, none⟩ (.int .i64 p.2) = w5 at *
  have u0 := HX5.out.kept 0 rfl
  have u1 := HX5.out.kept 1 rfl
  refine wp_region_ktail 4 (by kernel_rfl) (by kernel_rfl) ?_
  simp only [List.take_succ_cons, List.take_zero, List.drop_succ_cons, List.drop_zero]
  repeat (go_big_quiet_step (fail))
  refine wpQuiet_nil ?_
  rintro w6 ⟨⟨_, K6⟩, rfl⟩
  have HF6 := Lib.hid (HF5.out.trans (Frm.of_below K6 : Frm v g _ _) (.inl rfl))
  have HQ6 := Lib.hid (HQ5.out.frm K6)
  clear K6 u0 u1 HF5 HQ5 HX5
  go_wp2_with fail
  refine (queueAdd v (befC cs V (X * 20 + Y) p) ((s.map Prod.fst).drop k) ((X : Int), (Y : Int)) g rs m fi _ HQ6.out hpl).mono ?_
  rintro e w7 hA
  obtain ⟨rfl, cs', g', rs', m', fi', hq, hc, F7, hg'⟩ := hA
  have HEND := Lib.hid (show ∃ (cs' : Array Value) (g' : Nat) (rs' : Array Value) (m' fi' : Nat) (V' : Nat → Nat), Sea B w7 v (.slice a len cap) (s ++ [(((X : Int), (Y : Int)), j)]) k g' cs' rs' m' fi' V' ∧ Frm v g w w7 ∧ (g' = g ∨ w.heap.size ≤ g') from
    have hs6 := HF6.out.size
    have hg2 : g' = g ∨ w.heap.size ≤ g' := by omega
    ⟨cs', g', rs', m', fi', _, HS2.out.push hX hY HNH.out j p HJ.out.1 HJ.out.2 hq hc (by have := HS2.out.gB; omega), HF6.out.trans F7 (.inl rfl), hg2⟩)
  clear hq hc F7 hg'
  go_wp2
  go_end0
  exact ⟨rfl, HEND.out⟩
end Go.Proofs.Ytkogoflcacameaa
