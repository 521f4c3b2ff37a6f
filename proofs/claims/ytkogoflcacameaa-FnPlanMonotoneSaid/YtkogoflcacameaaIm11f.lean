/- The program's search: reaches. -/
import Derived.Test.YtkogoflcacameaaIm11e
import Derived.Deep.LoopGhost
namespace Go.Proofs.Ytkogoflcacameaa
set_option maxRecDepth 100000
open Go.RowKit
attribute [local go_sem ↓] Go.wp_at_zero Go.wp_at_succ
theorem toNats {c : C2} (h : 0 ≤ c.1 ∧ c.1 < 20 ∧ 0 ≤ c.2 ∧ c.2 < 20) : ∃ X Y : Nat, X < 20 ∧ Y < 20 ∧ c = ((X : Int), (Y : Int)) :=
  ⟨c.1.toNat, c.2.toNat, by omega, by omega, Prod.ext (by simp only; omega) (by simp only; omega)⟩
/-- One cell is visited, from the cell at j. -/
def visQ (fr : C2 → Bool) (s : Qu) (n : C2) (j : Int) : Qu := if Has s n ∨ fr n = false then s else s ++ [(n, j)]
theorem visitC (B v k g m fi : Nat) (a : Option Addr) (len cap : Nat) (T : List (List Bool)) (s : Qu) (cs rs : Array Value) (V : Nat → Nat) (cx cy j : Int) (p : C2) (w : World) (h : Sea B w v (.slice a len cap) s k g cs rs m fi V) (hT : Bol.RSA w a len T) (hl : len ≤ 9223372036854775807) (hs : squV T) (hlen : s.length ≤ 400)
    (hj : befV (s ++ [((cx, cy), j)]) s.length = p) (hj2 : j.toNat ≤ s.length) (hBw : B ≤ w.heap.size) :
    Calls Try.prog 59 #[.pointer (some ⟨v, 0, none⟩), pt cx cy, pt p.1 p.2] w (Visited B v (.slice a len cap) (visQ (freeV T) s (cx, cy) j) k g w) := by
  by_cases hn : Has s (cx, cy) ∨ freeV T (cx, cy) = false
  · rw [show visQ (freeV T) s (cx, cy) j = s from if_pos hn]
    refine (visitNo B v k g m fi a len cap T s cs rs V cx cy p w h hT hl hs hn).mono ?_
    rintro e w' ⟨rfl, hb⟩
    exact ⟨rfl, cs, g, rs, m, fi, V, h.next hb, Frm.of_below hb, .inl rfl⟩
  · rw [show visQ (freeV T) s (cx, cy) j = s ++ [((cx, cy), j)] from if_neg hn]
    have hf : freeV T (cx, cy) = true := by
      cases e : freeV T (cx, cy) with
      | true => rfl
      | false => exact absurd (.inr e) hn
    have hh : ¬ Has s (cx, cy) := fun q => hn (.inl q)
    obtain ⟨X, Y, hX, hY, e⟩ := toNats (freeV_small hs hf)
    obtain ⟨rfl, rfl⟩ : cx = (X : Int) ∧ cy = (Y : Int) := Prod.mk.inj e
    exact visitYes B v k g m fi a len cap T s cs rs V X Y j p w h hT hl hlen hX hY hf hh hj hj2 hBw
/-- The state at a round's head. -/
def Head (B : Nat) (w0 : World) (T : List (List Bool)) (a b : C2) (v : Nat) (tv : Value) (B2 : Nat) (u : World) (s : Qu) (k g : Nat) (cs rs : Array Value) (m fi : Nat) (V : Nat → Nat) : Prop :=
  Sea B u v tv s k g cs rs m fi V ∧ At11 T a b s k ∧ Below B w0 u ∧ AtP u (B2 + 1) b.1 b.2 ∧ v < B2 ∧ B2 + 2 ≤ u.heap.size ∧ (g < B2 ∨ B2 + 2 ≤ g)
/-- What reaches leaves. -/
def Reached (B : Nat) (w0 : World) (T : List (List Bool)) (a b : C2) (v : Nat) (tv : Value) (e : Ending) (w' : World) : Prop :=
  ∃ r : Bool, e = .returned (.bool r) ∧ (r = false → planV T a b = []) ∧ (r = true → ∃ (s : Qu) (k i g : Nat) (cs rs : Array Value) (m fi : Nat) (V : Nat → Nat), Sea B w' v tv s k g cs rs m fi V ∧ At11 T a b s k ∧ i < s.length ∧ qc s i = b) ∧ Below B w0 w'
theorem At11.kls {T : List (List Bool)} {a b : C2} {s : Qu} {k : Nat} (h : At11 T a b s k) : k ≤ s.length := h.2.2.2.choose_spec.2.2.1
theorem queue_at (s : Qu) {k : Nat} (h : k < s.length) : (s.map Prod.fst).drop k = qc s k :: (s.map Prod.fst).drop (k + 1) := by
  rw [List.drop_eq_getElem_cons (by simpa using h)]
  congr 1
  unfold qc
  rw [List.getD_eq_getElem?_getD, List.getElem?_eq_getElem h]
  simp
theorem Sea.took {B v k g m fi f2 : Nat} {u u' : World} {tv : Value} {s : Qu} {cs rs : Array Value} {V : Nat → Nat} {x y : Value} (h : Sea B u v tv s k g cs rs m fi V) (hk : k < s.length) (hq : RQ u' v ((cs.setIfInBounds 2 x).setIfInBounds 3 y) ((s.map Prod.fst).drop (k + 1)) g rs m f2) :
    Sea B u' v tv s (k + 1) g ((cs.setIfInBounds 2 x).setIfInBounds 3 y) rs m f2 V :=
  ⟨hq, by rw [Array.getElem?_setIfInBounds_ne (by omega), Array.getElem?_setIfInBounds_ne (by omega)]; exact h.tab, fun q hq => by rw [Array.getElem?_setIfInBounds_ne (by omega), Array.getElem?_setIfInBounds_ne (by omega)]; exact h.vis q hq, h.bits, h.small, h.par, fun i hi => by
    rw [Array.getElem?_setIfInBounds_ne (by omega), Array.getElem?_setIfInBounds_ne (by omega), Array.getElem?_setIfInBounds_ne (by omega), Array.getElem?_setIfInBounds_ne (by omega)]; exact h.bef i hi, h.vB, h.gB, by omega⟩
theorem expsL11 (fr : C2 → Bool) (s : Qu) (k : Nat) {j : Nat} (h : j ≤ 4) : (exps fr s k j).length ≤ (expd fr s k).length := by
  have one : ∀ i, i < 4 → (exps fr s k i).length ≤ (exps fr s k (i + 1)).length := fun i hi => by
    obtain ⟨t, e⟩ := vis_app fr k (exps fr s k i) ((nbs (qc s k)).getD i (0, 0))
    rw [exps_succ fr s k hi, e, List.length_append]; omega
  have h0 : (exps fr s k 0).length ≤ (exps fr s k 1).length := one 0 (by omega)
  have h1 : (exps fr s k 1).length ≤ (exps fr s k 2).length := one 1 (by omega)
  have h2 : (exps fr s k 2).length ≤ (exps fr s k 3).length := one 2 (by omega)
  have h3 : (exps fr s k 3).length ≤ (exps fr s k 4).length := one 3 (by omega)
  have e4 := exps_four fr s k
  have : j = 0 ∨ j = 1 ∨ j = 2 ∨ j = 3 ∨ j = 4 := by omega
  rw [← e4]
  rcases this with rfl | rfl | rfl | rfl | rfl <;> omega
/-- The state at a neighbour. -/
def Inner (B : Nat) (w0 : World) (T : List (List Bool)) (b : C2) (v : Nat) (tv : Value) (B2 bc : Nat) (c : C2) (u : World) (s : Qu) (k j g : Nat) (cs rs : Array Value) (m fi : Nat) (V : Nat → Nat) : Prop :=
  Sea B u v tv (exps (freeV T) s k j) (k + 1) g cs rs m fi V ∧ Below B w0 u ∧ AtP u (B2 + 1) b.1 b.2 ∧ B2 + 2 ≤ u.heap.size ∧ (g < B2 ∨ B2 + 2 ≤ g) ∧ AtP u bc c.1 c.2 ∧ g ≠ bc ∧ B2 + 2 ≤ bc
theorem Inner.next {B B2 bc v k j g m fi : Nat} {w0 u u' : World} {T : List (List Bool)} {b c : C2} {tv : Value} {s : Qu} {cs rs : Array Value} {V : Nat → Nat} (h : Inner B w0 T b v tv B2 bc c u s k j g cs rs m fi V) (hb : Below u.heap.size u u') (hB : w0.heap.size = B := by rfl) : Inner B w0 T b v tv B2 bc c u' s k j g cs rs m fi V := by
  subst hB
  obtain ⟨h1, h2, h3, h4, h5, h6, h7, h8⟩ := h
  exact ⟨h1.next hb, below_call h2 hb, h3.next hb, Nat.le_trans h4 hb.size, h5, h6.next hb, h7, h8⟩
theorem bef_new {fr : C2 → Bool} {s : Qu} {k j : Nat} (hk : k < s.length) (n : C2) : befV (exps fr s k j ++ [(n, (k : Int))]) (exps fr s k j).length = qc s k ∧ (k : Int).toNat ≤ (exps fr s k j).length := by
  obtain ⟨t, e⟩ := exps_app fr s k j
  have hl : k < (exps fr s k j).length := by rw [e, List.length_append]; omega
  refine ⟨?_, by simp; omega⟩
  unfold befV
  rw [qb_last]
  simp only [Int.toNat_natCast]
  rw [if_neg (by omega), qc_app hl, e]
  unfold qc
  rw [getD_app_left _ _ _ hk]
theorem Inner.step {B B2 bc v k j g m fi : Nat} {w0 u u' : World} {T : List (List Bool)} {b c n : C2} {tv : Value} {s : Qu} {cs rs : Array Value} {V : Nat → Nat} {e : Ending} (h : Inner B w0 T b v tv B2 bc c u s k j g cs rs m fi V) (hv : v < B2) (hj : j < 4) (hc : qc s k = c) (hn : (nbs c).getD j (0, 0) = n) (hvis : Visited B v tv (visQ (freeV T) (exps (freeV T) s k j) n (k : Int)) (k + 1) g u e u') :
    e = .returned (.tuple #[]) ∧ ∃ (g' : Nat) (cs' rs' : Array Value) (m' fi' : Nat) (V' : Nat → Nat), Inner B w0 T b v tv B2 bc c u' s k (j + 1) g' cs' rs' m' fi' V' := by
  obtain ⟨h1, h2, h3, h4, h5, h6, h7, h8⟩ := h
  obtain ⟨he, cs', g', rs', m', fi', V', hS, hF, hg⟩ := hvis
  have hlt := h6.lt
  refine ⟨he, g', cs', rs', m', fi', V', ?_, hF.below h2 (Nat.le_trans (Nat.le_trans (by omega) h1.gB) (Nat.le_of_lt h1.rq.glt)) h1.vB h1.gB, h3.frm hF (by omega) (by omega), Nat.le_trans h4 hF.size, by omega, h6.frm hF (by omega) (by omega), by omega, h8⟩
  rw [exps_succ (freeV T) s k hj, hc, hn]
  exact hS
theorem Inner.head {B2 bc v k g m fi : Nat} {w0 u : World} {T : List (List Bool)} {a b c : C2} {tv : Value} {s : Qu} {cs rs : Array Value} {V : Nat → Nat} (h : Inner w0.heap.size w0 T b v tv B2 bc c u s k 4 g cs rs m fi V) (hA : At11 T a b s k) (hk : k < s.length) (hb : qc s k ≠ b) (hv : v < B2) :
    Head w0.heap.size w0 T a b v tv B2 u (expd (freeV T) s k) (k + 1) g cs rs m fi V := by
  obtain ⟨h1, h2, h3, h4, h5, h6, h7, h8⟩ := h
  rw [exps_four] at h1
  exact ⟨h1, hA.step hk hb, h2, h3, hv, h4, h5⟩
theorem nbv_index (x y : Int) (j : Nat) (hj : j < 4) (w : World) :
    Sem.run Try.prog (Instr.index 95 (nbv x y) (.int .i64 (j : Int))) w = .ok (pt ((nbs (x, y)).getD j (0, 0)).1 ((nbs (x, y)).getD j (0, 0)).2) w := by
  obtain ⟨i0, hi0, hz0, hz1, hz2⟩ := info_parts Cel.infoPt6
  have : j = 0 ∨ j = 1 ∨ j = 2 ∨ j = 3 := by omega
  rcases this with rfl | rfl | rfl | rfl <;> simp [Instr.index, run_underlying Try.underlying95, asIntOf, sizeOf, typeInfo, hi0, hz1, nbs, go_sem]
set_option maxHeartbeats 8000000 in
theorem reachesC (v : Nat) (ta : Option Addr) (len cap : Nat) (T : List (List Bool)) (a b : C2) (w0 w : World) (cs : Array Value) (h : Sea w0.heap.size w v (.slice ta len cap) [] 0 v cs #[] 0 0 (fun _ => 0)) (hT : Bol.RSA w0 ta len T) (hl : len ≤ 9223372036854775807) (hB : Below w0.heap.size w0 w) (hv : squV T ∧ freeV T a = true ∧ freeV T b = true) :
    Calls Try.prog 45 #[.pointer (some ⟨v, 0, none⟩), pt a.1 a.2, pt b.1 b.2] w (Reached w0.heap.size w0 T a b v (.slice ta len cap)) := by
  have HAV := Lib.hid hv
  have HT := Lib.hid hT
  have HST := Lib.hid (At11.start hv)
  have HVL := Lib.hid h.rq.blk.lt
  obtain ⟨B0, B1, hB0, hB1, rfl⟩ := toNats (freeV_small hv.1 hv.2.2)
  have hvB := h.vB
  have B0' := below_box2 w (.cells #[.int .i64 a.1, .int .i64 a.2] 33) (.cells #[.int .i64 (B0 : Int), .int .i64 (B1 : Int)] 33)
  have HB := Lib.hid (below_call hB B0')
  have HS := Lib.hid (h.next B0')
  have HP := Lib.hid ((AtP.box w a.1 a.2 33).alloc (.cells #[.int .i64 (B0 : Int), .int .i64 (B1 : Int)] 33))
  have HQ0 := AtP.box (w.alloc (.cells #[.int .i64 a.1, .int .i64 a.2] 33)) (B0 : Int) (B1 : Int) 33
  rw [show (w.alloc (.cells #[.int .i64 a.1, .int .i64 a.2] 33)).heap.size = w.heap.size + 1 by simp] at HQ0
  have HQ := Lib.hid HQ0
  have HSZ := Lib.hid (show w.heap.size + 2 ≤ ((w.alloc (.cells #[.int .i64 a.1, .int .i64 a.2] 33)).alloc (.cells #[.int .i64 (B0 : Int), .int .i64 (B1 : Int)] 33)).heap.size by simp)
  clear B0' HQ0 h hT hB hv
  go_enter Try.func45, Try.ntmps45
  go_upto_region 1 with fail
  generalize (w.alloc (.cells #[.int .i64 a.1, .int .i64 a.2] 33)).alloc (.cells #[.int .i64 (B0 : Int), .int .i64 (B1 : Int)] 33) = w1 at *
  have d0 := HP.out.c0
  have d1 := HP.out.c1
  have HV := Lib.hid (visitC w0.heap.size v 0 v 0 0 ta len cap T [] cs #[] (fun _ => 0) a.1 a.2 (-1) a w1 HS.out (HT.out.next HB.out) hl HAV.out.1 (by simp) (by simp [befV, qb, qc]) (by simp) HB.out.size)
  go_wp2_with fail
  refine HV.out.mono ?_
  rintro e w2 hvv
  obtain ⟨rfl, cs2, g2, rs2, m2, fi2, V2, S2, F2, G2⟩ := hvv
  rw [show visQ (freeV T) [] (a.1, a.2) (-1) = [(a, -1)] from if_neg (by rintro (⟨i, hi, _⟩ | q); simp at hi; rw [HAV.out.2.1] at q; cases q)] at S2
  have HH2 := Lib.hid (show Head w0.heap.size w0 T a ((B0 : Int), (B1 : Int)) v (.slice ta len cap) w.heap.size w2 [(a, -1)] 0 g2 cs2 rs2 m2 fi2 V2 from
    ⟨S2, HST.out, F2.below HB.out HB.out.size S2.vB HS.out.vB, HQ.out.frm F2 (by have := HVL.out; omega) (by have := HVL.out; omega), HVL.out, by have := F2.size; have := HSZ.out; omega, by have := HVL.out; have := HSZ.out; omega⟩)
  clear S2 F2 G2 HV d0 d1 HST HS HP HQ HB
  go_wp2
  go_loopg [] 401 (fun gk wr => ∃ (s : Qu) (k g : Nat) (cs rs : Array Value) (m fi : Nat) (V : Nat → Nat), gk = 401 - k ∧ Hid (Head w0.heap.size w0 T a ((B0 : Int), (B1 : Int)) v (.slice ta len cap) w.heap.size wr s k g cs rs m fi V))
  case atStart => exact ⟨_, _, _, _, _, _, _, _, rfl, HH2⟩
  case round =>
    obtain ⟨s, k, g, cs3, rs3, m3, fi3, V3, rfl, HHd⟩ := hrel
    clear HH2
    have HS := Lib.hid HHd.out.1
    have HAt := Lib.hid HHd.out.2.1
    have HQ := Lib.hid HHd.out.2.2.2.1
    have HB := Lib.hid HHd.out.2.2.1
    have u0 := HQ.out.kepts.1
    have u1 := HQ.out.kepts.2
    have HH := Lib.hid (fun (q : Kept wr) => keptCall (setHas v cs3 _ _ V3 fi3 _ B0 B1 hB0 hB1 q.u (HS.out.rq.blk.next q.b) HS.out.srs HS.out.bits.1))
    rw [HS.out.has B0 B1 hB0 hB1] at HH
    by_cases hk : s.length ≤ k
    · have u2 := HS.out.rq.blk.kept 3 (show cs3[3]? = some (.int .i64 0) from by have q := HS.out.rq.cnt; rw [show ((s.map Prod.fst).drop k).length = 0 by simp; omega] at q; exact q)
      go_upto_region 2 with fail
      refine wp_region_kept (by kernel_rfl) (by kernel_rfl) ?_
      repeat (go_big_quiet_step (fail))
      refine wpQuiet_nil ?_
      rintro w4 ⟨⟨_, K1⟩, rfl⟩
      have HB2 := Lib.hid (below_call HB.out K1)
      have HS2 := Lib.hid (HS.out.next K1)
      have HQ2 := Lib.hid (HQ.out.next K1)
      clear K1 u0 u1 u2 HH
      have u0 := HQ2.out.kepts.1
      have u1 := HQ2.out.kepts.2
      have HH := Lib.hid (fun (q : Kept w4) => keptCall (setHas v cs3 _ _ V3 fi3 _ B0 B1 hB0 hB1 q.u (HS2.out.rq.blk.next q.b) HS2.out.srs HS2.out.bits.1))
      rw [HS2.out.has B0 B1 hB0 hB1] at HH
      go_upto_region 9 with fail
      refine wp_region_kept (by kernel_rfl) (by kernel_rfl) ?_
      repeat (go_big_quiet_step ((go_at_call 60; with_reducible exact HH.out _)))
      refine wpQuiet_nil ?_
      rintro w5 ⟨⟨_, K1⟩, rfl⟩
      have HB3 := Lib.hid (below_call HB2.out K1)
      have HS3 := Lib.hid (HS2.out.next K1)
      clear K1 u0 u1 HH
      go_wp2
      go_ret
      unfold Reached
      exact ⟨_, rfl, fun _ => HAt.out.none hk, fun q => by
        obtain ⟨i, hi, e⟩ := of_decide_eq_true q
        exact ⟨s, k, i, g, cs3, rs3, m3, fi3, V3, HS3.out, HAt.out, hi, e⟩, HB3.out⟩
    obtain ⟨n, hn⟩ : ∃ n, ((s.map Prod.fst).drop k).length = n := ⟨_, rfl⟩
    have n0 : 0 < n := by rw [← hn]; simp; omega
    have n1 : (0 : Int) < (n : Int) := by omega
    have u2 := HS.out.rq.blk.kept 3 (show cs3[3]? = some (.int .i64 (n : Int)) from by have q := HS.out.rq.cnt; rw [hn] at q; exact q)
    have HLN := Lib.hid hn
    clear hn
    by_cases hh : Has s ((B0 : Int), (B1 : Int))
    · rw [decide_eq_true hh] at HH
      have HHS := Lib.hid hh
      clear hh
      go_upto_region 2 with fail
      refine wp_region_kept (by kernel_rfl) (by kernel_rfl) ?_
      repeat (go_big_quiet_step ((go_at_call 60; with_reducible exact HH.out _)))
      refine wpQuiet_nil ?_
      rintro w4 ⟨⟨_, K1⟩, rfl⟩
      have HB2 := Lib.hid (below_call HB.out K1)
      have HS2 := Lib.hid (HS.out.next K1)
      have HQ2 := Lib.hid (HQ.out.next K1)
      clear K1 u0 u1 u2 HH
      have u0 := HQ2.out.kepts.1
      have u1 := HQ2.out.kepts.2
      have HH := Lib.hid (fun (q : Kept w4) => keptCall (setHas v cs3 _ _ V3 fi3 _ B0 B1 hB0 hB1 q.u (HS2.out.rq.blk.next q.b) HS2.out.srs HS2.out.bits.1))
      rw [HS2.out.has B0 B1 hB0 hB1, decide_eq_true HHS.out] at HH
      go_upto_region 9 with fail
      refine wp_region_kept (by kernel_rfl) (by kernel_rfl) ?_
      repeat (go_big_quiet_step ((go_at_call 60; with_reducible exact HH.out _)))
      refine wpQuiet_nil ?_
      rintro w5 ⟨⟨_, K1⟩, rfl⟩
      have HB3 := Lib.hid (below_call HB2.out K1)
      have HS3 := Lib.hid (HS2.out.next K1)
      clear K1 u0 u1 HH
      go_wp2
      go_ret
      unfold Reached
      exact ⟨true, rfl, fun q => by (cases q), fun _ => by
        obtain ⟨i, hi, e⟩ := HHS.out
        exact ⟨s, k, i, g, cs3, rs3, m3, fi3, V3, HS3.out, HAt.out, hi, e⟩, HB3.out⟩
    rw [decide_eq_false hh] at HH
    have HHS := Lib.hid hh
    clear hh
    go_upto_region 2 with fail
    refine wp_region_kept (by kernel_rfl) (by kernel_rfl) ?_
    repeat (go_big_quiet_step ((go_at_call 60; with_reducible exact HH.out _)))
    refine wpQuiet_nil ?_
    rintro w4 ⟨⟨_, K1⟩, rfl⟩
    have HS4 := Lib.hid (HS.out.next K1)
    have HQ4 := Lib.hid (HQ.out.next K1)
    have HB4 := Lib.hid (below_call HB.out K1)
    have HSZ4 := Lib.hid (Nat.le_trans HHd.out.2.2.2.2.2.1 K1.size)
    have HG4 := Lib.hid HHd.out.2.2.2.2.2.2
    clear K1 u0 u1 u2 HH HS HQ HB HHd
    have hk' : k < s.length := by omega
    obtain ⟨C0, C1, hC0, hC1, hc⟩ := toNats (HS4.out.small k hk')
    have HTK := Lib.hid (queueTake v cs3 (qc s k) ((s.map Prod.fst).drop (k + 1)) g rs3 m3 fi3 w4 (by rw [← queue_at s hk']; exact HS4.out.rq))
    have hbf := fun (n : C2) (j : Nat) => bef_new (fr := freeV T) (j := j) hk' n
    rw [hc] at HTK hbf
    have HBF := Lib.hid hbf
    have HCE := Lib.hid hc
    have HKL := Lib.hid hk'
    have HVB := Lib.hid HS4.out.vB
    have HVW := Lib.hid HS4.out.rq.blk.lt
    clear hc hk hk' hbf
    go_wp2_with fail
    refine HTK.out.mono ?_
    rintro e w5 ⟨rfl, Q5, G5⟩
    have HS5 := Lib.hid (HS4.out.took HKL.out Q5)
    have F5 : Frm v g w4 w5 := Frm.of_v G5
    have HB5 := Lib.hid (F5.below HB4.out HB4.out.size HVB.out HS4.out.gB)
    have HQ5 := Lib.hid (HQ4.out.frm F5 (by have := HVL.out; omega) (by have := HG4.out; have := HVL.out; omega))
    have HSZ5 := Lib.hid (Nat.le_trans HSZ4.out F5.size)
    clear Q5 G5 F5 HTK HS4 HB4 HQ4 HSZ4 HVW
    have Bx := below_box w5 (.cells #[.int .i64 (C0 : Int), .int .i64 (C1 : Int)] 33)
    have HI := Lib.hid (show Inner w0.heap.size w0 T ((B0 : Int), (B1 : Int)) v (.slice ta len cap) w.heap.size w5.heap.size ((C0 : Int), (C1 : Int)) (w5.alloc (.cells #[.int .i64 (C0 : Int), .int .i64 (C1 : Int)] 33)) s k 0 g _ rs3 m3 _ V3 from
      ⟨HS5.out.next Bx, below_call HB5.out Bx, HQ5.out.next Bx, Nat.le_trans HSZ5.out Bx.size, HG4.out, AtP.box w5 (C0 : Int) (C1 : Int) 33, by have := HS5.out.rq.glt; omega, HSZ5.out⟩)
    clear Bx HS5 HB5 HQ5 HG4
    generalize (cs3.setIfInBounds 2 (.int .i64 (((fi3 + 1) % m3 : Nat) : Int))).setIfInBounds 3 (.int .i64 (((s.map Prod.fst).drop (k + 1)).length : Int)) = cs6 at *
    generalize (fi3 + 1) % m3 = fi6 at *
    go_upto_region 4 with fail
    generalize w5.alloc (.cells #[.int .i64 (C0 : Int), .int .i64 (C1 : Int)] 33) = w6 at *
    obtain ⟨bc, hbc⟩ : ∃ bc, w5.heap.size = bc := ⟨_, rfl⟩
    rw [hbc] at HI
    rw [hbc]
    clear hbc
    have d0 := HI.out.2.2.2.2.2.1.c0
    have d1 := HI.out.2.2.2.2.2.1.c1
    have HNB := Lib.hid (nbsC (C0 : Int) (C1 : Int) w6 ⟨by simp only; omega, by simp only; omega, by simp only; omega, by simp only; omega⟩)
    go_wp2_with fail
    refine HNB.out.mono ?_
    rintro e w7 ⟨rfl, B7⟩
    have HI7 := Lib.hid (HI.out.next B7)
    clear B7 HNB d0 d1 HI
    go_wp2
    go_loopw [34] (fun jv wr => ∃ (j g : Nat) (cs rs : Array Value) (m fi : Nat) (V : Nat → Nat), j ≤ 4 ∧ jv = .int .i64 (j : Int) ∧ Hid (Inner w0.heap.size w0 T ((B0 : Int), (B1 : Int)) v (.slice ta len cap) w.heap.size bc ((C0 : Int), (C1 : Int)) wr s k j g cs rs m fi V)) (fun jv _ => 4 - (intOf jv).toNat)
    case atStart => exact ⟨0, _, _, _, _, _, _, by omega, rfl, HI7⟩
    case round =>
      obtain ⟨j, g8, cs8, rs8, m8, fi8, V8, hj, rfl, HI8⟩ := hrel
      clear HI7
      by_cases hj4 : j < 4
      · obtain ⟨nx, ny, hn⟩ : ∃ nx ny, (nbs ((C0 : Int), (C1 : Int))).getD j (0, 0) = (nx, ny) := ⟨_, _, rfl⟩
        have hix := nbv_index (C0 : Int) (C1 : Int) j hj4 wr
        rw [hn] at hix
        have HN := Lib.hid hn
        have j1 : (0 : Int) ≤ (j : Int) := by omega
        have j2 : (j : Int) < 4 := by omega
        have HSL := Lib.hid (show (exps (freeV T) s k j).length ≤ 400 from Nat.le_trans (expsL11 (freeV T) s k hj) (HAt.out.step HKL.out (fun q => HHS.out ⟨k, HKL.out, q⟩)).len)
        have Bx := below_box wr (.cells #[.int .i64 nx, .int .i64 ny] 33)
        have HI9 := Lib.hid (HI8.out.next Bx)
        have HP9 := Lib.hid (AtP.box wr nx ny 33)
        clear Bx HI8 hn
        go_upto_region 7 with fail
        generalize wr.alloc (.cells #[.int .i64 nx, .int .i64 ny] 33) = w9 at *
        have d0 := HP9.out.c0
        have d1 := HP9.out.c1
        have d2 := HI9.out.2.2.2.2.2.1.c0
        have d3 := HI9.out.2.2.2.2.2.1.c1
        have HVI := Lib.hid (visitC w0.heap.size v (k + 1) g8 m8 fi8 ta len cap T (exps (freeV T) s k j) cs8 rs8 V8 nx ny (k : Int) ((C0 : Int), (C1 : Int)) w9 HI9.out.1 (HT.out.next HI9.out.2.1) hl HAV.out.1 HSL.out (HBF.out (nx, ny) j).1 (HBF.out (nx, ny) j).2 HI9.out.2.1.size)
        clear hix
        go_wp2_with fail
        refine HVI.out.mono ?_
        rintro e w10 hvv
        obtain ⟨rfl, g10, cs10, rs10, m10, fi10, V10, hi10⟩ := HI9.out.step HVL.out hj4 HCE.out HN.out hvv
        have HI10 := Lib.hid hi10
        clear hi10 hvv HVI d0 d1 d2 d3 HI9 HP9 HSL
        go_wp2
        go_roundw
        case rel => exact ⟨j + 1, g10, cs10, rs10, m10, fi10, V10, by omega, by congr 1, HI10⟩
        case measure => simp [intOf]; omega
      · obtain rfl : j = 4 := by omega
        have HE := Lib.hid (HI8.out.head HAt.out HKL.out (fun q => HHS.out ⟨k, HKL.out, q⟩) HVL.out)
        have HM := Lib.hid (show 401 - (k + 1) < 401 - k by have := HAt.out.len; have := HKL.out; omega)
        clear HI8
        go_wp2
        go_roundg (401 - (k + 1))
        case rel => exact ⟨_, _, _, _, _, _, _, _, rfl, HE⟩
        case measure => exact HM.out
end Go.Proofs.Ytkogoflcacameaa
