/- Several of my texts in one: Im11f, Rv11, Im11g, Im11h, Im11i. -/
import Derived.Test.YtkogoflcacameaaGreatDoorZc11i
import Derived.Deep.LoopGhost
import Derived.Great.BuildSlice
import Derived.Deep.WholeRow
namespace Go.Proofs.YtkogoflcacameaaGreatDoor
set_option maxRecDepth 100000
open Go.RowKit
attribute [local go_sem ↓] Go.wp_at_zero Go.wp_at_succ
theorem toNats {c : C2} (h : 0 ≤ c.1 ∧ c.1 < 20 ∧ 0 ≤ c.2 ∧ c.2 < 20) : ∃ X Y : Nat, X < 20 ∧ Y < 20 ∧ c = ((X : Int), (Y : Int)) :=
  ⟨c.1.toNat, c.2.toNat, by omega, by omega, Prod.ext (by simp only; omega) (by simp only; omega)⟩
/-- One cell is visited, from the cell at j. -/
def visQ (fr : C2 → Bool) (s : Qu) (n : C2) (j : Int) : Qu := if Has s n ∨ fr n = false then s else s ++ [(n, j)]
theorem visitC (B v k g m fi : Nat) (a : Option Addr) (len cap : Nat) (T : List (List Bool)) (s : Qu) (cs rs : Array Value) (V : Nat → Nat) (cx cy j : Int) (p : C2) (w : World) (h : Sea B w v (.slice a len cap) s k g cs rs m fi V) (hT : Bol.RSA w a len T) (hl : len ≤ 9223372036854775807) (hs : squV T) (hlen : s.length ≤ 400)
    (hj : befV (s ++ [((cx, cy), j)]) s.length = p) (hj2 : j.toNat ≤ s.length) (hBw : B ≤ w.heap.size) :
    Calls Tryz.prog 46 #[.pointer (some ⟨v, 0, none⟩), pt cx cy, pt p.1 p.2] w (Visited B v (.slice a len cap) (visQ (freeV T) s (cx, cy) j) k g w) := by
  by_cases hn : Has s (cx, cy) ∨ freeV T (cx, cy) = false
  · rw [show visQ (freeV T) s (cx, cy) j = s from if_pos hn]
    refine (visitNo B v k g m fi a len cap T s cs rs V cx cy p w h hT hl hs hn).mono ?_
    rintro e w' ⟨rfl, hb⟩
    exact ⟨rfl, cs, g, rs, m, fi, V, h.next hb, Frm.of_below hb, .inl rfl⟩
  · rw [show visQ (freeV T) s (cx, cy) j = s ++ [((cx, cy), j)] from if_neg hn]
    have hf : freeV T (cx, cy) = true := by
      cases e : freeV T (cx, cy) with
      | true => rfl
      | false => exact absurd (.inr e) hn
    have hh : ¬ Has s (cx, cy) := fun q => hn (.inl q)
    obtain ⟨X, Y, hX, hY, e⟩ := toNats (freeV_small hs hf)
    obtain ⟨rfl, rfl⟩ : cx = (X : Int) ∧ cy = (Y : Int) := Prod.mk.inj e
    exact visitYes B v k g m fi a len cap T s cs rs V X Y j p w h hT hl hlen hX hY hf hh hj hj2 hBw
/-- The state at a round's head. -/
def Head (B : Nat) (w0 : World) (T : List (List Bool)) (a b : C2) (v : Nat) (tv : Value) (B2 : Nat) (u : World) (s : Qu) (k g : Nat) (cs rs : Array Value) (m fi : Nat) (V : Nat → Nat) : Prop :=
  Sea B u v tv s k g cs rs m fi V ∧ At11 T a b s k ∧ Below B w0 u ∧ AtP u (B2 + 1) b.1 b.2 ∧ v < B2 ∧ B2 + 2 ≤ u.heap.size ∧ (g < B2 ∨ B2 + 2 ≤ g)
/-- What reaches leaves. -/
def Reached (B : Nat) (w0 : World) (T : List (List Bool)) (a b : C2) (v : Nat) (tv : Value) (e : Ending) (w' : World) : Prop :=
  ∃ r : Bool, e = .returned (.bool r) ∧ (r = false → planV T a b = []) ∧ (r = true → ∃ (s : Qu) (k i g : Nat) (cs rs : Array Value) (m fi : Nat) (V : Nat → Nat), Sea B w' v tv s k g cs rs m fi V ∧ At11 T a b s k ∧ i < s.length ∧ qc s i = b) ∧ Below B w0 w'
theorem At11.kls {T : List (List Bool)} {a b : C2} {s : Qu} {k : Nat} (h : At11 T a b s k) : k ≤ s.length := h.2.2.2.choose_spec.2.2.1
theorem queue_at (s : Qu) {k : Nat} (h : k < s.length) : (s.map Prod.fst).drop k = qc s k :: (s.map Prod.fst).drop (k + 1) := by
  rw [List.drop_eq_getElem_cons (by simpa using h)]
  congr 1
  unfold qc
  rw [List.getD_eq_getElem?_getD, List.getElem?_eq_getElem h]
  simp
theorem Sea.took {B v k g m fi f2 : Nat} {u u' : World} {tv : Value} {s : Qu} {cs rs : Array Value} {V : Nat → Nat} {x y : Value} (h : Sea B u v tv s k g cs rs m fi V) (hk : k < s.length) (hq : RQ u' v ((cs.setIfInBounds 2 x).setIfInBounds 3 y) ((s.map Prod.fst).drop (k + 1)) g rs m f2) :
    Sea B u' v tv s (k + 1) g ((cs.setIfInBounds 2 x).setIfInBounds 3 y) rs m f2 V :=
  ⟨hq, by rw [Array.getElem?_setIfInBounds_ne (by omega), Array.getElem?_setIfInBounds_ne (by omega)]; exact h.tab, fun q hq => by rw [Array.getElem?_setIfInBounds_ne (by omega), Array.getElem?_setIfInBounds_ne (by omega)]; exact h.vis q hq, h.bits, h.small, h.par, fun i hi => by
    rw [Array.getElem?_setIfInBounds_ne (by omega), Array.getElem?_setIfInBounds_ne (by omega), Array.getElem?_setIfInBounds_ne (by omega), Array.getElem?_setIfInBounds_ne (by omega)]; exact h.bef i hi, h.vB, h.gB, by omega⟩
theorem expsL11 (fr : C2 → Bool) (s : Qu) (k : Nat) {j : Nat} (h : j ≤ 4) : (exps fr s k j).length ≤ (expd fr s k).length := by
  have one : ∀ i, i < 4 → (exps fr s k i).length ≤ (exps fr s k (i + 1)).length := fun i hi => by
    obtain ⟨t, e⟩ := vis_app fr k (exps fr s k i) ((nbs (qc s k)).getD i (0, 0))
    rw [exps_succ fr s k hi, e, List.length_append]; omega
  have h0 : (exps fr s k 0).length ≤ (exps fr s k 1).length := one 0 (by omega)
  have h1 : (exps fr s k 1).length ≤ (exps fr s k 2).length := one 1 (by omega)
  have h2 : (exps fr s k 2).length ≤ (exps fr s k 3).length := one 2 (by omega)
  have h3 : (exps fr s k 3).length ≤ (exps fr s k 4).length := one 3 (by omega)
  have e4 := exps_four fr s k
  have : j = 0 ∨ j = 1 ∨ j = 2 ∨ j = 3 ∨ j = 4 := by omega
  rw [← e4]
  rcases this with rfl | rfl | rfl | rfl | rfl <;> omega
/-- The state at a neighbour. -/
def Inner (B : Nat) (w0 : World) (T : List (List Bool)) (b : C2) (v : Nat) (tv : Value) (B2 bc : Nat) (c : C2) (u : World) (s : Qu) (k j g : Nat) (cs rs : Array Value) (m fi : Nat) (V : Nat → Nat) : Prop :=
  Sea B u v tv (exps (freeV T) s k j) (k + 1) g cs rs m fi V ∧ Below B w0 u ∧ AtP u (B2 + 1) b.1 b.2 ∧ B2 + 2 ≤ u.heap.size ∧ (g < B2 ∨ B2 + 2 ≤ g) ∧ AtP u bc c.1 c.2 ∧ g ≠ bc ∧ B2 + 2 ≤ bc
theorem Inner.next {B B2 bc v k j g m fi : Nat} {w0 u u' : World} {T : List (List Bool)} {b c : C2} {tv : Value} {s : Qu} {cs rs : Array Value} {V : Nat → Nat} (h : Inner B w0 T b v tv B2 bc c u s k j g cs rs m fi V) (hb : Below u.heap.size u u') (hB : w0.heap.size = B := by rfl) : Inner B w0 T b v tv B2 bc c u' s k j g cs rs m fi V := by
  subst hB
  obtain ⟨h1, h2, h3, h4, h5, h6, h7, h8⟩ := h
  exact ⟨h1.next hb, below_call h2 hb, h3.next hb, Nat.le_trans h4 hb.size, h5, h6.next hb, h7, h8⟩
theorem bef_new {fr : C2 → Bool} {s : Qu} {k j : Nat} (hk : k < s.length) (n : C2) : befV (exps fr s k j ++ [(n, (k : Int))]) (exps fr s k j).length = qc s k ∧ (k : Int).toNat ≤ (exps fr s k j).length := by
  obtain ⟨t, e⟩ := exps_app fr s k j
  have hl : k < (exps fr s k j).length := by rw [e, List.length_append]; omega
  refine ⟨?_, by simp; omega⟩
  unfold befV
  rw [qb_last]
  simp only [Int.toNat_natCast]
  rw [if_neg (by omega), qc_app hl, e]
  unfold qc
  rw [getD_app_left _ _ _ hk]
theorem Inner.step {B B2 bc v k j g m fi : Nat} {w0 u u' : World} {T : List (List Bool)} {b c n : C2} {tv : Value} {s : Qu} {cs rs : Array Value} {V : Nat → Nat} {e : Ending} (h : Inner B w0 T b v tv B2 bc c u s k j g cs rs m fi V) (hv : v < B2) (hj : j < 4) (hc : qc s k = c) (hn : (nbs c).getD j (0, 0) = n) (hvis : Visited B v tv (visQ (freeV T) (exps (freeV T) s k j) n (k : Int)) (k + 1) g u e u') :
    e = .returned (.tuple #[]) ∧ ∃ (g' : Nat) (cs' rs' : Array Value) (m' fi' : Nat) (V' : Nat → Nat), Inner B w0 T b v tv B2 bc c u' s k (j + 1) g' cs' rs' m' fi' V' := by
  obtain ⟨h1, h2, h3, h4, h5, h6, h7, h8⟩ := h
  obtain ⟨he, cs', g', rs', m', fi', V', hS, hF, hg⟩ := hvis
  have hlt := h6.lt
  refine ⟨he, g', cs', rs', m', fi', V', ?_, hF.below h2 (Nat.le_trans (Nat.le_trans (by omega) h1.gB) (Nat.le_of_lt h1.rq.glt)) h1.vB h1.gB, h3.frm hF (by omega) (by omega), Nat.le_trans h4 hF.size, by omega, h6.frm hF (by omega) (by omega), by omega, h8⟩
  rw [exps_succ (freeV T) s k hj, hc, hn]
  exact hS
theorem Inner.head {B2 bc v k g m fi : Nat} {w0 u : World} {T : List (List Bool)} {a b c : C2} {tv : Value} {s : Qu} {cs rs : Array Value} {V : Nat → Nat} (h : Inner w0.heap.size w0 T b v tv B2 bc c u s k 4 g cs rs m fi V) (hA : At11 T a b s k) (hk : k < s.length) (hb : qc s k ≠ b) (hv : v < B2) :
    Head w0.heap.size w0 T a b v tv B2 u (expd (freeV T) s k) (k + 1) g cs rs m fi V := by
  obtain ⟨h1, h2, h3, h4, h5, h6, h7, h8⟩ := h
  rw [exps_four] at h1
  exact ⟨h1, hA.step hk hb, h2, h3, hv, h4, h5⟩
theorem nbv_index (x y : Int) (j : Nat) (hj : j < 4) (w : World) :
    Sem.run Tryz.prog (Instr.index 98 (nbv x y) (.int .i64 (j : Int))) w = .ok (pt ((nbs (x, y)).getD j (0, 0)).1 ((nbs (x, y)).getD j (0, 0)).2) w := by
  obtain ⟨i0, hi0, hz0, hz1, hz2⟩ := info_parts Cel.infoPt6
  have : j = 0 ∨ j = 1 ∨ j = 2 ∨ j = 3 := by omega
  rcases this with rfl | rfl | rfl | rfl <;> simp [Instr.index, run_underlying Tryz.underlying98, asIntOf, sizeOf, typeInfo, hi0, hz1, nbs, go_sem]
set_option maxHeartbeats 8000000 in
theorem reachesC (v : Nat) (ta : Option Addr) (len cap : Nat) (T : List (List Bool)) (a b : C2) (w0 w : World) (cs : Array Value) (h : Sea w0.heap.size w v (.slice ta len cap) [] 0 v cs #[] 0 0 (fun _ => 0)) (hT : Bol.RSA w0 ta len T) (hl : len ≤ 9223372036854775807) (hB : Below w0.heap.size w0 w) (hv : squV T ∧ freeV T a = true ∧ freeV T b = true) :
    Calls Tryz.prog 26 #[.pointer (some ⟨v, 0, none⟩), pt a.1 a.2, pt b.1 b.2] w (Reached w0.heap.size w0 T a b v (.slice ta len cap)) := by
  have HAV := Lib.hid hv
  have HT := Lib.hid hT
  have HST := Lib.hid (At11.start hv)
  have HVL := Lib.hid h.rq.blk.lt
  obtain ⟨B0, B1, hB0, hB1, rfl⟩ := toNats (freeV_small hv.1 hv.2.2)
  have hvB := h.vB
  have B0' := below_box2 w (.cells #[.int .i64 a.1, .int .i64 a.2] 37) (.cells #[.int .i64 (B0 : Int), .int .i64 (B1 : Int)] 37)
  have HB := Lib.hid (below_call hB B0')
  have HS := Lib.hid (h.next B0')
  have HP := Lib.hid ((AtP.box w a.1 a.2 37).alloc (.cells #[.int .i64 (B0 : Int), .int .i64 (B1 : Int)] 37))
  have HQ0 := AtP.box (w.alloc (.cells #[.int .i64 a.1, .int .i64 a.2] 37)) (B0 : Int) (B1 : Int) 37
  rw [show (w.alloc (.cells #[.int .i64 a.1, .int .i64 a.2] 37)).heap.size = w.heap.size + 1 by simp] at HQ0
  have HQ := Lib.hid HQ0
  have HSZ := Lib.hid (show w.heap.size + 2 ≤ ((w.alloc (.cells #[.int .i64 a.1, .int .i64 a.2] 37)).alloc (.cells #[.int .i64 (B0 : Int), .int .i64 (B1 : Int)] 37)).heap.size by simp)
  clear B0' HQ0 h hT hB hv
  go_enter Tryz.func26, Tryz.ntmps26
  go_upto_region 1 with fail
  generalize (w.alloc (.cells #[.int .i64 a.1, .int .i64 a.2] 37)).alloc (.cells #[.int .i64 (B0 : Int), .int .i64 (B1 : Int)] 37) = w1 at *
  have d0 := HP.out.c0
  have d1 := HP.out.c1
  have HV := Lib.hid (visitC w0.heap.size v 0 v 0 0 ta len cap T [] cs #[] (fun _ => 0) a.1 a.2 (-1) a w1 HS.out (HT.out.next HB.out) hl HAV.out.1 (by simp) (by simp [befV, qb, qc]) (by simp) HB.out.size)
  go_wp2_with fail
  refine HV.out.mono ?_
  rintro e w2 hvv
  obtain ⟨rfl, cs2, g2, rs2, m2, fi2, V2, S2, F2, G2⟩ := hvv
  rw [show visQ (freeV T) [] (a.1, a.2) (-1) = [(a, -1)] from if_neg (by rintro (⟨i, hi, _⟩ | q); simp at hi; rw [HAV.out.2.1] at q; cases q)] at S2
  have HH2 := Lib.hid (show Head w0.heap.size w0 T a ((B0 : Int), (B1 : Int)) v (.slice ta len cap) w.heap.size w2 [(a, -1)] 0 g2 cs2 rs2 m2 fi2 V2 from
    ⟨S2, HST.out, F2.below HB.out HB.out.size S2.vB HS.out.vB, HQ.out.frm F2 (by have := HVL.out; omega) (by have := HVL.out; omega), HVL.out, by have := F2.size; have := HSZ.out; omega, by have := HVL.out; have := HSZ.out; omega⟩)
  clear S2 F2 G2 HV d0 d1 HST HS HP HQ HB
  go_wp2
  go_loopg [] 401 (fun gk wr => ∃ (s : Qu) (k g : Nat) (cs rs : Array Value) (m fi : Nat) (V : Nat → Nat), gk = 401 - k ∧ Hid (Head w0.heap.size w0 T a ((B0 : Int), (B1 : Int)) v (.slice ta len cap) w.heap.size wr s k g cs rs m fi V))
  case atStart => exact ⟨_, _, _, _, _, _, _, _, rfl, HH2⟩
  case round =>
    obtain ⟨s, k, g, cs3, rs3, m3, fi3, V3, rfl, HHd⟩ := hrel
    clear HH2
    have HS := Lib.hid HHd.out.1
    have HAt := Lib.hid HHd.out.2.1
    have HQ := Lib.hid HHd.out.2.2.2.1
    have HB := Lib.hid HHd.out.2.2.1
    have u0 := HQ.out.kepts.1
    have u1 := HQ.out.kepts.2
    have HH := Lib.hid (fun (q : Kept wr) => keptCall (setHas v cs3 _ _ V3 fi3 _ B0 B1 hB0 hB1 q.u (HS.out.rq.blk.next q.b) HS.out.srs HS.out.bits.1))
    rw [HS.out.has B0 B1 hB0 hB1] at HH
    by_cases hk : s.length ≤ k
    · have u2 := HS.out.rq.blk.kept 3 (show cs3[3]? = some (.int .i64 0) from by have q := HS.out.rq.cnt; rw [show ((s.map Prod.fst).drop k).length = 0 by simp; omega] at q; exact q)
      go_upto_region 2 with fail
      refine wp_region_kept (by kernel_rfl) (by kernel_rfl) ?_
      repeat (go_big_quiet_step (fail))
      refine wpQuiet_nil ?_
      rintro w4 ⟨⟨_, K1⟩, rfl⟩
      have HB2 := Lib.hid (below_call HB.out K1)
      have HS2 := Lib.hid (HS.out.next K1)
      have HQ2 := Lib.hid (HQ.out.next K1)
      clear K1 u0 u1 u2 HH
      have u0 := HQ2.out.kepts.1
      have u1 := HQ2.out.kepts.2
      have HH := Lib.hid (fun (q : Kept w4) => keptCall (setHas v cs3 _ _ V3 fi3 _ B0 B1 hB0 hB1 q.u (HS2.out.rq.blk.next q.b) HS2.out.srs HS2.out.bits.1))
      rw [HS2.out.has B0 B1 hB0 hB1] at HH
      go_upto_region 9 with fail
      refine wp_region_kept (by kernel_rfl) (by kernel_rfl) ?_
      repeat (go_big_quiet_step ((go_at_call 47; with_reducible exact HH.out _)))
      refine wpQuiet_nil ?_
      rintro w5 ⟨⟨_, K1⟩, rfl⟩
      have HB3 := Lib.hid (below_call HB2.out K1)
      have HS3 := Lib.hid (HS2.out.next K1)
      clear K1 u0 u1 HH
      go_wp2
      go_ret
      unfold Reached
      exact ⟨_, rfl, fun _ => HAt.out.none hk, fun q => by
        obtain ⟨i, hi, e⟩ := of_decide_eq_true q
        exact ⟨s, k, i, g, cs3, rs3, m3, fi3, V3, HS3.out, HAt.out, hi, e⟩, HB3.out⟩
    obtain ⟨n, hn⟩ : ∃ n, ((s.map Prod.fst).drop k).length = n := ⟨_, rfl⟩
    have n0 : 0 < n := by rw [← hn]; simp; omega
    have n1 : (0 : Int) < (n : Int) := by omega
    have u2 := HS.out.rq.blk.kept 3 (show cs3[3]? = some (.int .i64 (n : Int)) from by have q := HS.out.rq.cnt; rw [hn] at q; exact q)
    have HLN := Lib.hid hn
    clear hn
    by_cases hh : Has s ((B0 : Int), (B1 : Int))
    · rw [decide_eq_true hh] at HH
      have HHS := Lib.hid hh
      clear hh
      go_upto_region 2 with fail
      refine wp_region_kept (by kernel_rfl) (by kernel_rfl) ?_
      repeat (go_big_quiet_step ((go_at_call 47; with_reducible exact HH.out _)))
      refine wpQuiet_nil ?_
      rintro w4 ⟨⟨_, K1⟩, rfl⟩
      have HB2 := Lib.hid (below_call HB.out K1)
      have HS2 := Lib.hid (HS.out.next K1)
      have HQ2 := Lib.hid (HQ.out.next K1)
      clear K1 u0 u1 u2 HH
      have u0 := HQ2.out.kepts.1
      have u1 := HQ2.out.kepts.2
      have HH := Lib.hid (fun (q : Kept w4) => keptCall (setHas v cs3 _ _ V3 fi3 _ B0 B1 hB0 hB1 q.u (HS2.out.rq.blk.next q.b) HS2.out.srs HS2.out.bits.1))
      rw [HS2.out.has B0 B1 hB0 hB1, decide_eq_true HHS.out] at HH
      go_upto_region 9 with fail
      refine wp_region_kept (by kernel_rfl) (by kernel_rfl) ?_
      repeat (go_big_quiet_step ((go_at_call 47; with_reducible exact HH.out _)))
      refine wpQuiet_nil ?_
      rintro w5 ⟨⟨_, K1⟩, rfl⟩
      have HB3 := Lib.hid (below_call HB2.out K1)
      have HS3 := Lib.hid (HS2.out.next K1)
      clear K1 u0 u1 HH
      go_wp2
      go_ret
      unfold Reached
      exact ⟨true, rfl, fun q => by (cases q), fun _ => by
        obtain ⟨i, hi, e⟩ := HHS.out
        exact ⟨s, k, i, g, cs3, rs3, m3, fi3, V3, HS3.out, HAt.out, hi, e⟩, HB3.out⟩
    rw [decide_eq_false hh] at HH
    have HHS := Lib.hid hh
    clear hh
    go_upto_region 2 with fail
    refine wp_region_kept (by kernel_rfl) (by kernel_rfl) ?_
    repeat (go_big_quiet_step ((go_at_call 47; with_reducible exact HH.out _)))
    refine wpQuiet_nil ?_
    rintro w4 ⟨⟨_, K1⟩, rfl⟩
    have HS4 := Lib.hid (HS.out.next K1)
    have HQ4 := Lib.hid (HQ.out.next K1)
    have HB4 := Lib.hid (below_call HB.out K1)
    have HSZ4 := Lib.hid (Nat.le_trans HHd.out.2.2.2.2.2.1 K1.size)
    have HG4 := Lib.hid HHd.out.2.2.2.2.2.2
    clear K1 u0 u1 u2 HH HS HQ HB HHd
    have hk' : k < s.length := by omega
    obtain ⟨C0, C1, hC0, hC1, hc⟩ := toNats (HS4.out.small k hk')
    have HTK := Lib.hid (queueTake v cs3 (qc s k) ((s.map Prod.fst).drop (k + 1)) g rs3 m3 fi3 w4 (by rw [← queue_at s hk']; exact HS4.out.rq))
    have hbf := fun (n : C2) (j : Nat) => bef_new (fr := freeV T) (j := j) hk' n
    rw [hc] at HTK hbf
    have HBF := Lib.hid hbf
    have HCE := Lib.hid hc
    have HKL := Lib.hid hk'
    have HVB := Lib.hid HS4.out.vB
    have HVW := Lib.hid HS4.out.rq.blk.lt
    clear hc hk hk' hbf
    go_wp2_with fail
    refine HTK.out.mono ?_
    rintro e w5 ⟨rfl, Q5, G5⟩
    have HS5 := Lib.hid (HS4.out.took HKL.out Q5)
    have F5 : Frm v g w4 w5 := Frm.of_v G5
    have HB5 := Lib.hid (F5.below HB4.out HB4.out.size HVB.out HS4.out.gB)
    have HQ5 := Lib.hid (HQ4.out.frm F5 (by have := HVL.out; omega) (by have := HG4.out; have := HVL.out; omega))
    have HSZ5 := Lib.hid (Nat.le_trans HSZ4.out F5.size)
    clear Q5 G5 F5 HTK HS4 HB4 HQ4 HSZ4 HVW
    have Bx := below_box w5 (.cells #[.int .i64 (C0 : Int), .int .i64 (C1 : Int)] 37)
    have HI := Lib.hid (show Inner w0.heap.size w0 T ((B0 : Int), (B1 : Int)) v (.slice ta len cap) w.heap.size w5.heap.size ((C0 : Int), (C1 : Int)) (w5.alloc (.cells #[.int .i64 (C0 : Int), .int .i64 (C1 : Int)] 37)) s k 0 g _ rs3 m3 _ V3 from
      ⟨HS5.out.next Bx, below_call HB5.out Bx, HQ5.out.next Bx, Nat.le_trans HSZ5.out Bx.size, HG4.out, AtP.box w5 (C0 : Int) (C1 : Int) 37, by have := HS5.out.rq.glt; omega, HSZ5.out⟩)
    clear Bx HS5 HB5 HQ5 HG4
    generalize (cs3.setIfInBounds 2 (.int .i64 (((fi3 + 1) % m3 : Nat) : Int))).setIfInBounds 3 (.int .i64 (((s.map Prod.fst).drop (k + 1)).length : Int)) = cs6 at *
    generalize (fi3 + 1) % m3 = fi6 at *
    go_upto_region 4 with fail
    generalize w5.alloc (.cells #[.int .i64 (C0 : Int), .int .i64 (C1 : Int)] 37) = w6 at *
    obtain ⟨bc, hbc⟩ : ∃ bc, w5.heap.size = bc := ⟨_, rfl⟩
    rw [hbc] at HI
    rw [hbc]
    clear hbc
    have d0 := HI.out.2.2.2.2.2.1.c0
    have d1 := HI.out.2.2.2.2.2.1.c1
    have HNB := Lib.hid (nbsC (C0 : Int) (C1 : Int) w6 ⟨by simp only; omega, by simp only; omega, by simp only; omega, by simp only; omega⟩)
    go_wp2_with fail
    refine HNB.out.mono ?_
    rintro e w7 ⟨rfl, B7⟩
    have HI7 := Lib.hid (HI.out.next B7)
    clear B7 HNB d0 d1 HI
    go_wp2
    go_loopw [34] (fun jv wr => ∃ (j g : Nat) (cs rs : Array Value) (m fi : Nat) (V : Nat → Nat), j ≤ 4 ∧ jv = .int .i64 (j : Int) ∧ Hid (Inner w0.heap.size w0 T ((B0 : Int), (B1 : Int)) v (.slice ta len cap) w.heap.size bc ((C0 : Int), (C1 : Int)) wr s k j g cs rs m fi V)) (fun jv _ => 4 - (intOf jv).toNat)
    case atStart => exact ⟨0, _, _, _, _, _, _, by omega, rfl, HI7⟩
    case round =>
      obtain ⟨j, g8, cs8, rs8, m8, fi8, V8, hj, rfl, HI8⟩ := hrel
      clear HI7
      by_cases hj4 : j < 4
      · obtain ⟨nx, ny, hn⟩ : ∃ nx ny, (nbs ((C0 : Int), (C1 : Int))).getD j (0, 0) = (nx, ny) := ⟨_, _, rfl⟩
        have hix := nbv_index (C0 : Int) (C1 : Int) j hj4 wr
        rw [hn] at hix
        have HN := Lib.hid hn
        have j1 : (0 : Int) ≤ (j : Int) := by omega
        have j2 : (j : Int) < 4 := by omega
        have HSL := Lib.hid (show (exps (freeV T) s k j).length ≤ 400 from Nat.le_trans (expsL11 (freeV T) s k hj) (HAt.out.step HKL.out (fun q => HHS.out ⟨k, HKL.out, q⟩)).len)
        have Bx := below_box wr (.cells #[.int .i64 nx, .int .i64 ny] 37)
        have HI9 := Lib.hid (HI8.out.next Bx)
        have HP9 := Lib.hid (AtP.box wr nx ny 37)
        clear Bx HI8 hn
        go_upto_region 7 with fail
        generalize wr.alloc (.cells #[.int .i64 nx, .int .i64 ny] 37) = w9 at *
        have d0 := HP9.out.c0
        have d1 := HP9.out.c1
        have d2 := HI9.out.2.2.2.2.2.1.c0
        have d3 := HI9.out.2.2.2.2.2.1.c1
        have HVI := Lib.hid (visitC w0.heap.size v (k + 1) g8 m8 fi8 ta len cap T (exps (freeV T) s k j) cs8 rs8 V8 nx ny (k : Int) ((C0 : Int), (C1 : Int)) w9 HI9.out.1 (HT.out.next HI9.out.2.1) hl HAV.out.1 HSL.out (HBF.out (nx, ny) j).1 (HBF.out (nx, ny) j).2 HI9.out.2.1.size)
        clear hix
        go_wp2_with fail
        refine HVI.out.mono ?_
        rintro e w10 hvv
        obtain ⟨rfl, g10, cs10, rs10, m10, fi10, V10, hi10⟩ := HI9.out.step HVL.out hj4 HCE.out HN.out hvv
        have HI10 := Lib.hid hi10
        clear hi10 hvv HVI d0 d1 d2 d3 HI9 HP9 HSL
        go_wp2
        go_roundw
        case rel => exact ⟨j + 1, g10, cs10, rs10, m10, fi10, V10, by omega, by congr 1, HI10⟩
        case measure => simp [intOf]; omega
      · obtain rfl : j = 4 := by omega
        have HE := Lib.hid (HI8.out.head HAt.out HKL.out (fun q => HHS.out ⟨k, HKL.out, q⟩) HVL.out)
        have HM := Lib.hid (show 401 - (k + 1) < 401 - k by have := HAt.out.len; have := HKL.out; omega)
        clear HI8
        go_wp2
        go_roundg (401 - (k + 1))
        case rel => exact ⟨_, _, _, _, _, _, _, _, rfl, HE⟩
        case measure => exact HM.out
end Go.Proofs.YtkogoflcacameaaGreatDoor
namespace Go.Proofs.YtkogoflcacameaaGreatDoor
set_option maxRecDepth 100000
open Go.RowKit
attribute [local go_sem ↓] Go.wp_at_zero Go.wp_at_succ
/-- The first i cells and the last i are exchanged. -/
def revTo (L : List C2) (i : Nat) : List C2 := (List.range L.length).map fun q => if q < i ∨ L.length - 1 - q < i then L.getD (L.length - 1 - q) (0, 0) else L.getD q (0, 0)
theorem revTo_len (L : List C2) (i : Nat) : (revTo L i).length = L.length := by simp [revTo]
theorem revTo_at (L : List C2) (i q : Nat) (h : q < L.length) : (revTo L i)[q]? = some (if q < i ∨ L.length - 1 - q < i then L.getD (L.length - 1 - q) (0, 0) else L.getD q (0, 0)) := by
  unfold revTo; rw [List.getElem?_map, List.getElem?_range h]; rfl
theorem revTo_zero (L : List C2) : revTo L 0 = L := by
  apply List.ext_getElem?
  intro q
  by_cases h : q < L.length
  · rw [revTo_at L 0 q h, if_neg (by omega), List.getD_eq_getElem?_getD, List.getElem?_eq_getElem h]; rfl
  · rw [List.getElem?_eq_none (by rw [revTo_len]; omega), List.getElem?_eq_none (by omega)]
theorem revTo_all (L : List C2) (i : Nat) (h : L.length ≤ 2 * i + 1) : revTo L i = L.reverse := by
  apply List.ext_getElem?
  intro q
  by_cases hq : q < L.length
  · rw [revTo_at L i q hq, List.getElem?_reverse hq]
    have e : (if q < i ∨ L.length - 1 - q < i then L.getD (L.length - 1 - q) (0, 0) else L.getD q (0, 0)) = L.getD (L.length - 1 - q) (0, 0) := by
      split
      · rfl
      · rw [show L.length - 1 - q = q by omega]
    rw [e, List.getD_eq_getElem?_getD, List.getElem?_eq_getElem (show L.length - 1 - q < L.length by omega)]; rfl
  · rw [List.getElem?_eq_none (by rw [revTo_len]; omega), List.getElem?_eq_none (by simp; omega)]
theorem revTo_get (L : List C2) (i q : Nat) (h : q < L.length) (hq : ¬ q < i) (hq2 : ¬ L.length - 1 - q < i) : (revTo L i).getD q (0, 0) = L.getD q (0, 0) := by
  rw [List.getD_eq_getElem?_getD, revTo_at L i q h, if_neg (by omega)]; rfl
theorem revTo_step (L : List C2) (i j : Nat) (h : i + j + 1 = L.length) (hij : i < j) : ((revTo L i).set i ((revTo L i).getD j (0, 0))).set j ((revTo L i).getD i (0, 0)) = revTo L (i + 1) := by
  rw [revTo_get L i j (by omega) (by omega) (by omega), revTo_get L i i (by omega) (by omega) (by omega)]
  apply List.ext_getElem?
  intro q
  by_cases hq : q < L.length
  · rw [revTo_at L (i + 1) q hq, List.getElem?_set]
    by_cases e : j = q
    · subst e
      rw [if_pos rfl, if_pos (by rw [List.length_set, revTo_len]; exact hq), if_pos (by omega), show L.length - 1 - j = i by omega]
    · rw [if_neg e, List.getElem?_set]
      by_cases e2 : i = q
      · subst e2
        rw [if_pos rfl, if_pos (by rw [revTo_len]; exact hq), if_pos (by omega), show L.length - 1 - i = j by omega]
      · rw [if_neg e2, revTo_at L i q hq]
        congr 1
        by_cases c : q < i ∨ L.length - 1 - q < i
        · rw [if_pos c, if_pos (by omega)]
        · rw [if_neg c, if_neg (by omega)]
  · rw [List.getElem?_eq_none (by rw [List.length_set, List.length_set, revTo_len]; omega), List.getElem?_eq_none (by rw [revTo_len]; omega)]
theorem Cel.pvals_set (L : List C2) (i : Nat) (c : C2) (h : i < L.length) : ((Cel.pvals L).set (i * 2) (.int .i64 c.1)).set (i * 2 + 1) (.int .i64 c.2) = Cel.pvals (L.set i c) := by
  apply List.ext_getElem?
  intro q
  by_cases hq : q < L.length * 2
  · rw [Cel.pvals_at _ q (by rw [List.length_set]; exact hq), List.getElem?_set]
    have hl : (Cel.pvals L).length = L.length * 2 := Cel.pvals_len L
    by_cases e : i * 2 + 1 = q
    · subst e
      rw [if_pos rfl, if_pos (by rw [List.length_set, hl]; exact hq), Cel.cz1, List.getD_eq_getElem?_getD, List.getElem?_set_self h]; rfl
    · rw [if_neg e, List.getElem?_set]
      by_cases e2 : i * 2 = q
      · subst e2
        rw [if_pos rfl, if_pos (by rw [hl]; exact hq), Cel.cz0, List.getD_eq_getElem?_getD, List.getElem?_set_self h]; rfl
      · rw [if_neg e2, Cel.pvals_at _ q hq]
        congr 2
        unfold Cel.cz
        rw [List.getD_eq_getElem?_getD, List.getD_eq_getElem?_getD, List.getElem?_set_ne (by omega)]
  · rw [List.getElem?_eq_none (by rw [List.length_set, List.length_set, Cel.pvals_len]; omega), List.getElem?_eq_none (by rw [Cel.pvals_len, List.length_set]; omega)]
section
variable {w u : World} {B g n cap : Nat} {L : List C2}
theorem Cel.OwnPt.at_ (h : Cel.OwnPt w B (.slice (some ⟨g, 0, none⟩) n cap) L) (hn : n = L.length) (i : Nat) (hi : i < n) : w.cell? ⟨g, i * 2, none⟩ = some (.int .i64 (L.getD i (0, 0)).1) ∧ w.cell? ⟨g, i * 2 + 1, none⟩ = some (.int .i64 (L.getD i (0, 0)).2) := by
  subst hn
  exact ⟨by rw [World.ownsRow.cellAt h (i * 2) (by omega), Cel.pvals_at _ _ (by omega), Cel.cz0], by rw [World.ownsRow.cellAt h (i * 2 + 1) (by omega), Cel.pvals_at _ _ (by omega), Cel.cz1]⟩
theorem Cel.OwnPt.free (h : Cel.OwnPt w B (.slice (some ⟨g, 0, none⟩) n cap) L) (hn : n = L.length) (i : Nat) : w.frozen? ⟨g, i, none⟩ = false := by
  subst hn
  exact World.ownsRow.frozenAt h i
theorem Cel.OwnPt.put (h : Cel.OwnPt w B (.slice (some ⟨g, 0, none⟩) n cap) L) (hn : n = L.length) (i : Nat) (hi : i < n) (c : C2) : Cel.OwnPt ((w.setCell ⟨g, i * 2, none⟩ (.int .i64 c.1)).setCell ⟨g, i * 2 + 1, none⟩ (.int .i64 c.2)) B (.slice (some ⟨g, 0, none⟩) n cap) (L.set i c) ∧ w.grownBy ((w.setCell ⟨g, i * 2, none⟩ (.int .i64 c.1)).setCell ⟨g, i * 2 + 1, none⟩ (.int .i64 c.2)) (some g) := by
  subst hn
  have s1 := World.ownsRow.stored h (i * 2) (.int .i64 c.1)
  have s2 := World.ownsRow.stored s1.1 (i * 2 + 1) (.int .i64 c.2)
  refine ⟨?_, s1.2.trans s2.2⟩
  unfold Cel.OwnPt
  rw [List.length_set, ← Cel.pvals_set L i c hi]
  exact s2.1
end
set_option maxHeartbeats 4000000 in
theorem reverseC (g n cap B : Nat) (L : List C2) (w : World) (h : Cel.OwnPt w B (.slice (some ⟨g, 0, none⟩) n cap) L) (hn : n = L.length) (h1 : 1 ≤ n) (hl : n ≤ 1048576) :
    Calls Tryz.prog 50 #[.slice (some ⟨g, 0, none⟩) n cap] w fun e w' => e = .returned (.tuple #[]) ∧ Cel.OwnPt w' B (.slice (some ⟨g, 0, none⟩) n cap) L.reverse ∧ w.grownBy w' (some g) := by
  have HN := Lib.hid hn
  have HO := Lib.hid h
  have o1 : IntKind.i64.wrap ((n : Int) - 1) = (n : Int) - 1 := wrap_in (by omega) (by omega)
  clear h hn
  go_enter Tryz.func50, Tryz.ntmps50
  go_wp2
  go_loopw [2, 3] (fun iv jv wr => ∃ (i : Nat) (jz : Int), iv = .int .i64 (i : Int) ∧ jv = .int .i64 jz ∧ jz = (n : Int) - 1 - (i : Int) ∧ i ≤ n ∧ Hid (Cel.OwnPt wr B (.slice (some ⟨g, 0, none⟩) n cap) (revTo L i)) ∧ Hid (w.grownBy wr (some g))) (fun iv _ _ => n - (intOf iv).toNat)
  case atStart => exact ⟨0, _, rfl, rfl, by omega, by omega, Lib.hid (by rw [revTo_zero]; exact HO.out), Lib.hid (World.grownBy.refl _ _)⟩
  case round =>
    obtain ⟨i, jz, rfl, rfl, hjz, hi, HO2, HG⟩ := hrel
    clear HO
    by_cases hlt : 2 * i + 1 < n
    · obtain ⟨j, hj⟩ : ∃ j : Nat, i + j + 1 = n := ⟨n - 1 - i, by omega⟩
      obtain rfl : jz = (j : Int) := by omega
      have hij : i < j := by omega
      have q0 : (i : Int) < (j : Int) := by omega
      have q1 : (0 : Int) ≤ (i : Int) := by omega
      have q2 : (0 : Int) ≤ (j : Int) := by omega
      have q3 : (i : Int) < (n : Int) := by omega
      have q4 : (j : Int) < (n : Int) := by omega
      have o3 : IntKind.i64.wrap ((i : Int) + 1) = (i : Int) + 1 := wrap_in (by omega) (by omega)
      have o4 : IntKind.i64.wrap ((j : Int) - 1) = (j : Int) - 1 := wrap_in (by omega) (by omega)
      have HJ := Lib.hid (And.intro hj (And.intro hlt hij))
      clear hj hjz hlt
      go_upto_region 3 with fail
      obtain ⟨M, hM⟩ : ∃ M, revTo L i = M := ⟨_, rfl⟩
      obtain ⟨c, hc⟩ : ∃ c, M.getD j (0, 0) = c := ⟨_, rfl⟩
      obtain ⟨d, hd0⟩ : ∃ d, M.getD i (0, 0) = d := ⟨_, rfl⟩
      have HST := Lib.hid (show (M.set i c).set j d = revTo L (i + 1) by rw [← hc, ← hd0, ← hM]; exact revTo_step L i j (by have := HN.out; have := HJ.out.1; omega) hij)
      have HML := Lib.hid (show n = M.length by rw [← hM, revTo_len]; exact HN.out)
      rw [hM] at HO2
      have HC := Lib.hid (And.intro hc hd0)
      clear hM hc hd0
      have hin : i < n := by have := HJ.out.1; omega
      have hjn : j < n := by have := HJ.out.1; omega
      have HOd := Lib.hid (HO2.out.next ((Below.refl _ _).drew))
      have HGd := Lib.hid (HG.out.trans (show wr.grownBy wr.drew (some g) from have h : Below wr.heap.size wr wr.drew := (Below.refl _ _).drew; ⟨h.os, h.tape, h.output, h.size, fun k hk _ => h.block k hk⟩))
      refine wp_region_inv (fun listed act u => ∃ (l0 l1 l2 l3 l4 l5 l6 l7 l8 l9 l10 l11 l12 l13 l14 l15 : Bool) (v14 v15 v16 v17 v18 v19 v20 v21 v22 v23 v24 v25 v26 v27 : Value), listed = #[l0, l1, l2, l3, l4, l5, l6, l7, l8, l9, l10, l11, l12, l13, l14, l15] ∧ act = { tmps := #[.slice (some ⟨g, 0, none⟩) n cap, undef, .int .i64 (i : Int), .int .i64 (j : Int), .slice (some ⟨g, 0, none⟩) n cap, .int .i64 (n : Int), .int .i64 ((n : Int) - 1), .int .i64 (i : Int), .int .i64 (j : Int), .bool true, u10, u11, u12, u13, v14, v15, v16, v17, v18, v19, v20, v21, v22, v23, v24, v25, v26, v27], defers := [] } ∧ (l0 = true → v14 = .slice (some ⟨g, 0, none⟩) n cap) ∧ (l1 = true → v15 = .int .i64 (i : Int)) ∧ (l2 = true → v16 = .slice (some ⟨g, 0, none⟩) n cap) ∧ (l3 = true → v17 = .int .i64 (j : Int)) ∧ (l4 = true → v18 = .slice (some ⟨g, 0, none⟩) n cap) ∧ (l5 = true → v19 = .int .i64 (j : Int)) ∧ (l6 = true → v20 = .pointer (some ⟨g, j * 2, none⟩)) ∧ (l7 = true → v21 = pt c.1 c.2) ∧ (l8 = true → v22 = .slice (some ⟨g, 0, none⟩) n cap) ∧ (l9 = true → v23 = .int .i64 (i : Int)) ∧ (l10 = true → v24 = .pointer (some ⟨g, i * 2, none⟩)) ∧ (l11 = true → v25 = pt d.1 d.2) ∧ (l12 = true → v26 = .pointer (some ⟨g, i * 2, none⟩)) ∧ (l14 = true → v27 = .pointer (some ⟨g, j * 2, none⟩)) ∧ (l13 = true → l7 = true ∧ l11 = true) ∧ (l15 = true → l13 = true) ∧ Cel.OwnPt u B (.slice (some ⟨g, 0, none⟩) n cap) (if l15 = true then (M.set i c).set j d else if l13 = true then M.set i c else M) ∧ Hid (w.grownBy u (some g))) (by kernel_rfl) ?_ ?_ ?_ ?_ ?_
      · intro j o ho
        have hj : j < 16 := by rcases Nat.lt_or_ge j 16 with h | h; exact h; rw [Array.getElem?_eq_none (by simpa using h)] at ho; cases ho
        have hj2 : j = 0 ∨ j = 1 ∨ j = 2 ∨ j = 3 ∨ j = 4 ∨ j = 5 ∨ j = 6 ∨ j = 7 ∨ j = 8 ∨ j = 9 ∨ j = 10 ∨ j = 11 ∨ j = 12 ∨ j = 13 ∨ j = 14 ∨ j = 15 := by omega
        rcases hj2 with rfl | rfl | rfl | rfl | rfl | rfl | rfl | rfl | rfl | rfl | rfl | rfl | rfl | rfl | rfl | rfl
        all_goals
          cases ho
          decide
      · rintro listed act u ⟨l0, l1, l2, l3, l4, l5, l6, l7, l8, l9, l10, l11, l12, l13, l14, l15, v14, v15, v16, v17, v18, v19, v20, v21, v22, v23, v24, v25, v26, v27, rfl, _⟩
        rfl
      · exact ⟨false, false, false, false, false, false, false, false, false, false, false, false, false, false, false, false, u14, u15, u16, u17, u18, u19, u20, u21, u22, u23, u24, u25, u26, u27, rfl, rfl, (by intro h; cases h), (by intro h; cases h), (by intro h; cases h), (by intro h; cases h), (by intro h; cases h), (by intro h; cases h), (by intro h; cases h), (by intro h; cases h), (by intro h; cases h), (by intro h; cases h), (by intro h; cases h), (by intro h; cases h), (by intro h; cases h), (by intro h; cases h), (by intro h; cases h), (by intro h; cases h), by rw [if_neg Bool.false_ne_true, if_neg Bool.false_ne_true]; exact HOd.out, HGd⟩
      · intro listed act u q o hR ho hl hd
        obtain ⟨l0, l1, l2, l3, l4, l5, l6, l7, l8, l9, l10, l11, l12, l13, l14, l15, v14, v15, v16, v17, v18, v19, v20, v21, v22, v23, v24, v25, v26, v27, rfl, rfl, c0, c1, c2, c3, c4, c5, c6, c7, c8, c9, c10, c11, c12, c14, c13, c15, HO, HG⟩ := hR
        have hi : q < 16 := by rcases Nat.lt_or_ge q 16 with h | h; exact h; rw [Array.getElem?_eq_none (by simpa using h)] at ho; cases ho
        have hi2 : q = 0 ∨ q = 1 ∨ q = 2 ∨ q = 3 ∨ q = 4 ∨ q = 5 ∨ q = 6 ∨ q = 7 ∨ q = 8 ∨ q = 9 ∨ q = 10 ∨ q = 11 ∨ q = 12 ∨ q = 13 ∨ q = 14 ∨ q = 15 := by omega
        rcases hi2 with rfl | rfl | rfl | rfl | rfl | rfl | rfl | rfl | rfl | rfl | rfl | rfl | rfl | rfl | rfl | rfl
        all_goals (cases ho)
        · refine wpOp_step rfl (fun K hK => ?_)
          go_simp
          refine hK _ _ ?_
          exact ⟨true, l1, l2, l3, l4, l5, l6, l7, l8, l9, l10, l11, l12, l13, l14, l15, _, _, _, _, _, _, _, _, _, _, _, _, _, _, rfl, rfl, fun _ => rfl, c1, c2, c3, c4, c5, c6, c7, c8, c9, c10, c11, c12, c14, c13, c15, HO, HG⟩
        · refine wpOp_step rfl (fun K hK => ?_)
          go_simp
          refine hK _ _ ?_
          exact ⟨l0, true, l2, l3, l4, l5, l6, l7, l8, l9, l10, l11, l12, l13, l14, l15, _, _, _, _, _, _, _, _, _, _, _, _, _, _, rfl, rfl, c0, fun _ => rfl, c2, c3, c4, c5, c6, c7, c8, c9, c10, c11, c12, c14, c13, c15, HO, HG⟩
        · refine wpOp_step rfl (fun K hK => ?_)
          go_simp
          refine hK _ _ ?_
          exact ⟨l0, l1, true, l3, l4, l5, l6, l7, l8, l9, l10, l11, l12, l13, l14, l15, _, _, _, _, _, _, _, _, _, _, _, _, _, _, rfl, rfl, c0, c1, fun _ => rfl, c3, c4, c5, c6, c7, c8, c9, c10, c11, c12, c14, c13, c15, HO, HG⟩
        · refine wpOp_step rfl (fun K hK => ?_)
          go_simp
          refine hK _ _ ?_
          exact ⟨l0, l1, l2, true, l4, l5, l6, l7, l8, l9, l10, l11, l12, l13, l14, l15, _, _, _, _, _, _, _, _, _, _, _, _, _, _, rfl, rfl, c0, c1, c2, fun _ => rfl, c4, c5, c6, c7, c8, c9, c10, c11, c12, c14, c13, c15, HO, HG⟩
        · refine wpOp_step rfl (fun K hK => ?_)
          go_simp
          refine hK _ _ ?_
          exact ⟨l0, l1, l2, l3, true, l5, l6, l7, l8, l9, l10, l11, l12, l13, l14, l15, _, _, _, _, _, _, _, _, _, _, _, _, _, _, rfl, rfl, c0, c1, c2, c3, fun _ => rfl, c5, c6, c7, c8, c9, c10, c11, c12, c14, c13, c15, HO, HG⟩
        · refine wpOp_step rfl (fun K hK => ?_)
          go_simp
          refine hK _ _ ?_
          exact ⟨l0, l1, l2, l3, l4, true, l6, l7, l8, l9, l10, l11, l12, l13, l14, l15, _, _, _, _, _, _, _, _, _, _, _, _, _, _, rfl, rfl, c0, c1, c2, c3, c4, fun _ => rfl, c6, c7, c8, c9, c10, c11, c12, c14, c13, c15, HO, HG⟩
        · obtain rfl := c4 (hd { on := 4, ground := Ground.data } (by simp) rfl)
          obtain rfl := c5 (hd { on := 5, ground := Ground.data } (by simp) rfl)
          refine wpOp_step rfl (fun K hK => ?_)
          go_simp
          refine hK _ _ ?_
          exact ⟨l0, l1, l2, l3, l4, l5, true, l7, l8, l9, l10, l11, l12, l13, l14, l15, _, _, _, _, _, _, _, _, _, _, _, _, _, _, rfl, rfl, c0, c1, c2, c3, c4, c5, fun _ => rfl, c7, c8, c9, c10, c11, c12, c14, c13, c15, HO, HG⟩
        · obtain rfl := c6 (hd { on := 6, ground := Ground.data } (by simp) rfl)
          have e13 : l13 = false := by cases h : l13 with | false => rfl | true => exact absurd (c13 h).1 (by rw [show l7 = false from hl]; exact Bool.false_ne_true)
          subst e13
          have e15 : l15 = false := by cases h : l15 with | false => rfl | true => exact absurd (c15 h) Bool.false_ne_true
          subst e15
          rw [if_neg Bool.false_ne_true, if_neg Bool.false_ne_true] at HO
          have k0 := (HO.at_ HML.out j hjn).1
          have k1 := (HO.at_ HML.out j hjn).2
          rw [HC.out.1] at k0 k1
          refine wpOp_step rfl (fun K hK => ?_)
          go_simp
          refine hK _ _ ?_
          exact ⟨l0, l1, l2, l3, l4, l5, l6, true, l8, l9, l10, l11, l12, false, l14, false, _, _, _, _, _, _, _, _, _, _, _, _, _, _, rfl, rfl, c0, c1, c2, c3, c4, c5, c6, fun _ => rfl, c8, c9, c10, c11, c12, c14, fun h => absurd h Bool.false_ne_true, fun h => absurd h Bool.false_ne_true, by rw [if_neg Bool.false_ne_true, if_neg Bool.false_ne_true]; exact HO, HG⟩
        · refine wpOp_step rfl (fun K hK => ?_)
          go_simp
          refine hK _ _ ?_
          exact ⟨l0, l1, l2, l3, l4, l5, l6, l7, true, l9, l10, l11, l12, l13, l14, l15, _, _, _, _, _, _, _, _, _, _, _, _, _, _, rfl, rfl, c0, c1, c2, c3, c4, c5, c6, c7, fun _ => rfl, c9, c10, c11, c12, c14, c13, c15, HO, HG⟩
        · refine wpOp_step rfl (fun K hK => ?_)
          go_simp
          refine hK _ _ ?_
          exact ⟨l0, l1, l2, l3, l4, l5, l6, l7, l8, true, l10, l11, l12, l13, l14, l15, _, _, _, _, _, _, _, _, _, _, _, _, _, _, rfl, rfl, c0, c1, c2, c3, c4, c5, c6, c7, c8, fun _ => rfl, c10, c11, c12, c14, c13, c15, HO, HG⟩
        · obtain rfl := c8 (hd { on := 8, ground := Ground.data } (by simp) rfl)
          obtain rfl := c9 (hd { on := 9, ground := Ground.data } (by simp) rfl)
          refine wpOp_step rfl (fun K hK => ?_)
          go_simp
          refine hK _ _ ?_
          exact ⟨l0, l1, l2, l3, l4, l5, l6, l7, l8, l9, true, l11, l12, l13, l14, l15, _, _, _, _, _, _, _, _, _, _, _, _, _, _, rfl, rfl, c0, c1, c2, c3, c4, c5, c6, c7, c8, c9, fun _ => rfl, c11, c12, c14, c13, c15, HO, HG⟩
        · obtain rfl := c10 (hd { on := 10, ground := Ground.data } (by simp) rfl)
          have e13 : l13 = false := by cases h : l13 with | false => rfl | true => exact absurd (c13 h).2 (by rw [show l11 = false from hl]; exact Bool.false_ne_true)
          subst e13
          have e15 : l15 = false := by cases h : l15 with | false => rfl | true => exact absurd (c15 h) Bool.false_ne_true
          subst e15
          rw [if_neg Bool.false_ne_true, if_neg Bool.false_ne_true] at HO
          have k0 := (HO.at_ HML.out i hin).1
          have k1 := (HO.at_ HML.out i hin).2
          rw [HC.out.2] at k0 k1
          refine wpOp_step rfl (fun K hK => ?_)
          go_simp
          refine hK _ _ ?_
          exact ⟨l0, l1, l2, l3, l4, l5, l6, l7, l8, l9, l10, true, l12, false, l14, false, _, _, _, _, _, _, _, _, _, _, _, _, _, _, rfl, rfl, c0, c1, c2, c3, c4, c5, c6, c7, c8, c9, c10, fun _ => rfl, c12, c14, fun h => absurd h Bool.false_ne_true, fun h => absurd h Bool.false_ne_true, by rw [if_neg Bool.false_ne_true, if_neg Bool.false_ne_true]; exact HO, HG⟩
        · obtain rfl := c0 (hd { on := 0, ground := Ground.data } (by simp) rfl)
          obtain rfl := c1 (hd { on := 1, ground := Ground.data } (by simp) rfl)
          refine wpOp_step rfl (fun K hK => ?_)
          go_simp
          refine hK _ _ ?_
          exact ⟨l0, l1, l2, l3, l4, l5, l6, l7, l8, l9, l10, l11, true, l13, l14, l15, _, _, _, _, _, _, _, _, _, _, _, _, _, _, rfl, rfl, c0, c1, c2, c3, c4, c5, c6, c7, c8, c9, c10, c11, fun _ => rfl, c14, c13, c15, HO, HG⟩
        · obtain rfl := c12 (hd { on := 12, ground := Ground.data } (by simp) rfl)
          obtain rfl := c7 (hd { on := 7, ground := Ground.data } (by simp) rfl)
          obtain rfl : l13 = false := hl
          have e15 : l15 = false := by cases h : l15 with | false => rfl | true => exact absurd (c15 h) Bool.false_ne_true
          subst e15
          rw [if_neg Bool.false_ne_true, if_neg Bool.false_ne_true] at HO
          have k0 := (HO.at_ HML.out i hin).1
          have k1 := (HO.at_ HML.out i hin).2
          have f0 := HO.free HML.out (i * 2)
          have f1 := HO.free HML.out (i * 2 + 1)
          refine wpOp_step rfl (fun K hK => ?_)
          go_simp
          refine hK _ _ ?_
          exact ⟨l0, l1, l2, l3, l4, l5, l6, l7, l8, l9, l10, l11, l12, true, l14, false, _, _, _, _, _, _, _, _, _, _, _, _, _, _, rfl, rfl, c0, c1, c2, c3, c4, c5, c6, c7, c8, c9, c10, c11, c12, c14, fun _ => ⟨(hd { on := 7, ground := Ground.data } (by simp) rfl), (hd { on := 11, ground := Ground.phase } (by simp) rfl)⟩, fun h => absurd h Bool.false_ne_true, by rw [if_neg Bool.false_ne_true, if_pos rfl]; exact (HO.put HML.out i hin c).1, Lib.hid (HG.out.trans (HO.put HML.out i hin c).2)⟩
        · obtain rfl := c2 (hd { on := 2, ground := Ground.data } (by simp) rfl)
          obtain rfl := c3 (hd { on := 3, ground := Ground.data } (by simp) rfl)
          refine wpOp_step rfl (fun K hK => ?_)
          go_simp
          refine hK _ _ ?_
          exact ⟨l0, l1, l2, l3, l4, l5, l6, l7, l8, l9, l10, l11, l12, l13, true, l15, _, _, _, _, _, _, _, _, _, _, _, _, _, _, rfl, rfl, c0, c1, c2, c3, c4, c5, c6, c7, c8, c9, c10, c11, c12, fun _ => rfl, c13, c15, HO, HG⟩
        · obtain rfl := c14 (hd { on := 14, ground := Ground.data } (by simp) rfl)
          obtain rfl := c11 (hd { on := 11, ground := Ground.data } (by simp) rfl)
          obtain rfl : l15 = false := hl
          have e13 : l13 = true := (hd { on := 13, ground := Ground.chain } (by simp) rfl)
          rw [if_neg Bool.false_ne_true, if_pos e13] at HO
          obtain rfl := c7 (c13 e13).1
          have hnl := Lib.hid (show n = (M.set i c).length by rw [List.length_set]; exact HML.out)
          have k0 := (HO.at_ hnl.out j hjn).1
          have k1 := (HO.at_ hnl.out j hjn).2
          have f0 := HO.free hnl.out (j * 2)
          have f1 := HO.free hnl.out (j * 2 + 1)
          refine wpOp_step rfl (fun K hK => ?_)
          go_simp
          refine hK _ _ ?_
          exact ⟨l0, l1, l2, l3, l4, l5, l6, l7, l8, l9, l10, l11, l12, l13, l14, true, _, _, _, _, _, _, _, _, _, _, _, _, _, _, rfl, rfl, c0, c1, c2, c3, c4, c5, c6, fun _ => rfl, c8, c9, c10, c11, c12, c14, c13, fun _ => e13, by rw [if_pos rfl]; exact (HO.put hnl.out j hjn d).1, Lib.hid (HG.out.trans (HO.put hnl.out j hjn d).2)⟩
      · rintro listed act u ⟨l0, l1, l2, l3, l4, l5, l6, l7, l8, l9, l10, l11, l12, l13, l14, l15, v14, v15, v16, v17, v18, v19, v20, v21, v22, v23, v24, v25, v26, v27, rfl, rfl, c0, c1, c2, c3, c4, c5, c6, c7, c8, c9, c10, c11, c12, c14, c13, c15, HO, HG⟩ hall
        obtain rfl := c0 (hall 0 (by decide))
        obtain rfl := c1 (hall 1 (by decide))
        obtain rfl := c2 (hall 2 (by decide))
        obtain rfl := c3 (hall 3 (by decide))
        obtain rfl := c4 (hall 4 (by decide))
        obtain rfl := c5 (hall 5 (by decide))
        obtain rfl := c6 (hall 6 (by decide))
        obtain rfl := c7 (hall 7 (by decide))
        obtain rfl := c8 (hall 8 (by decide))
        obtain rfl := c9 (hall 9 (by decide))
        obtain rfl := c10 (hall 10 (by decide))
        obtain rfl := c11 (hall 11 (by decide))
        obtain rfl := c12 (hall 12 (by decide))
        obtain rfl := c14 (hall 14 (by decide))
        rw [if_pos (show l15 = true from hall 15 (by decide))] at HO
        have HOu := HO
        have HGu := HG
        clear HO c0 c1 c2 c3 c4 c5 c6 c7 c8 c9 c10 c11 c12 c14 c13 c15 HG hall
        have HO3 := Lib.hid (show Cel.OwnPt u B (.slice (some ⟨g, 0, none⟩) n cap) (revTo L (i + 1)) by rw [← HST.out]; exact HOu)
        have HG3 := Lib.hid HGu.out
        clear HOu HGu HO2 HOd HGd HG
        go_wp2
        go_roundw
        case rel => exact ⟨i + 1, (j : Int) - 1, by congr 1, rfl, by have := HJ.out.1; omega, by omega, HO3, HG3⟩
        case measure => simp [intOf]; omega
    · have q0 : ¬ ((i : Int) < jz) := by omega
      have HE := Lib.hid (show Cel.OwnPt wr B (.slice (some ⟨g, 0, none⟩) n cap) L.reverse by rw [← revTo_all L i (by have := HN.out; omega)]; exact HO2.out)
      clear HO2
      go_wp2
      go_end0
      exact ⟨rfl, HE.out, HG.out⟩
end Go.Proofs.YtkogoflcacameaaGreatDoor
namespace Go.Proofs.YtkogoflcacameaaGreatDoor
set_option maxRecDepth 100000
open Go.RowKit
attribute [local go_sem ↓] Go.wp_at_zero Go.wp_at_succ
/-- The walk back, at a round's head. -/
structure Back (B : Nat) (w0 : World) (s : Qu) (a : C2) (i j : Nat) (L : List C2) (g n c bb : Nat) (u : World) : Prop where
  jl : j < s.length
  way : Way s i j L
  len : n = L.length
  lj : L.length + j ≤ i + 1
  own : Cel.OwnPt u B (.slice (some ⟨g, 0, none⟩) n c) L
  box : Blk u bb #[.int .i64 (qc s j).1, .int .i64 (qc s j).2] 37
  ga : g ≠ bb
  bB : B + 2 ≤ bb
  gB : B + 2 ≤ g
  fr : AtP u B a.1 a.2
  bel : Below B w0 u
/-- What the append of a cell leaves. -/
structure Apnd (w : World) (B : Nat) (qv : Value) (L : List C2) (c : C2) (w7 : World) (g n7 cap6 : Nat) : Prop where
  own : w7.ownsRow B 37 2 (.slice (some ⟨g, 0, none⟩) n7 cap6) n7 (Cel.pvals L ++ [.int .i64 c.1, .int .i64 c.2])
  grow : (w.alloc (.cells #[.int .i64 c.1, .int .i64 c.2] 37)).grownBy w7 qv.ownBlock
  at7 : qv.ownBlock = some g ∨ g = (w.alloc (.cells #[.int .i64 c.1, .int .i64 c.2] 37)).heap.size
  lt : g < w7.heap.size
theorem neT11 {a b : C2} (h : a = b) (u : World) : (if a.1 = b.1 then if a.2 = b.2 then Result.ok (Next.value (Value.bool false)) u else Result.ok (Next.value (Value.bool true)) u else Result.ok (Next.value (Value.bool true)) u) = Result.ok (Next.value (Value.bool false)) u := by
  rw [if_pos (by rw [h]), if_pos (by rw [h])]
theorem neF11 {a b : C2} (h : a ≠ b) (u : World) : (if a.1 = b.1 then if a.2 = b.2 then Result.ok (Next.value (Value.bool false)) u else Result.ok (Next.value (Value.bool true)) u else Result.ok (Next.value (Value.bool true)) u) = Result.ok (Next.value (Value.bool true)) u := by
  by_cases h1 : a.1 = b.1
  · rw [if_pos h1, if_neg (fun h2 => h (Prod.ext h1 h2))]
  · rw [if_neg h1]
set_option maxHeartbeats 8000000 in
theorem pathC (B v k g m fi i : Nat) (tv : Value) (T : List (List Bool)) (a b : C2) (s : Qu) (cs rs : Array Value) (V : Nat → Nat) (w : World) (h : Sea B w v tv s k g cs rs m fi V) (hA : At11 T a b s k) (hi : i < s.length) (hb : qc s i = b) :
    Calls Tryz.prog 27 #[.pointer (some ⟨v, 0, none⟩), pt a.1 a.2, pt b.1 b.2] w (Cel.PtRow (planV T a b) w) := by
  obtain ⟨i0, hi0, hz0, hz1, hz2⟩ := info_parts Cel.infoPt6
  have HPL := Lib.hid (hA.found hi hb)
  have HA := Lib.hid hA
  have HS := Lib.hid h
  have hil : i < 400 := Nat.lt_of_lt_of_le hi hA.len
  have HI := Lib.hid (And.intro hi hb)
  have HVL := Lib.hid h.rq.blk.lt
  have B0' := below_box2 w (.cells #[.int .i64 a.1, .int .i64 a.2] 37) (.cells #[.int .i64 b.1, .int .i64 b.2] 37)
  have HB := Lib.hid B0'
  have HP := Lib.hid ((AtP.box w a.1 a.2 37).alloc (.cells #[.int .i64 b.1, .int .i64 b.2] 37))
  have HQ0 := AtP.box (w.alloc (.cells #[.int .i64 a.1, .int .i64 a.2] 37)) b.1 b.2 37
  rw [show (w.alloc (.cells #[.int .i64 a.1, .int .i64 a.2] 37)).heap.size = w.heap.size + 1 by simp] at HQ0
  have HQ := Lib.hid HQ0
  have hsz : ((w.alloc (.cells #[.int .i64 a.1, .int .i64 a.2] 37)).alloc (.cells #[.int .i64 b.1, .int .i64 b.2] 37)).heap.size = w.heap.size + 2 := by simp
  have HSZ := Lib.hid hsz
  clear B0' HQ0 h hA hb hi hsz
  go_enter Tryz.func27, Tryz.ntmps27
  go_upto_region 1 with fail
  generalize (w.alloc (.cells #[.int .i64 a.1, .int .i64 a.2] 37)).alloc (.cells #[.int .i64 b.1, .int .i64 b.2] 37) = w1 at *
  have d0 := HQ.out.c0
  have d1 := HQ.out.c1
  have HO1 := Lib.hid (Cel.one w1 w.heap.size (by have := HSZ.out; omega) b 37 rfl)
  have B1 := below_box w1 (.cells #[.int .i64 b.1, .int .i64 b.2] 37)
  have HB2 := Lib.hid (below_call HB.out B1)
  have HP2 := Lib.hid (HP.out.next B1)
  have HQ2 := Lib.hid (HQ.out.next B1)
  have hsz2 : (w1.alloc (.cells #[.int .i64 b.1, .int .i64 b.2] 37)).heap.size = w.heap.size + 3 := by have := HSZ.out; simp; omega
  have HSZ2 := Lib.hid hsz2
  clear B1 hsz2 HB HP HQ
  go_upto_region 2 with fail
  generalize w1.alloc (.cells #[.int .i64 b.1, .int .i64 b.2] 37) = w2 at *
  clear d0 d1
  have d0 := HQ2.out.c0
  have d1 := HQ2.out.c1
  have B2 := below_box w2 (.cells #[.int .i64 b.1, .int .i64 b.2] 37)
  have HB3 := Lib.hid (below_call HB2.out B2)
  have HP3 := Lib.hid (HP2.out.next B2)
  have HO3 := Lib.hid (HO1.out.next B2)
  have HX3 := Lib.hid (Blk.new w2 #[.int .i64 b.1, .int .i64 b.2] 37)
  clear B2 HB2 HP2 HO1 HQ2
  go_wp2
  generalize w2.alloc (.cells #[.int .i64 b.1, .int .i64 b.2] 37) = w3 at *
  clear d0 d1
  have HK := Lib.hid (show Back w.heap.size w s a i i [b] w1.heap.size 1 1 w2.heap.size w3 from
    ⟨HI.out.1, by rw [← HI.out.2]; exact Way.start s i, rfl, by simp; omega, HO3.out, by rw [HI.out.2]; exact HX3.out, by have := HSZ.out; have := HSZ2.out; omega, by have := HSZ2.out; omega, by have := HSZ.out; omega, HP3.out, HB3.out⟩)
  clear HO3 HX3 HB3 HP3
  go_loopg [7, 8] i (fun gk lv bv wr => ∃ (j : Nat) (L : List C2) (lg n c bb : Nat), gk = j ∧ lv = .slice (some ⟨lg, 0, none⟩) n c ∧ bv = .pointer (some ⟨bb, 0, none⟩) ∧ Hid (Back w.heap.size w s a i j L lg n c bb wr))
  case atStart => exact ⟨_, _, _, _, _, _, rfl, rfl, rfl, HK⟩
  case round =>
    obtain ⟨j, L, lg, n, c, bb, rfl, rfl, rfl, HK2⟩ := hrel
    clear HK
    have hn4 : n ≤ 400 := by have := HK2.out.len; have := HK2.out.lj; omega
    have hn1 : 1 ≤ n := by have := HK2.out.way.len; have := HK2.out.len; omega
    have d0 := HK2.out.fr.c0
    have d1 := HK2.out.fr.c1
    have d2 := HK2.out.box.cell 0 rfl
    have d3 := HK2.out.box.cell 1 rfl
    by_cases he : qc s gk = a
    · have HX := Lib.hid he
      have hne := neT11 he wr
      clear he
      go_wp2_with fail
      refine (reverseC lg n c w.heap.size L wr HK2.out.own HK2.out.len hn1 (by omega)).mono ?_
      rintro e w5 ⟨rfl, O5, G5⟩
      have HE := Lib.hid (show Cel.PtRow (planV T a b) w (.returned (.slice (some ⟨lg, 0, none⟩) n c)) w5 from by
        have e : planV T a b = L.reverse := HPL.out.trans (HA.out.back0 HK2.out.way HK2.out.jl HX.out)
        rw [e]
        exact ⟨⟨some ⟨lg, 0, none⟩, n, c⟩, rfl, by rw [List.length_reverse]; exact HK2.out.len, O5, HK2.out.bel.grown G5 HK2.out.bel.size (fun q hq => by have := HK2.out.gB; injection hq with hq; omega)⟩)
      clear O5 G5 hne d0 d1 d2 d3
      go_wp2
      go_ret
      exact HE.out
    · have hne := neF11 he wr
      have HX := Lib.hid he
      clear he
      go_upto_region 4 with fail
      clear hne d0 d1 d2 d3
      obtain ⟨X, Y, hX, hY, hc⟩ := toNats (HS.out.small gk HK2.out.jl)
      obtain ⟨p, hp, hbf, hway⟩ := HA.out.back HK2.out.way HK2.out.jl HX.out
      have HBX := HK2.out.box
      rw [hc] at HBX
      have hbe := HS.out.bef gk HK2.out.jl
      rw [hc, show cno ((X : Int), (Y : Int)) = X * 20 + Y by simp [cno], show 11 + (X * 20 + Y) * 2 = 11 + X * 40 + Y * 2 by omega, hbf] at hbe
      obtain ⟨d, hd⟩ : ∃ d, qc s p = d := ⟨_, rfl⟩
      rw [hd] at hbe hway
      have HBV := HS.out.rq.blk.next HK2.out.bel
      have HW := Lib.hid (And.intro hp (And.intro hway hd))
      have HBB := Lib.hid HBX
      clear hc hbf hp hway hd
      have x0 : (0 : Int) ≤ (X : Int) := by omega
      have x1 : (X : Int) < 20 := by omega
      have x2 : (0 : Int) ≤ (Y : Int) := by omega
      have x3 : (Y : Int) < 20 := by omega
      have u0 := HBX.kept 0 rfl
      have u1 := HBX.kept 1 rfl
      have u2 := HBV.kept _ hbe.1
      have u3 := HBV.kept _ hbe.2
      clear HBX HBV hbe
      refine wp_region_ktail 10 (by kernel_rfl) (by kernel_rfl) ?_
      simp only [List.take_succ_cons, List.take_zero, List.drop_succ_cons, List.drop_zero]
      repeat (go_big_quiet_step (fail))
      refine wpQuiet_nil ?_
      rintro w4 ⟨⟨_, K4⟩, rfl⟩
      have HBB4 := Lib.hid (HBB.out.next K4)
      have HO4 := Lib.hid (HK2.out.own.next K4)
      have HF4 := Lib.hid (HK2.out.fr.next K4)
      have HB4 := Lib.hid (below_call HK2.out.bel K4)
      clear K4 u0 u1 u2 u3 HBB
      have d0 := HBB4.out.cell 0 rfl
      have d1 := HBB4.out.frozen 0
      have d2 := HBB4.out.cell 1 rfl
      have d3 := HBB4.out.frozen 1
      have F5 : Frm bb bb w4 ((w4.setCell ⟨bb, 0, none⟩ (.int .i64 d.1)).setCell ⟨bb, 1, none⟩ (.int .i64 d.2)) := ((Frm.of_below (Below.refl _ _) : Frm bb bb w4 w4).set bb (.inl rfl) 0 _).set bb (.inl rfl) 1 _
      have HBB5 := Lib.hid (show Blk ((w4.setCell ⟨bb, 0, none⟩ (.int .i64 d.1)).setCell ⟨bb, 1, none⟩ (.int .i64 d.2)) bb #[.int .i64 d.1, .int .i64 d.2] 37 from (HBB4.out.set 0 (.int .i64 d.1)).set 1 (.int .i64 d.2))
      have HO5 := Lib.hid (HO4.out.same (fun q hq => F5.block q (World.ownsRow.lt HO4.out q hq).2 (by have := HK2.out.ga; simp [Value.ownBlock] at hq; omega) (by have := HK2.out.ga; simp [Value.ownBlock] at hq; omega)))
      have HF5 := Lib.hid (HF4.out.frm F5 (by have := HK2.out.bB; omega) (by have := HK2.out.bB; omega))
      have HB5 := Lib.hid (F5.below HB4.out HB4.out.size (by have := HK2.out.bB; omega) (by have := HK2.out.bB; omega))
      clear F5
      go_upto_region 5 with fail
      generalize (w4.setCell ⟨bb, 0, none⟩ (.int .i64 d.1)).setCell ⟨bb, 1, none⟩ (.int .i64 d.2) = w5 at *
      clear d0 d1 d2 d3 HBB4 HO4 HF4 HB4
      have d0 := HBB5.out.cell 0 rfl
      have d1 := HBB5.out.cell 1 rfl
      have Bx := below_box w5 (.cells #[.int .i64 d.1, .int .i64 d.2] 37)
      have HOx := Lib.hid (show (w5.alloc (.cells #[.int .i64 d.1, .int .i64 d.2] 37)).ownsRow w.heap.size 37 2 (.slice (some ⟨lg, 0, none⟩) n c) n (Cel.pvals L) from by
        have o := HO5.out.next Bx
        unfold Cel.OwnPt at o
        rw [← HK2.out.len] at o
        exact o)
      have HBx := Lib.hid (below_call HB5.out Bx)
      have HFx := Lib.hid (HF5.out.next Bx)
      have HBBx := Lib.hid (HBB5.out.next Bx)
      have HNW := Lib.hid (Cel.two_new w5 (.int .i64 d.1) (.int .i64 d.2) 37)
      have HH := Lib.hid (show w.heap.size ≤ (w5.alloc (.cells #[.int .i64 d.1, .int .i64 d.2] 37)).heap.size from HBx.out.size)
      have HLT := Lib.hid (And.intro HBB5.out.lt (show w.heap.size + 2 ≤ w5.heap.size from by have := HBB5.out.lt; have := HK2.out.bB; omega))
      clear Bx HO5 HF5 HB5 HBB5
      go_upto_region 6 with (at_builtin; refine wpList_append_lies _ rfl (.tmp 25) (.tmp 27) 34 rfl w.heap.size 37 i0 (pt 0 0) 2 16 Tryz.underlying34 hi0 hz0 hz1 hz2 rfl (by decide) _ n (Cel.pvals L) rfl HOx.out ⟨w5.heap.size, 0, none⟩ 1 1 [.int .i64 d.1, .int .i64 d.2] rfl rfl HNW.out (by intro u hu; simp at hu; rcases hu with rfl | rfl <;> rfl) (by omega) (by unfold maxLen; omega) (by omega) HH.out _ rfl ?_; intro g7 cap6 w7 own7 grow7 at7 ltg7; have HA7 : Hid (Apnd w5 w.heap.size (.slice (some ⟨lg, 0, none⟩) n c) L d w7 g7 (n + 1) cap6) := Lib.hid ⟨own7, grow7, at7, ltg7⟩; clear own7 grow7 at7 ltg7)
      have hsz5 : bb < w5.heap.size ∧ (w5.alloc (.cells #[.int .i64 d.1, .int .i64 d.2] 37)).heap.size = w5.heap.size + 1 ∧ w.heap.size + 2 ≤ w5.heap.size := ⟨HLT.out.1, by simp, HLT.out.2⟩
      have F7 : Frm lg lg (w5.alloc (.cells #[.int .i64 d.1, .int .i64 d.2] 37)) w7 := Frm.of_g HA7.out.grow
      have HG7 := Lib.hid (show g7 ≠ bb ∧ w.heap.size + 2 ≤ g7 from by
        have g1 := HK2.out.ga; have g2 := HK2.out.gB
        rcases HA7.out.at7 with q | q
        · have q2 : lg = g7 := Option.some.inj q; omega
        · omega)
      have HB7 := Lib.hid (F7.below HBx.out HBx.out.size (by have := HK2.out.gB; omega) (by have := HK2.out.gB; omega))
      have HF7 := Lib.hid (HFx.out.frm F7 (by have := HK2.out.gB; omega) (by have := HK2.out.gB; omega))
      have HBB7 := Lib.hid (HBBx.out.frm F7 (fun e => HK2.out.ga e.symm) (fun e => HK2.out.ga e.symm))
      have HO7 := Lib.hid (show Cel.OwnPt w7 w.heap.size (.slice (some ⟨g7, 0, none⟩) (n + 1) cap6) (L ++ [d]) from by
        have o := HA7.out.own
        unfold Cel.OwnPt
        rw [Cel.pvals_snoc, List.length_append, List.length_singleton, ← HK2.out.len]
        exact o)
      have HL7 := Lib.hid HA7.out.lt
      clear F7 HA7 HBx HFx HBBx HOx HNW HH d0 d1 hsz5 HLT
      have d0 := HBB7.out.cell 0 rfl
      have d1 := HBB7.out.cell 1 rfl
      have By := below_box w7 (.cells #[.int .i64 d.1, .int .i64 d.2] 37)
      have HBK := Lib.hid (show Back w.heap.size w s a i p (L ++ [d]) g7 (n + 1) cap6 w7.heap.size (w7.alloc (.cells #[.int .i64 d.1, .int .i64 d.2] 37)) from
        ⟨by have := HW.out.1; have := HK2.out.jl; omega, HW.out.2.1, by rw [List.length_append, List.length_singleton, ← HK2.out.len], by rw [List.length_append, List.length_singleton]; have := HW.out.1; have := HK2.out.lj; omega, HO7.out.next By, by rw [HW.out.2.2]; exact Blk.new w7 _ _, by have := HL7.out; omega, by have := HG7.out.2; have := HL7.out; omega, HG7.out.2, HF7.out.next By, below_call HB7.out By⟩)
      have HPG := Lib.hid HW.out.1
      clear By HB7 HF7 HO7 HL7 HG7
      go_wp2
      go_roundg p
      case rel => exact ⟨_, _, _, _, _, _, rfl, rfl, rfl, HBK⟩
      case measure => exact HPG.out
end Go.Proofs.YtkogoflcacameaaGreatDoor
namespace Go.Proofs.YtkogoflcacameaaGreatDoor
set_option maxRecDepth 100000
open Go.RowKit
attribute [local go_sem ↓] Go.wp_at_zero Go.wp_at_succ
/-- A new search. -/
def search0 (tv : Value) : Array Value := (#[tv, .slice none 0 0, .int .i64 0, .int .i64 0] ++ Array.replicate 7 (.int .u64 0)) ++ Array.replicate 800 (.int .i64 0)
theorem search0_len (tv : Value) : (#[tv, .slice none 0 0, .int .i64 0, .int .i64 0] ++ Array.replicate 7 (Value.int .u64 0)).size = 11 := by simp
theorem search0_lo (tv : Value) (i : Nat) (h : i < 11) : (search0 tv)[i]? = (#[tv, .slice none 0 0, .int .i64 0, .int .i64 0] ++ Array.replicate 7 (Value.int .u64 0))[i]? := by
  unfold search0; rw [Array.getElem?_append_left (by rw [search0_len]; exact h)]
theorem search0_sea (w : World) (tv : Value) (B : Nat) (hB : B ≤ w.heap.size) (T : TypeId) (hT : T = 67) :
    Sea B (w.alloc (.cells (search0 tv) T)) w.heap.size tv [] 0 w.heap.size (search0 tv) #[] 0 0 (fun _ => 0) := by
  subst hT
  refine ⟨⟨Blk.new w _ _, by simp [search0], by simp, by rw [search0_lo tv 1 (by omega)]; rfl, by rw [search0_lo tv 2 (by omega)]; rfl, by rw [search0_lo tv 3 (by omega)]; rfl, by simp, by omega, fun _ => rfl, fun q => absurd rfl q, fun q => absurd rfl q, fun i x hx => by simp at hx, fun j hj => by simp at hj⟩, by rw [search0_lo tv 0 (by omega)]; rfl, fun q hq => ?_, Bits11.nil, fun i hi => by simp at hi, fun i hi => by simp at hi, fun i hi => by simp at hi, hB, hB, by simp⟩
  rw [search0_lo tv (4 + q) (by omega), Array.getElem?_append_right (by simp)]
  rw [Array.getElem?_replicate, if_pos (by simp; omega)]
  rfl
theorem search0_one (a : Option Addr) (len cap : Nat) : (search0 (.slice a len cap)).all (·.oneCell') = true := by
  rw [Array.all_eq_true_iff_forall_mem]
  intro x hx
  unfold search0 at hx
  simp only [Array.mem_append, Array.mem_replicate] at hx
  rcases hx with (h | ⟨_, rfl⟩) | ⟨_, rfl⟩
  · simp at h
    rcases h with rfl | rfl | rfl <;> rfl
  · rfl
  · rfl
def zs811 : Array Value := search0 (.slice none 0 0)
theorem zero811 (w : World) : (zeroValue 67).run Tryz.prog w = .ok (.agg zs811) w := by kernel_rfl
theorem size811 (tv : Value) : (Tryz.prog.info? 67).map (·.size) = some (search0 tv).size := by rw [show (search0 tv).size = 811 by simp [search0]]; kernel_rfl
theorem same811 (tv : Value) : zs811.size = (search0 tv).size := by simp [zs811, search0]
theorem built811 (ta : Option Addr) (len cap : Nat) : Tryz.prog.built 67 [(0, .slice ta len cap)] = some (search0 (.slice ta len cap)) := by kernel_rfl
end Go.Proofs.YtkogoflcacameaaGreatDoor
namespace Go.Proofs.YtkogoflcacameaaGreatDoor
set_option maxRecDepth 100000
open Go.RowKit
attribute [local go_sem ↓] Go.wp_at_zero Go.wp_at_succ
set_option maxHeartbeats 8000000 in
theorem implPlanPath (ta : Option Addr) (len cap : Nat) (T : List (List Bool)) (a b : C2) (w : World) (h : Bol.RSA w ta len T) (hl : len ≤ 9223372036854775807) :
    Calls Tryz.prog 9 #[.slice ta len cap, pt a.1 a.2, pt b.1 b.2] w (Cel.PtRow (planV T a b) w) := by
  have HT := Lib.hid h
  have B0' := below_box2 w (.cells #[.int .i64 a.1, .int .i64 a.2] 37) (.cells #[.int .i64 b.1, .int .i64 b.2] 37)
  have HB := Lib.hid B0'
  have HP := Lib.hid ((AtP.box w a.1 a.2 37).alloc (.cells #[.int .i64 b.1, .int .i64 b.2] 37))
  have HQ0 := AtP.box (w.alloc (.cells #[.int .i64 a.1, .int .i64 a.2] 37)) b.1 b.2 37
  rw [show (w.alloc (.cells #[.int .i64 a.1, .int .i64 a.2] 37)).heap.size = w.heap.size + 1 by simp] at HQ0
  have HQ := Lib.hid HQ0
  clear B0' HQ0 h
  go_enter Tryz.func9, Tryz.ntmps9
  go_upto_region 2 with fail
  generalize (w.alloc (.cells #[.int .i64 a.1, .int .i64 a.2] 37)).alloc (.cells #[.int .i64 b.1, .int .i64 b.2] 37) = w1 at *
  have u0 := HP.out.c0
  have u1 := HP.out.c1
  have u2 := HQ.out.c0
  have u3 := HQ.out.c1
  have HP1 := Lib.hid HP.out
  have HQ1 := Lib.hid HQ.out
  have HB1 := Lib.hid HB.out
  clear HP HQ HB
  have HTV := Lib.hid (tableValid ta len cap T w1 (HT.out.next HB1.out) hl)
  by_cases hs : squV T
  rotate_left
  · rw [decide_eq_false hs] at HTV
    have HE : Hid (∀ w', Below w.heap.size w w' → Cel.PtRow (planV T a b) w (.returned (.slice none 0 0)) w') := Lib.hid fun w' hbel => by rw [planV_no (by rintro ⟨q, _⟩; exact hs q)]; exact Cel.nilPt w w' hbel
    go_wp2_with fail
    refine (HTV.out).mono ?_
    rintro e w2 ⟨rfl, BC⟩
    have HB2 := Lib.hid (below_call HB1.out BC)
    have HP2 := Lib.hid (HP1.out.next BC)
    have HQ2 := Lib.hid (HQ1.out.next BC)
    clear BC HB1 HP1 HQ1
    have u0 := HP2.out.c0
    have u1 := HP2.out.c1
    have u2 := HQ2.out.c0
    have u3 := HQ2.out.c1
    clear u0 u1 u2 u3
    go_wp2
    go_ret
    exact HE.out _ HB2.out
  rw [decide_eq_true hs] at HTV
  go_wp2_with fail
  refine (HTV.out).mono ?_
  rintro e w2 ⟨rfl, BC⟩
  have HB2 := Lib.hid (below_call HB1.out BC)
  have HP2 := Lib.hid (HP1.out.next BC)
  have HQ2 := Lib.hid (HQ1.out.next BC)
  clear BC HB1 HP1 HQ1
  have u0 := HP2.out.c0
  have u1 := HP2.out.c1
  have u2 := HQ2.out.c0
  have u3 := HQ2.out.c1
  clear HTV
  have HFA := Lib.hid (isFreeC ta len cap T a.1 a.2 w2 (HT.out.next HB2.out) hl)
  by_cases ha : freeV T a = true
  rotate_left
  · have ha' : freeV T (a.1, a.2) = false := by simpa using ha
    rw [ha'] at HFA
    clear ha'
    have HE : Hid (∀ w', Below w.heap.size w w' → Cel.PtRow (planV T a b) w (.returned (.slice none 0 0)) w') := Lib.hid fun w' hbel => by rw [planV_no (by rintro ⟨_, q, _⟩; exact ha q)]; exact Cel.nilPt w w' hbel
    go_wp2_with fail
    refine (HFA.out).mono ?_
    rintro e w3 ⟨rfl, BC⟩
    have HB3 := Lib.hid (below_call HB2.out BC)
    have HP3 := Lib.hid (HP2.out.next BC)
    have HQ3 := Lib.hid (HQ2.out.next BC)
    clear BC HB2 HP2 HQ2
    have u0 := HP3.out.c0
    have u1 := HP3.out.c1
    have u2 := HQ3.out.c0
    have u3 := HQ3.out.c1
    clear u0 u1 u2 u3
    go_wp2
    go_ret
    exact HE.out _ HB3.out
  rw [show freeV T (a.1, a.2) = true from ha] at HFA
  go_wp2_with fail
  refine (HFA.out).mono ?_
  rintro e w3 ⟨rfl, BC⟩
  have HB3 := Lib.hid (below_call HB2.out BC)
  have HP3 := Lib.hid (HP2.out.next BC)
  have HQ3 := Lib.hid (HQ2.out.next BC)
  clear BC HB2 HP2 HQ2
  have u0 := HP3.out.c0
  have u1 := HP3.out.c1
  have u2 := HQ3.out.c0
  have u3 := HQ3.out.c1
  clear HFA
  have HFB := Lib.hid (isFreeC ta len cap T b.1 b.2 w3 (HT.out.next HB3.out) hl)
  by_cases hb : freeV T b = true
  rotate_left
  · have hb' : freeV T (b.1, b.2) = false := by simpa using hb
    rw [hb'] at HFB
    clear hb'
    have HE : Hid (∀ w', Below w.heap.size w w' → Cel.PtRow (planV T a b) w (.returned (.slice none 0 0)) w') := Lib.hid fun w' hbel => by rw [planV_no (by rintro ⟨_, _, q⟩; exact hb q)]; exact Cel.nilPt w w' hbel
    go_wp2_with fail
    refine (HFB.out).mono ?_
    rintro e w4 ⟨rfl, BC⟩
    have HB4 := Lib.hid (below_call HB3.out BC)
    have HP4 := Lib.hid (HP3.out.next BC)
    have HQ4 := Lib.hid (HQ3.out.next BC)
    clear BC HB3 HP3 HQ3
    have u0 := HP4.out.c0
    have u1 := HP4.out.c1
    have u2 := HQ4.out.c0
    have u3 := HQ4.out.c1
    clear u0 u1 u2 u3
    go_wp2
    go_ret
    exact HE.out _ HB4.out
  rw [show freeV T (b.1, b.2) = true from hb] at HFB
  have HAV := Lib.hid (And.intro hs (And.intro ha hb))
  clear hs ha hb
  go_wp2_with fail
  refine (HFB.out).mono ?_
  rintro e w4 ⟨rfl, BC⟩
  have HB4 := Lib.hid (below_call HB3.out BC)
  have HP4 := Lib.hid (HP3.out.next BC)
  have HQ4 := Lib.hid (HQ3.out.next BC)
  clear BC HB3 HP3 HQ3
  have u0 := HP4.out.c0
  have u1 := HP4.out.c1
  have u2 := HQ4.out.c0
  have u3 := HQ4.out.c1
  clear HFB u0 u1 u2 u3
  have hz := zero811
  have Bx := below_box w4 (.cells (search0 (.slice ta len cap)) 67)
  have HS5 := Lib.hid (search0_sea w4 (.slice ta len cap) w4.heap.size (Nat.le_refl _) 67 rfl)
  have HB5 := Lib.hid Bx
  have HP5 := Lib.hid (HP4.out.next Bx)
  have HQ5 := Lib.hid (HQ4.out.next Bx)
  have HT4 := Lib.hid (HT.out.next HB4.out)
  clear Bx HT
  go_upto_region 5 with (first | (refine wpList_buildTo (by rfl) 67 _ (by rfl) (some 26) (by rfl) (search0 (.slice ta len cap)) (by rw [List.map_toArray]; exact built811 ta len cap) ?_) | (refine wpList_store_rowTo rfl 67 (.tmp 8) (.tmp 26) rfl rfl w4.heap.size (search0 (.slice ta len cap)) rfl rfl 67 zs811 (heap_alloc_last w4 _) (size811 _) (same811 _) (search0_one ta len cap) ?_))
  rw [World.setRow_alloc_new]
  generalize w4.alloc (.cells (search0 (.slice ta len cap)) 67) = w5 at *
  clear hz
  have u0 := HP5.out.c0
  have u1 := HP5.out.c1
  have u2 := HQ5.out.c0
  have u3 := HQ5.out.c1
  have HRE := Lib.hid (reachesC w4.heap.size ta len cap T a b w4 w5 (search0 (.slice ta len cap)) HS5.out HT4.out hl HB5.out HAV.out)
  generalize search0 (.slice ta len cap) = s0 at *
  go_wp2_with fail
  refine HRE.out.mono ?_
  rintro e w6 hre
  obtain ⟨r, rfl, hno, hyes, B6⟩ := hre
  have HB6 := Lib.hid (below_call HB4.out B6)
  have HP6 := Lib.hid (HP4.out.next B6)
  have HQ6 := Lib.hid (HQ4.out.next B6)
  clear B6 u0 u1 u2 u3 HRE HS5 HB5 HP5 HQ5 HT4 HB4
  cases r with
  | false =>
    have HE : Hid (∀ w', Below w.heap.size w w' → Cel.PtRow (planV T a b) w (.returned (.slice none 0 0)) w') := Lib.hid fun w' hbel => by rw [hno rfl]; exact Cel.nilPt w w' hbel
    clear hno hyes
    go_wp2
    go_ret
    exact HE.out _ HB6.out
  | true =>
    obtain ⟨s, k, i, g, cs, rs, m, fi, V, S6, A6, hi, hib⟩ := hyes rfl
    have HPC := Lib.hid (pathC w4.heap.size w4.heap.size k g m fi i (.slice ta len cap) T a b s cs rs V w6 S6 A6 hi hib)
    clear hno hyes S6 A6 hi hib
    have u0 := HP6.out.c0
    have u1 := HP6.out.c1
    have u2 := HQ6.out.c0
    have u3 := HQ6.out.c1
    go_wp2_with fail
    refine HPC.out.mono ?_
    rintro e w7 hpr
    obtain ⟨sl, rfl, hsl, O7, B7⟩ := hpr
    have HE := Lib.hid (show Cel.PtRow (planV T a b) w (.returned (.slice sl.a sl.len sl.cap)) w7 from ⟨sl, rfl, hsl, O7.down6 HB6.out.size, below_call HB6.out B7⟩)
    clear hsl O7 B7 u0 u1 u2 u3 HPC
    go_wp2
    go_ret
    exact HE.out
end Go.Proofs.YtkogoflcacameaaGreatDoor
