/- The document's PlanPath. -/
import Derived.Test.YtkogoflcacameaaSb11
import Derived.Test.YtkogoflcacameaaGs11
namespace Go.Proofs.Ytkogoflcacameaa
set_option maxRecDepth 100000
open Go.RowKit
attribute [local go_sem ↓] Go.wp_at_zero Go.wp_at_succ
/-- One of the first i cells of the queue is n. -/
def hasTo (s : Qu) (n : C2) : Nat → Bool
  | 0 => false
  | i + 1 => hasTo s n i || decide (qc s i = n)
theorem hasTo_iff (s : Qu) (n : C2) : ∀ i, hasTo s n i = true ↔ ∃ j, j < i ∧ qc s j = n
  | 0 => ⟨(fun h => by cases h), (fun ⟨j, h, _⟩ => by omega)⟩
  | i + 1 => by
    show (hasTo s n i || decide (qc s i = n)) = true ↔ _
    rw [Bool.or_eq_true, decide_eq_true_iff, hasTo_iff s n i]
    constructor
    · rintro (⟨j, h1, h2⟩ | h)
      · exact ⟨j, by omega, h2⟩
      · exact ⟨i, by omega, h⟩
    · rintro ⟨j, h1, h2⟩
      by_cases e : j = i
      · subst e; exact .inr h2
      · exact .inl ⟨j, by omega, h2⟩
theorem hasTo_all (s : Qu) (n : C2) : hasTo s n s.length = true ↔ Has s n := hasTo_iff s n s.length
theorem vis_yes {fr : C2 → Bool} {k : Nat} {s : Qu} {n : C2} (h : Has s n ∨ fr n = false) : vis fr k s n = s := if_pos h
theorem vis_no {fr : C2 → Bool} {k : Nat} {s : Qu} {n : C2} (h1 : ¬ Has s n) (h2 : fr n = true) : vis fr k s n = s ++ [(n, (k : Int))] := if_neg (by rintro (h | h); exact h1 h; rw [h2] at h; cases h)
/-- A queue's two rows. -/
structure QRow (w : World) (B : Nat) (qv bv : Value) (s : Qu) : Prop where
  q : Cel.OwnPt w B qv (s.map Prod.fst)
  b : OwnI w B bv (s.map Prod.snd)
  ne : qv.ownBlock ≠ bv.ownBlock
section
variable {w w' : World} {B : Nat} {qv bv : Value} {s : Qu}
theorem QRow.next (h : QRow w B qv bv s) (hb : Below w.heap.size w w') : QRow w' B qv bv s := ⟨h.q.next hb, OwnI.next h.b hb, h.ne⟩
theorem qc_map (s : Qu) {j : Nat} (hj : j < s.length) : (s.map Prod.fst).getD j (0, 0) = qc s j := by
  unfold qc; rw [List.getD_eq_getElem?_getD, List.getD_eq_getElem?_getD, List.getElem?_map, List.getElem?_eq_getElem hj]; rfl
theorem QRow.sls (h : QRow w B qv bv s) : ∃ (q b : Sl), qv = .slice q.a q.len q.cap ∧ bv = .slice b.a b.len b.cap ∧ q.len = s.length ∧ b.len = s.length ∧ Cel.PtsAt w q.a q.len (s.map Prod.fst) ∧ IntsAt w b.a b.len (s.map Prod.snd) := by
  have hq := h.q
  have hb := h.b
  obtain ⟨q, rfl, h1⟩ := hq.sl
  have hbs : ∃ b : Sl, bv = .slice b.a b.len b.cap ∧ b.len = s.length := by
    rcases hb.2 with ⟨hv, hn⟩ | ⟨g, c, cur, hv, _⟩
    · exact ⟨⟨none, 0, 0⟩, hv, by simpa using hn.symm⟩
    · exact ⟨⟨some ⟨g, 0, none⟩, _, c⟩, hv, by simp⟩
  obtain ⟨b, rfl, h2⟩ := hbs
  exact ⟨q, b, rfl, rfl, by simpa using h1, h2, Cel.OwnPt.ints hq, OwnI.ints hb⟩
end
theorem vals_snoc11 (zs : List Int) (z : Int) : vals (zs ++ [z]) = vals zs ++ [.int .i64 z] := by simp [vals]
theorem one_own11 (w : World) (B : Nat) (hB : B ≤ w.heap.size) (p : Int) (T : TypeId) (hT : T = 3) : OwnI (w.alloc (.cells #[.int .i64 p] T)) B (.slice (some ⟨w.heap.size, 0, none⟩) 1 1) [p] := by
  subst hT
  exact World.ownsRow_lit (base := B) (e := 3) (size := 1) w #[.int .i64 p] 1 hB (by unfold maxLen; omega) rfl
theorem one_new11 (w : World) (a : Value) (t : Nat) : ∀ (j : Nat) u, [a][j]? = some u → (w.alloc (.cells #[a] t)).cell? ((⟨w.heap.size, 0, none⟩ : Addr).add j) = some u := by
  intro j u hu
  have hj : j = 0 := by
    have := (List.getElem?_eq_some_iff.1 hu).1
    simp at this; omega
  subst hj
  simp at hu; subst hu; simp [Addr.add]
theorem exps_len (fr : C2 → Bool) (s : Qu) (k : Nat) : ∀ j, j ≤ 4 → s.length ≤ (exps fr s k j).length ∧ (exps fr s k j).length ≤ s.length + j
  | 0, _ => ⟨Nat.le_refl _, Nat.le_refl _⟩
  | j + 1, h => by
    obtain ⟨h1, h2⟩ := exps_len fr s k j (by omega)
    rw [exps_succ fr s k (by omega)]
    unfold vis
    split
    · exact ⟨h1, by omega⟩
    · rw [List.length_append, List.length_singleton]; exact ⟨by omega, by omega⟩
theorem Cel.PtsAt.row {w w' : World} {b len : Nat} {ps : List (Int × Int)} {row : Option Nat} (h : Cel.PtsAt w (Option.some ⟨b, 0, none⟩) len ps) (hg : w.grownBy w' row) (hne : row ≠ Option.some b) : Cel.PtsAt w' (Option.some ⟨b, 0, none⟩) len ps := by
  refine ⟨h.1, h.2.imp id fun ⟨g, h1, h2, h3⟩ => ?_⟩
  injection h1 with h1; injection h1 with h1 _ _
  subst h1
  have e := hg.block b h2 (fun q => hne q.symm)
  exact ⟨b, rfl, Nat.lt_of_lt_of_le h2 hg.size, fun i hi => ⟨(World.cell?_of_block (a := ⟨b, i * 2, none⟩) e).trans (h3 i hi).1, (World.cell?_of_block (a := ⟨b, i * 2 + 1, none⟩) e).trans (h3 i hi).2⟩⟩
theorem AtP.row11 {w w' : World} {b : Nat} {x y : Int} {row : Option Nat} (h : AtP w b x y) (hg : w.grownBy w' row) (hne : row ≠ some b) : AtP w' b x y :=
  have e := hg.block b h.lt (fun q => hne q.symm)
  ⟨Nat.lt_of_lt_of_le h.lt hg.size, (World.cell?_of_block (a := ⟨b, 0, none⟩) e).trans h.c0, (World.cell?_of_block (a := ⟨b, 1, none⟩) e).trans h.c1⟩
/-- A cell more: what the two appends leave. -/
structure Pushed (w : World) (B : Nat) (qv bv : Value) (s : Qu) (c : C2) (k : Int) (w7 : World) (g n7 cap6 : Nat) : Prop where
  own : w7.ownsRow B 33 2 (.slice (some ⟨g, 0, none⟩) n7 cap6) n7 (Cel.pvals (s.map Prod.fst) ++ [.int .i64 c.1, .int .i64 c.2])
  grow : (w.alloc (.cells #[.int .i64 c.1, .int .i64 c.2] 33)).grownBy w7 qv.ownBlock
  at7 : qv.ownBlock = some g ∨ g = (w.alloc (.cells #[.int .i64 c.1, .int .i64 c.2] 33)).heap.size
  lt : g < w7.heap.size
section
variable {w w7 w8 : World} {B g n7 cap6 g2 n8 cap8 : Nat} {qv bv : Value} {s : Qu} {c : C2} {k : Int}
theorem QRow.bne (h : QRow w B qv bv s) (p : Pushed w B qv bv s c k w7 g n7 cap6) : bv.ownBlock ≠ some g := fun e => by
  rcases p.at7 with q | q
  · exact h.ne (q.trans e.symm)
  · have := (World.ownsRow.lt h.b g e).2
    simp at q; omega
theorem Pushed.back (p : Pushed w B qv bv s c k w7 g n7 cap6) (h : QRow w B qv bv s) : OwnI (w7.alloc (.cells #[.int .i64 k] 3)) B bv (s.map Prod.snd) := by
  have h1 := OwnI.next h.b (below_box w (.cells #[.int .i64 c.1, .int .i64 c.2] 33))
  have h2 : OwnI w7 B bv (s.map Prod.snd) := World.ownsRow.kept h1 p.grow (by
    cases hb : bv.ownBlock with
    | none => exact .inl rfl
    | some q => exact .inr (fun e => h.ne (e.symm.trans hb.symm)))
  exact OwnI.next h2 (below_box w7 _)
theorem Pushed.row (p : Pushed w B qv bv s c k w7 g n7 cap6) (h : QRow w B qv bv s) (hn7 : n7 = s.length + 1) (hn8 : n8 = s.length + 1)
    (own8 : w8.ownsRow B 3 1 (.slice (some ⟨g2, 0, none⟩) n8 cap8) n8 (vals (s.map Prod.snd) ++ [.int .i64 k])) (grow8 : (w7.alloc (.cells #[.int .i64 k] 3)).grownBy w8 bv.ownBlock)
    (at8 : bv.ownBlock = some g2 ∨ g2 = (w7.alloc (.cells #[.int .i64 k] 3)).heap.size) : QRow w8 B (.slice (some ⟨g, 0, none⟩) n7 cap6) (.slice (some ⟨g2, 0, none⟩) n8 cap8) (s ++ [(c, k)]) := by
  subst hn7 hn8
  have hb := h.bne p
  refine ⟨?_, ?_, ?_⟩
  · have o := World.ownsRow.kept (row := none) p.own ⟨(below_box w7 (.cells #[.int .i64 k] 3)).os, (below_box w7 (.cells #[.int .i64 k] 3)).tape, (below_box w7 (.cells #[.int .i64 k] 3)).output, (below_box w7 (.cells #[.int .i64 k] 3)).size, fun q hq _ => (below_box w7 (.cells #[.int .i64 k] 3)).block q hq⟩ (.inr (by simp [Value.ownBlock]))
    have o2 := World.ownsRow.kept o grow8 (.inr (fun e => hb (by simpa [Value.ownBlock] using e.symm)))
    unfold Cel.OwnPt
    rw [List.map_append, List.length_append, List.length_map, List.map_cons, List.map_nil, Cel.pvals_snoc]
    exact o2
  · unfold OwnI
    rw [List.map_append, List.length_append, List.length_map, List.map_cons, List.map_nil, vals_snoc11]
    exact own8
  · simp only [Value.ownBlock, ne_eq, Option.some.injEq]
    rcases at8 with q | q
    · rintro rfl; exact hb q
    · have := p.lt; simp at q; omega
end
theorem infoI11 : (Try.prog.info? 3).map (fun i => (i.zero, i.size, i.bytes)) = some (some (.int .i64 0), 1, 8) := by kernel_rfl
set_option maxHeartbeats 8000000 in
theorem specPlanPath (ta : Option Addr) (tl tc : Nat) (T : List (List Bool)) (a b : C2) (w : World) (h : Bol.RSA w ta tl T) (hl : tl ≤ 9223372036854775807) :
    Calls Try.prog 20 #[.slice ta tl tc, pt a.1 a.2, pt b.1 b.2] w (Cel.PtRow (planV T a b) w) := by
  obtain ⟨i0, hi0, hz0, hz1, hz2⟩ := info_parts Cel.infoPt6
  obtain ⟨j0, hj0, hy0, hy1, hy2⟩ := info_parts infoI11
  have HB := Lib.hid (below_box2 w (.cells #[.int .i64 a.1, .int .i64 a.2] 33) (.cells #[.int .i64 b.1, .int .i64 b.2] 33))
  obtain ⟨P, Q⟩ := at2 w a.1 a.2 b.1 b.2 33
  have HSQ := Lib.hid (l11SquareC ta tl tc T _ (h.next HB.out) hl)
  have HR := Lib.hid h
  have HFR := Lib.hid (fun (c : C2) (u : World) (hu : Below w.heap.size w u) => l11FreeC ta tl tc T c.1 c.2 u (h.next hu) hl)
  clear h
  by_cases hs : squV T
  rotate_left
  · rw [decide_eq_false hs] at HSQ
    have HV := Lib.hid (planV_no (T := T) (a := a) (b := b) (fun q => hs q.1))
    clear hs
    go_enter Try.func20, Try.ntmps20
    go_wp2_with fail
    refine HSQ.out.mono ?_
    rintro e w1 ⟨rfl, B1⟩
    have HB1 := Lib.hid (below_call HB.out B1)
    clear B1 HSQ P Q
    have O := Lib.hid (Cel.ownPt_empty w1 33 rfl)
    go_wp2
    go_ret
    rw [HV.out]
    exact O.out.slv w HB1.out.size (below_call HB1.out (below_box _ _))
  rw [decide_eq_true hs] at HSQ
  by_cases ha : freeV T a = true
  rotate_left
  · have ha' : freeV T (a.1, a.2) = false := by simpa using ha
    have HV := Lib.hid (planV_no (T := T) (a := a) (b := b) (fun q => ha q.2.1))
    have HFA := Lib.hid (HFR.out a)
    rw [ha'] at HFA
    clear hs ha ha'
    go_enter Try.func20, Try.ntmps20
    go_wp2_with fail
    refine HSQ.out.mono ?_
    rintro e w1 ⟨rfl, B1⟩
    have HB1 := Lib.hid (below_call HB.out B1)
    obtain ⟨_, p0, p1⟩ := P.next B1
    clear B1 HSQ P Q
    go_wp2_with fail
    refine (HFA.out _ HB1.out).mono ?_
    rintro e w2 ⟨rfl, B2⟩
    have HB2 := Lib.hid (below_call HB1.out B2)
    clear B2 p0 p1 HFA
    have O := Lib.hid (Cel.ownPt_empty w2 33 rfl)
    go_wp2
    go_ret
    rw [HV.out]
    exact O.out.slv w HB2.out.size (below_call HB2.out (below_box _ _))
  have HFA := Lib.hid (HFR.out a)
  rw [show freeV T (a.1, a.2) = true from ha] at HFA
  have HFB := Lib.hid (HFR.out b)
  by_cases hb : freeV T b = true
  rotate_left
  · have hb' : freeV T (b.1, b.2) = false := by simpa using hb
    have HV := Lib.hid (planV_no (T := T) (a := a) (b := b) (fun q => hb q.2.2))
    rw [hb'] at HFB
    clear hs ha hb hb'
    go_enter Try.func20, Try.ntmps20
    go_wp2_with fail
    refine HSQ.out.mono ?_
    rintro e w1 ⟨rfl, B1⟩
    have HB1 := Lib.hid (below_call HB.out B1)
    have Q1 := Q.next B1
    obtain ⟨_, p0, p1⟩ := P.next B1
    clear B1 HSQ P Q
    go_wp2_with fail
    refine (HFA.out _ HB1.out).mono ?_
    rintro e w2 ⟨rfl, B2⟩
    have HB2 := Lib.hid (below_call HB1.out B2)
    obtain ⟨_, q0, q1⟩ := Q1.next B2
    clear B2 p0 p1 HFA Q1
    go_wp2_with fail
    refine (HFB.out _ HB2.out).mono ?_
    rintro e w3 ⟨rfl, B3⟩
    have HB3 := Lib.hid (below_call HB2.out B3)
    clear B3 q0 q1 HFB
    have O := Lib.hid (Cel.ownPt_empty w3 33 rfl)
    go_wp2
    go_ret
    rw [HV.out]
    exact O.out.slv w HB3.out.size (below_call HB3.out (below_box _ _))
  rw [show freeV T (b.1, b.2) = true from hb] at HFB
  have HAT := Lib.hid (At11.start (T := T) (a := a) (b := b) ⟨hs, ha, hb⟩)
  clear hs ha hb
  go_enter Try.func20, Try.ntmps20
  go_wp2_with fail
  refine HSQ.out.mono ?_
  rintro e w1 ⟨rfl, B1⟩
  have HB1 := Lib.hid (below_call HB.out B1)
  have Q1 := Q.next B1
  have P1 := P.next B1
  obtain ⟨_, p0, p1⟩ := id P1
  clear B1 HSQ P Q
  go_wp2_with fail
  refine (HFA.out _ HB1.out).mono ?_
  rintro e w2 ⟨rfl, B2⟩
  have HB2 := Lib.hid (below_call HB1.out B2)
  have Q2 := Q1.next B2
  have P2 := P1.next B2
  obtain ⟨_, q0, q1⟩ := id Q2
  clear B2 p0 p1 HFA Q1 P1
  go_wp2_with fail
  refine (HFB.out _ HB2.out).mono ?_
  rintro e w3 ⟨rfl, B3⟩
  have HB3 := Lib.hid (below_call HB2.out B3)
  have HQ3 := Lib.hid (Q2.next B3)
  obtain ⟨_, p0, p1⟩ := P2.next B3
  clear B3 q0 q1 HFB Q2 P2
  have HSZ := Lib.hid (show w.heap.size + 2 ≤ w3.heap.size from by have := HQ3.out.lt; omega)
  have HO := Lib.hid (Cel.one w3 (w.heap.size + 2) HSZ.out a 33 rfl)
  have HW4 := Lib.hid (below_call HB3.out (below_box w3 (.cells #[.int .i64 a.1, .int .i64 a.2] 33)))
  have HOI := Lib.hid (one_own11 (w3.alloc (.cells #[.int .i64 a.1, .int .i64 a.2] 33)) (w.heap.size + 2) (Nat.le_trans HSZ.out (below_box w3 _).size) (-1) 3 rfl)
  have Bx := below_box (w3.alloc (.cells #[.int .i64 a.1, .int .i64 a.2] 33)) (.cells #[.int .i64 (-1)] 3)
  have HW5 := Lib.hid (below_call HW4.out Bx)
  have HQ5 := Lib.hid ((HQ3.out.next (below_box w3 (.cells #[.int .i64 a.1, .int .i64 a.2] 33))).next Bx)
  rw [show (w3.alloc (.cells #[.int .i64 a.1, .int .i64 a.2] 33)).heap.size = w3.heap.size + 1 by simp] at HOI
  have HQR : Hid (QRow ((w3.alloc (.cells #[.int .i64 a.1, .int .i64 a.2] 33)).alloc (.cells #[.int .i64 (-1)] 3)) (w.heap.size + 2) (.slice (some ⟨w3.heap.size, 0, none⟩) 1 1) (.slice (some ⟨w3.heap.size + 1, 0, none⟩) 1 1) [(a, -1)]) := Lib.hid
    ⟨HO.out.next Bx, HOI.out, by simp [Value.ownBlock]⟩
  clear Bx HO HOI HW4 HQ3
  go_wp2
  generalize (w3.alloc (.cells #[.int .i64 a.1, .int .i64 a.2] 33)).alloc (.cells #[.int .i64 (-1)] 3) = w5 at *
  clear p0 p1
  go_loopw [7, 8, 9] (fun qv bv kv wr => ∃ (s : Qu) (k : Nat), kv = .int .i64 (k : Int) ∧ Hid (At11 T a b s k ∧ QRow wr (w.heap.size + 2) qv bv s) ∧ k ≤ s.length ∧ s.length ≤ 400 ∧ Hid (AtP wr (w.heap.size + 1) b.1 b.2) ∧ Hid (Below w.heap.size w wr)) (fun _ _ kv _ => 401 - (intOf kv).toNat)
  case atStart => exact ⟨[(a, -1)], 0, rfl, Lib.hid ⟨HAT.out, HQR.out⟩, Nat.zero_le _, by simp, HQ5, HW5⟩
  case round =>
    obtain ⟨s, k, rfl, HS, hk, hsl, HQ, HW⟩ := hrel
    obtain ⟨wo, hwo⟩ : ∃ x : World, x = wr := ⟨_, rfl⟩
    subst hwo
    clear HAT HQR HQ5 HW5
    obtain ⟨⟨qa, ql, qk⟩, ⟨ba, bl, bk⟩, rfl, rfl, hql, hbl, hpq, hpb⟩ := HS.out.2.sls
    simp only at hql hbl hpq hpb
    subst hql
    subst hbl
    have HPQ := Lib.hid hpq
    have HPB := Lib.hid hpb
    clear hpq hpb
    by_cases hlt : k < s.length
    · obtain ⟨bq, rfl, ltq, cq⟩ := HPQ.out.some (by omega)
      obtain ⟨d0, d1⟩ := cq k hlt
      rw [qc_map s hlt] at d0 d1
      have u0 := keptCell ltq d0
      have u1 := keptCell ltq d1
      obtain ⟨e0, e1⟩ := HQ.out.kepts
      have HLQ := Lib.hid ltq
      have HSM := Lib.hid (HS.out.1.small k hlt)
      have j1 : (0 : Int) ≤ (k : Int) := by omega
      have j2 : (k : Int) < (s.length : Int) := by omega
      clear cq ltq d0 d1
      obtain ⟨c, hc⟩ : ∃ c, qc s k = c := ⟨_, rfl⟩
      have HCE := Lib.hid hc
      rw [hc] at u0 u1 HSM
      clear hc
      by_cases he : c = b
      · have hb := eqT11 he
        have HV := Lib.hid (HS.out.1.found hlt (HCE.out.trans he))
        clear he
        go_upto_region 8 with fail
        refine wp_region_kept (by kernel_rfl) (by kernel_rfl) ?_
        repeat (go_big_quiet_step (fail))
        refine wpQuiet_nil ?_
        rintro w6 ⟨⟨_, K2⟩, rfl⟩
        have HW6 := Lib.hid (below_call HW.out K2)
        obtain ⟨_, _, _, d, hQI, _⟩ := HS.out.1
        have HBK := Lib.hid (l11BackC (some ⟨bq, 0, none⟩) s.length qk ba s.length bk (freeV T) a s k k d w6 (HPQ.out.next K2) (HPB.out.next K2) hQI hlt hsl)
        rw [← HV.out] at HBK
        clear u0 u1 e0 e1 K2 hQI
        go_wp2_with fail
        refine HBK.out.mono ?_
        rintro e w7 ⟨⟨sa, sl, sc⟩, rfl, hl7, o7, B7⟩
        have HF := Lib.hid (And.intro hl7 (And.intro o7 (below_call HW6.out B7)))
        have hsz := HW6.out.size
        clear hl7 o7 B7 HBK
        go_wp2
        go_ret
        exact ⟨⟨sa, sl, sc⟩, rfl, HF.out.1, HF.out.2.1.down6 hsz, HF.out.2.2⟩
      · have hb := eqF11 he
        have HNE := Lib.hid (show qc s k ≠ b from by rw [HCE.out]; exact he)
        clear he
        go_upto_region 8 with fail
        refine wp_region_kept (by kernel_rfl) (by kernel_rfl) ?_
        repeat (go_big_quiet_step (fail))
        refine wpQuiet_nil ?_
        rintro w6 ⟨⟨_, K2⟩, rfl⟩
        have HW6 := Lib.hid (below_call HW.out K2)
        have HQ6 := Lib.hid (HQ.out.next K2)
        have HR6 := Lib.hid (HS.out.2.next K2)
        have HAT := Lib.hid HS.out.1
        have v0 : w6.cell? ⟨bq, k * 2, none⟩ = some (.int .i64 c.1) := u0 ⟨w6, K2⟩
        have v1 : w6.cell? ⟨bq, k * 2 + 1, none⟩ = some (.int .i64 c.2) := u1 ⟨w6, K2⟩
        clear u0 u1 e0 e1 K2 HS HPQ HPB HLQ hb HQ
        have HNX := Lib.hid (l11NextC c.1 c.2 w6 HSM.out)
        go_wp2_with fail
        refine HNX.out.mono ?_
        rintro e w7 ⟨rfl, HN7, B7⟩
        have HN8 := Lib.hid (And.intro HN7 (show (Value.slice (some ⟨bq, 0, none⟩) s.length qk).ownBlock ≠ some (w6.heap.size + 1) ∧ (Value.slice ba s.length bk).ownBlock ≠ some (w6.heap.size + 1) from ⟨fun e => by have := (World.ownsRow.lt HR6.out.q _ e).2; omega, fun e => by have := (World.ownsRow.lt HR6.out.b _ e).2; omega⟩))
        have HW7 := Lib.hid (below_call HW6.out B7)
        have HQ7 := Lib.hid (HQ6.out.next B7)
        have HR7 := Lib.hid (HR6.out.next B7)
        have HNB := Lib.hid (show w6.heap.size + 1 < w7.heap.size from by
          rcases HN7.2 with q | ⟨g, q, q2, _⟩
          · cases q
          · injection q with q; injection q with q _ _; omega)
        clear HN7 B7 HNX v0 v1 HR6 HQ6
        generalize w6.heap.size + 1 = nb at *
        clear HW6
        go_wp2
        go_loopw [7, 8, 11] (fun qv bv jv wr => ∃ (s2 : Qu) (j : Nat), j ≤ 4 ∧ jv = .int .i64 (j : Int) ∧ Hid (s2 = exps (freeV T) s k j) ∧ Hid (QRow wr (w.heap.size + 2) qv bv s2) ∧ Hid (AtP wr (w.heap.size + 1) b.1 b.2) ∧ Hid (Cel.PtsAt wr (some ⟨nb, 0, none⟩) 4 (nbs c) ∧ qv.ownBlock ≠ some nb ∧ bv.ownBlock ≠ some nb) ∧ Hid (Below w.heap.size w wr)) (fun _ _ jv _ => 4 - (intOf jv).toNat)
        case atStart => exact ⟨s, 0, by omega, rfl, Lib.hid rfl, HR7, HQ7, HN8, HW7⟩
        case round =>
          obtain ⟨s2, j, hj, rfl, HE, HRw, HQw, HNw, HWw⟩ := hrel
          clear HR7 HQ7 HN8 HW7 HNB
          obtain ⟨wm, hwm⟩ : ∃ x : World, x = wr := ⟨_, rfl⟩
          subst hwm
          obtain ⟨⟨qa2, ql2, qk2⟩, ⟨ba2, bl2, bk2⟩, rfl, rfl, hql2, hbl2, hpq2, _⟩ := HRw.out.sls
          simp only at hql2 hbl2 hpq2
          subst hql2
          subst hbl2
          have HPQ2 := Lib.hid hpq2
          have HLEN := Lib.hid (exps_len (freeV T) s k j hj)
          rw [← HE.out] at HLEN
          have hl1 : 1 ≤ s2.length := by have := HLEN.out.1; omega
          have hl2 : s2.length ≤ 404 := by have := HLEN.out.2; omega
          have HLEN2 := Lib.hid (show k + 1 ≤ s2.length from by have := HLEN.out.1; omega)
          clear hpq2 HLEN
          by_cases hjt : j < 4
          · have HSU := Lib.hid (show exps (freeV T) s k (j + 1) = vis (freeV T) k s2 ((nbs c).getD j (0, 0)) from by rw [exps_succ (freeV T) s k hjt, HCE.out, ← HE.out])
            have hnn : ∃ g, (some ⟨nb, 0, none⟩ : Option Addr) = some ⟨g, 0, none⟩ ∧ g < wm.heap.size ∧ wm.cell? ⟨g, j * 2, none⟩ = some (.int .i64 ((nbs c).getD j (0, 0)).1) ∧ wm.cell? ⟨g, j * 2 + 1, none⟩ = some (.int .i64 ((nbs c).getD j (0, 0)).2) := by
              rcases HNw.out.1.2 with q | ⟨g, q, q2, q3⟩
              · cases q
              · exact ⟨g, q, q2, q3 j hjt⟩
            obtain ⟨g, hg, ltn, cn0, cn1⟩ := hnn
            injection hg with hg
            injection hg with hg _ _
            subst hg
            have HCN := Lib.hid (And.intro ltn (And.intro cn0 cn1))
            clear ltn cn0 cn1
            obtain ⟨n, hn⟩ : ∃ n, (nbs c).getD j (0, 0) = n := ⟨_, rfl⟩
            rw [hn] at HSU HCN
            clear hn
            have g1 : (0 : Int) ≤ (j : Int) := by omega
            have g2 : (j : Int) < 4 := by omega
            go_wp2
            go_loopw [12, 13] (fun sv iv wi => ∃ i : Nat, i ≤ s2.length ∧ iv = .int .i64 (i : Int) ∧ sv = .bool (hasTo s2 n i) ∧ Hid (Below wm.heap.size wm wi)) (fun _ iv _ => s2.length - (intOf iv).toNat)
            case atStart => exact ⟨0, Nat.zero_le _, rfl, rfl, Lib.hid (Below.refl _ _)⟩
            case round =>
              obtain ⟨i, hi, rfl, rfl, HWi⟩ := hrel
              by_cases hit : i < s2.length
              · obtain ⟨bq2, rfl, ltq2, cq2⟩ := (HPQ2.out.next HWi.out).some (by omega)
                obtain ⟨d0, d1⟩ := cq2 i hit
                rw [qc_map s2 hit] at d0 d1
                have u0 := keptCell ltq2 d0
                have u1 := keptCell ltq2 d1
                have u2 := keptCell (Nat.lt_of_lt_of_le HCN.out.1 HWi.out.size) ((HWi.out.cell (p := ⟨nb, j * 2, none⟩) HCN.out.1).trans HCN.out.2.1)
                have u3 := keptCell (Nat.lt_of_lt_of_le HCN.out.1 HWi.out.size) ((HWi.out.cell (p := ⟨nb, j * 2 + 1, none⟩) HCN.out.1).trans HCN.out.2.2)
                have i1 : (0 : Int) ≤ (i : Int) := by omega
                have i2 : (i : Int) < (s2.length : Int) := by omega
                have HST := Lib.hid (show hasTo s2 n (i + 1) = (hasTo s2 n i || decide (qc s2 i = n)) from rfl)
                clear cq2 ltq2 d0 d1
                generalize qc s2 i = p at *
                cases hb : hasTo s2 n i with
                | true =>
                  rw [hb] at HST
                  have HS1 := Lib.hid (show true = hasTo s2 n (i + 1) from by rw [HST.out]; rfl)
                  clear hb HST
                  go_upto_region 18 with fail
                  refine wp_region_kept (by kernel_rfl) (by kernel_rfl) ?_
                  repeat (go_big_quiet_step (fail))
                  refine wpQuiet_nil ?_
                  rintro wj ⟨⟨_, K2⟩, rfl⟩
                  have HWj := Lib.hid (below_call HWi.out K2)
                  clear u0 u1 u2 u3 K2
                  go_wp2
                  go_roundw
                  case rel => exact ⟨i + 1, by omega, by congr 1, by rw [HS1.out], HWj⟩
                  case measure => simp [intOf]; omega
                | false =>
                  rw [hb] at HST
                  by_cases hpn : p = n
                  · have hbe := eqT11 hpn
                    have HS1 := Lib.hid (show true = hasTo s2 n (i + 1) from by rw [HST.out]; simp [hpn])
                    clear hb HST hpn
                    go_upto_region 18 with fail
                    refine wp_region_kept (by kernel_rfl) (by kernel_rfl) ?_
                    repeat (go_big_quiet_step (fail))
                    refine wpQuiet_nil ?_
                    rintro wj ⟨⟨_, K2⟩, rfl⟩
                    have HWj := Lib.hid (below_call HWi.out K2)
                    clear u0 u1 u2 u3 K2
                    go_wp2
                    go_roundw
                    case rel => exact ⟨i + 1, by omega, by congr 1, by rw [HS1.out], HWj⟩
                    case measure => simp [intOf]; omega
                  · have hbe := eqF11 hpn
                    have HS1 := Lib.hid (show false = hasTo s2 n (i + 1) from by rw [HST.out]; simp [hpn])
                    clear hb HST hpn
                    go_upto_region 18 with fail
                    refine wp_region_kept (by kernel_rfl) (by kernel_rfl) ?_
                    repeat (go_big_quiet_step (fail))
                    refine wpQuiet_nil ?_
                    rintro wj ⟨⟨_, K2⟩, rfl⟩
                    have HWj := Lib.hid (below_call HWi.out K2)
                    clear u0 u1 u2 u3 K2
                    go_wp2
                    go_roundw
                    case rel => exact ⟨i + 1, by omega, by congr 1, by rw [HS1.out], HWj⟩
                    case measure => simp [intOf]; omega
              · obtain rfl : i = s2.length := by omega
                have HWb := Lib.hid (below_call HWw.out HWi.out)
                have HRi := Lib.hid (HRw.out.next HWi.out)
                have HQi := Lib.hid (HQw.out.next HWi.out)
                have HNi := Lib.hid (And.intro (HNw.out.1.next HWi.out) HNw.out.2)
                have HHI := Lib.hid (hasTo_all s2 n)
                cases hb : hasTo s2 n s2.length with
                | true =>
                  have HS1 := Lib.hid (show s2 = exps (freeV T) s k (j + 1) from by rw [HSU.out, vis_yes (.inl (HHI.out.1 hb))])
                  clear hb
                  go_wp2
                  go_roundw
                  case rel => exact ⟨s2, j + 1, by omega, by congr 1, HS1, HRi, HQi, HNi, HWb⟩
                  case measure => simp [intOf]; omega
                | false =>
                  have HNH := Lib.hid (show ¬ Has s2 n from fun q => by rw [HHI.out.2 q] at hb; cases hb)
                  have v0 := (HWi.out.cell (p := ⟨nb, j * 2, none⟩) HCN.out.1).trans HCN.out.2.1
                  have v1 := (HWi.out.cell (p := ⟨nb, j * 2 + 1, none⟩) HCN.out.1).trans HCN.out.2.2
                  have HFN := Lib.hid (HFR.out n wr HWb.out)
                  clear hb
                  cases hf : freeV T n with
                  | false =>
                    rw [show freeV T (n.1, n.2) = false from hf] at HFN
                    have HS1 := Lib.hid (show s2 = exps (freeV T) s k (j + 1) from by rw [HSU.out, vis_yes (.inr hf)])
                    clear hf
                    go_wp2_with fail
                    refine HFN.out.mono ?_
                    rintro e wj ⟨rfl, Bj⟩
                    have HWj := Lib.hid (below_call HWb.out Bj)
                    replace HRi := Lib.hid (HRi.out.next Bj)
                    replace HQi := Lib.hid (HQi.out.next Bj)
                    replace HNi := Lib.hid (And.intro (HNi.out.1.next Bj) HNi.out.2)
                    clear v0 v1 Bj HFN
                    go_wp2
                    go_roundw
                    case rel => exact ⟨s2, j + 1, by omega, by congr 1, HS1, HRi, HQi, HNi, HWj⟩
                    case measure => simp [intOf]; omega
                  | true =>
                    rw [show freeV T (n.1, n.2) = true from hf] at HFN
                    have HS1 := Lib.hid (show s2 ++ [(n, (k : Int))] = exps (freeV T) s k (j + 1) from by rw [HSU.out, vis_no HNH.out hf])
                    clear hf
                    go_wp2_with fail
                    refine HFN.out.mono ?_
                    rintro e wj ⟨rfl, Bj⟩
                    have HWj := Lib.hid (below_call HWb.out Bj)
                    replace HRi := Lib.hid (HRi.out.next Bj)
                    replace HQi := Lib.hid (HQi.out.next Bj)
                    replace HNi := Lib.hid (And.intro (HNi.out.1.next Bj) HNi.out.2)
                    have HCJ := Lib.hid (show wj.cell? ⟨nb, j * 2, none⟩ = some (.int .i64 n.1) ∧ wj.cell? ⟨nb, j * 2 + 1, none⟩ = some (.int .i64 n.2) from ⟨(Bj.cell (p := ⟨nb, j * 2, none⟩) (Nat.lt_of_lt_of_le HCN.out.1 HWi.out.size)).trans v0, (Bj.cell (p := ⟨nb, j * 2 + 1, none⟩) (Nat.lt_of_lt_of_le HCN.out.1 HWi.out.size)).trans v1⟩)
                    have HNB2 := Lib.hid (show nb < wj.heap.size from Nat.lt_of_lt_of_le HCN.out.1 (Nat.le_trans HWi.out.size Bj.size))
                    clear v0 v1 Bj HFN
                    obtain ⟨v0, v1⟩ := HCJ.out
                    have Bx := below_box wj (.cells #[.int .i64 n.1, .int .i64 n.2] 33)
                    have HQa := Lib.hid (show (wj.alloc (.cells #[.int .i64 n.1, .int .i64 n.2] 33)).ownsRow (w.heap.size + 2) 33 2 (.slice qa2 s2.length qk2) s2.length (Cel.pvals (s2.map Prod.fst)) from by
                      have o := HRi.out.q.next Bx
                      unfold Cel.OwnPt at o
                      rw [List.length_map] at o
                      exact o)
                    have HWx := Lib.hid (below_call HWj.out Bx)
                    have HH := Lib.hid (show w.heap.size + 2 ≤ (wj.alloc (.cells #[.int .i64 n.1, .int .i64 n.2] 33)).heap.size from by have := HQi.out.lt; simp; omega)
                    have HNW := Lib.hid (Cel.two_new wj (.int .i64 n.1) (.int .i64 n.2) 33)
                    have HQx := Lib.hid (HQi.out.next Bx)
                    have HNx := Lib.hid (HNi.out.1.next Bx)
                    clear Bx
                    go_upto_region 21 with (at_builtin; refine wpList_append_lies _ rfl (.tmp 88) (.tmp 93) 42 rfl (w.heap.size + 2) 33 i0 (pt 0 0) 2 16 Try.underlying42 hi0 hz0 hz1 hz2 rfl (by decide) _ s2.length (Cel.pvals (s2.map Prod.fst)) rfl HQa.out ⟨wj.heap.size, 0, none⟩ 1 1 [.int .i64 n.1, .int .i64 n.2] rfl rfl HNW.out (by intro u hu; simp at hu; rcases hu with rfl | rfl <;> rfl) (by omega) (by unfold maxLen; omega) (by omega) HH.out _ rfl ?_; intro g7 cap6 w7 own7 grow7 at7 ltg7; have HP7 : Hid (Pushed wj (w.heap.size + 2) (.slice qa2 s2.length qk2) (.slice ba2 s2.length bk2) s2 n (k : Int) w7 g7 (s2.length + 1) cap6) := Lib.hid ⟨own7, grow7, at7, ltg7⟩; clear own7 grow7 at7 ltg7)
                    have HBa := Lib.hid (show (w7.alloc (.cells #[.int .i64 (k : Int)] 3)).ownsRow (w.heap.size + 2) 3 1 (.slice ba2 s2.length bk2) s2.length (vals (s2.map Prod.snd)) from by
                      have o := HP7.out.back HRi.out
                      unfold OwnI at o
                      rw [List.length_map] at o
                      exact o)
                    have HRB := Lib.hid (show (∀ q, (Value.slice qa2 s2.length qk2).ownBlock = some q → w.heap.size + 2 ≤ q) ∧ ∀ q, (Value.slice ba2 s2.length bk2).ownBlock = some q → w.heap.size + 2 ≤ q from ⟨fun q hq => (World.ownsRow.lt HRi.out.q q hq).1, fun q hq => (World.ownsRow.lt HRi.out.b q hq).1⟩)
                    have HW7 := Lib.hid (HWx.out.grown HP7.out.grow HWx.out.size (fun q hq => by have := HRB.out.1 q hq; omega))
                    have HQ7 := Lib.hid (HQx.out.row11 HP7.out.grow (fun e => by have := HRB.out.1 _ e; omega))
                    have HN7 := Lib.hid (HNx.out.row HP7.out.grow HNi.out.2.1)
                    have By := below_box w7 (.cells #[.int .i64 (k : Int)] 3)
                    have HWy := Lib.hid (below_call HW7.out By)
                    have HQy := Lib.hid (HQ7.out.next By)
                    have HNy := Lib.hid (HN7.out.next By)
                    have HH2 := Lib.hid (show w.heap.size + 2 ≤ (w7.alloc (.cells #[.int .i64 (k : Int)] 3)).heap.size from Nat.le_trans HH.out (Nat.le_trans HP7.out.grow.size By.size))
                    have HNV := Lib.hid (one_new11 w7 (.int .i64 (k : Int)) 3)
                    have HNG := Lib.hid (show g7 ≠ nb from by
                      rcases HP7.out.at7 with q | q
                      · rintro rfl; exact HNi.out.2.1 q
                      · have := HCN.out.1; have := HWi.out.size; have := HNx.out; simp at q; have l1 := HNB2.out; omega)
                    clear By v0 v1
                    go_wp2_with (at_builtin; refine wpList_append_lies _ rfl (.tmp 95) (.tmp 97) 23 rfl (w.heap.size + 2) 3 j0 (.int .i64 0) 1 8 Try.underlying23 hj0 hy0 hy1 hy2 rfl (by decide) _ s2.length (vals (s2.map Prod.snd)) rfl HBa.out ⟨w7.heap.size, 0, none⟩ 1 1 [.int .i64 (k : Int)] rfl rfl HNV.out (by intro u hu; simp at hu; rcases hu with rfl; rfl) (by omega) (by unfold maxLen; omega) (by omega) HH2.out _ rfl ?_; intro g8 cap8 w8 own8 grow8 at8 ltg8; have HA8 := Lib.hid (And.intro own8 (And.intro grow8 at8)); clear own8 grow8 at8 ltg8)
                    have HR8 := Lib.hid (HP7.out.row HRi.out rfl rfl HA8.out.1 HA8.out.2.1 HA8.out.2.2)
                    have HW8 := Lib.hid (HWy.out.grown HA8.out.2.1 HWy.out.size (fun q hq => by have := HRB.out.2 q hq; omega))
                    have HQ8 := Lib.hid (HQy.out.row11 HA8.out.2.1 (fun e => by have := HRB.out.2 _ e; omega))
                    have HN8 := Lib.hid (And.intro (HNy.out.row HA8.out.2.1 HNi.out.2.2) (show (Value.slice (some ⟨g7, 0, none⟩) (s2.length + 1) cap6).ownBlock ≠ some nb ∧ (Value.slice (some ⟨g8, 0, none⟩) (s2.length + 1) cap8).ownBlock ≠ some nb from ⟨by simp [Value.ownBlock]; exact HNG.out, by
                      simp only [Value.ownBlock, ne_eq, Option.some.injEq]
                      rcases HA8.out.2.2 with q | q
                      · rintro rfl; exact HNi.out.2.2 q
                      · have l1 := HNB2.out; have l2 := HP7.out.grow.size; simp at q l2; omega⟩))
                    go_wp2
                    go_roundw
                    case rel => exact ⟨_, j + 1, by omega, by congr 1, HS1, HR8, HQ8, HN8, HW8⟩
                    case measure => simp [intOf]; omega
          · obtain rfl : j = 4 := by omega
            have HST := Lib.hid (HAT.out.step hlt HNE.out)
            have HX := Lib.hid (show s2 = expd (freeV T) s k from HE.out)
            rw [← HX.out] at HST
            have HLE := Lib.hid HST.out.len
            have hq1 : k + 1 ≤ s2.length := by have := HLEN2.out; omega
            go_wp2
            go_roundw
            case rel => exact ⟨s2, k + 1, by congr 1, Lib.hid ⟨HST.out, HRw.out⟩, hq1, HLE.out, HQw, HWw⟩
            case measure => simp [intOf]; omega
    · obtain rfl : k = s.length := by omega
      have HV := Lib.hid (HS.out.1.none (Nat.le_refl _))
      have O := Lib.hid (Cel.ownPt_empty wo 33 rfl)
      go_wp2
      go_ret
      rw [HV.out]
      exact O.out.slv w HW.out.size (below_call HW.out (below_box _ _))
end Go.Proofs.Ytkogoflcacameaa
