/- The document's l11Next and l11Back. -/
import Derived.Test.YtkogoflcacameaaPv11
import Derived.Deep.AppendLies
import Derived.OwnWalk
namespace Go.Proofs.Ytkogoflcacameaa
set_option maxRecDepth 100000
open Go.RowKit
attribute [local go_sem ↓] Go.wp_at_zero Go.wp_at_succ
theorem Cel.pvals_snoc (ps : List (Int × Int)) (p : Int × Int) : Cel.pvals (ps ++ [p]) = Cel.pvals ps ++ [.int .i64 p.1, .int .i64 p.2] := by
  apply List.ext_getElem?
  intro j
  by_cases h : j < ps.length * 2
  · rw [List.getElem?_append_left (by rw [Cel.pvals_len]; exact h), Cel.pvals_at ps j h, Cel.pvals_at (ps ++ [p]) j (by simp only [List.length_append, List.length_singleton]; omega)]
    unfold Cel.cz
    rw [List.getD_eq_getElem?_getD, List.getD_eq_getElem?_getD, List.getElem?_append_left (by omega)]
  · by_cases h0 : j = ps.length * 2
    · subst h0
      rw [List.getElem?_append_right (by rw [Cel.pvals_len]; omega), Cel.pvals_len, Cel.pvals_at (ps ++ [p]) _ (by simp only [List.length_append, List.length_singleton]; omega), Cel.cz0, List.getD_eq_getElem?_getD, List.getElem?_append_right (by omega)]
      simp
    · by_cases h1 : j = ps.length * 2 + 1
      · subst h1
        rw [List.getElem?_append_right (by rw [Cel.pvals_len]; omega), Cel.pvals_len, Cel.pvals_at (ps ++ [p]) _ (by simp only [List.length_append, List.length_singleton]; omega), Cel.cz1, List.getD_eq_getElem?_getD, List.getElem?_append_right (by omega)]
        simp
      · rw [List.getElem?_eq_none (by rw [Cel.pvals_len]; simp; omega), List.getElem?_eq_none (by simp [Cel.pvals_len]; omega)]
theorem Cel.pvals_cons (p : Int × Int) (ps : List (Int × Int)) : Cel.pvals (p :: ps) = [.int .i64 p.1, .int .i64 p.2] ++ Cel.pvals ps := by
  apply List.ext_getElem?
  intro j
  by_cases h : j < (ps.length + 1) * 2
  · rw [Cel.pvals_at (p :: ps) j (by simpa using h)]
    by_cases h0 : j = 0
    · subst h0; rfl
    · by_cases h1 : j = 1
      · subst h1; rfl
      · rw [List.getElem?_append_right (by simp; omega)]
        simp only [List.length_cons, List.length_nil]
        rw [Cel.pvals_at ps (j - (0 + 1 + 1)) (by omega)]
        unfold Cel.cz
        obtain ⟨q, hq⟩ : ∃ q, j = q + 2 := ⟨j - 2, by omega⟩
        subst hq
        rw [show q + 2 - (0 + 1 + 1) = q by omega, show (q + 2) % 2 = q % 2 by omega, show (q + 2) / 2 = q / 2 + 1 by omega, List.getD_cons_succ]
  · rw [List.getElem?_eq_none (by rw [Cel.pvals_len]; simp; omega), List.getElem?_eq_none (by simp [Cel.pvals_len]; omega)]
theorem Cel.two_new (w : World) (a b : Value) (t : Nat) : ∀ (j : Nat) u, [a, b][j]? = some u → (w.alloc (.cells #[a, b] t)).cell? ((⟨w.heap.size, 0, none⟩ : Addr).add j) = some u := by
  intro j u hu
  have hj : j = 0 ∨ j = 1 := by
    have := (List.getElem?_eq_some_iff.1 hu).1
    simp at this; omega
  rcases hj with rfl | rfl
  · simp at hu; subst hu; simp [Addr.add]
  · simp at hu; subst hu; simp [Addr.add]
theorem Cel.one (w : World) (B : Nat) (hB : B ≤ w.heap.size) (c : C2) (T : TypeId) (hT : T = 33) : Cel.OwnPt (w.alloc (.cells #[.int .i64 c.1, .int .i64 c.2] T)) B (.slice (some ⟨w.heap.size, 0, none⟩) 1 1) [c] := by
  subst hT
  unfold Cel.OwnPt
  rw [show Cel.pvals [c] = [.int .i64 c.1, .int .i64 c.2] from by rw [Cel.pvals_cons]; rfl]
  exact World.ownsRow_lit (base := B) (e := 33) (size := 2) w #[.int .i64 c.1, .int .i64 c.2] 1 hB (by unfold maxLen; omega) rfl
theorem Cel.news {w : World} {B n cap : Nat} {a : Option Addr} {ps : List C2} (h : Cel.OwnPt w B (.slice a n cap) ps) (hn : 1 ≤ ps.length) : ∃ g, a = some ⟨g, 0, none⟩ ∧ n = ps.length ∧ ∀ (j : Nat) u, (Cel.pvals ps)[j]? = some u → w.cell? ((⟨g, 0, none⟩ : Addr).add j) = some u := by
  rcases h.2 with ⟨hv, h0⟩ | ⟨g, c, cur, hv, hb, hg, hnc, hcm, hcs, htake⟩
  · omega
  · simp only [Value.slice.injEq] at hv
    obtain ⟨rfl, rfl, rfl⟩ := hv
    refine ⟨g, rfl, rfl, fun j u hu => ?_⟩
    have hlt := (List.getElem?_eq_some_iff.1 hu).1
    rw [Cel.pvals_len] at hlt
    have := World.ownsRow.cellAt h j (by omega)
    rw [hu] at this
    by_cases h0 : j = 0
    · subst h0; simpa [Addr.add] using this
    · simpa [Addr.add, h0] using this
theorem Cel.pvals_one (ps : List C2) : ∀ u ∈ Cel.pvals ps, u.oneCell' = true := by
  intro u hu
  unfold Cel.pvals at hu
  obtain ⟨j, _, rfl⟩ := List.mem_map.1 hu
  rfl
/-- An append of nothing. -/
theorem wpList_append_zero {ops : Array Oper} {rest : List Oper} {o : Oper} {a : Act} {w : World} {Q : Exit → Act → World → Prop} (hgd : o.guard = none) (s x : Operand)
    (ho : o.op = .call { callee := .builtin .append, args := #[s, x], argTypes := #[42, 42] })
    (b n c : Nat) (hnc : n ≤ c) (hs : a.eval s = .slice (some ⟨b, 0, none⟩) n c) (xa : Option Addr) (xc : Nat) (hx : a.eval x = .slice xa 0 xc)
    (h : wpList Try.prog ops Q rest (a.put o.dst (.slice (some ⟨b, 0, none⟩) n c)) w) : wpList Try.prog ops Q (o :: rest) a w := by
  obtain ⟨i0, hi0, hz0, hz1, hz2⟩ := info_parts Cel.infoPt6
  refine wpList_plain hgd fun _ hK => ?_
  have hr : (Builtin.append_ #[42, 42] o.type #[.slice (some ⟨b, 0, none⟩) n c, .slice xa 0 xc]).run Try.prog w = .ok (.slice (some ⟨b, 0, none⟩) n c) w := by
    cases xa <;> simp [Builtin.append_, run_underlying Try.underlying42, sizeOf, typeInfo, hi0, Builtin.lenOf, Builtin.firstCells, loadCells, loadCellsFrom, storeCells, hnc]
  unfold Oper.wp execOp
  simp only [ho, resolve, invoke, builtin, Sem.run_bind, Sem.run_pure, Result.andThen_ok, List.map_toArray, List.map_cons, List.map_nil, hs, hx, hr]
  exact hK _ _ h
set_option maxHeartbeats 2000000 in
theorem l11NextC (x y : Int) (w : World) (h : smC (x, y)) :
    Calls Try.prog 50 #[pt x y] w fun e w' => e = .returned (.slice (some ⟨w.heap.size + 1, 0, none⟩) 4 4) ∧ Cel.PtsAt w' (some ⟨w.heap.size + 1, 0, none⟩) 4 (nbs (x, y)) ∧ Below w.heap.size w w' := by
  obtain ⟨h1, h2, h3, h4⟩ := h
  simp only at h1 h2 h3 h4
  have HB := Lib.hid (below_box2 w (.cells #[.int .i64 x, .int .i64 y] 33) (.cells #[.int .i64 (x - 1), .int .i64 y, .int .i64 x, .int .i64 (y - 1), .int .i64 x, .int .i64 (y + 1), .int .i64 (x + 1), .int .i64 y] 33))
  have HP := Lib.hid (nbs_at (w.alloc (.cells #[.int .i64 x, .int .i64 y] 33)) x y 33)
  rw [show (w.alloc (.cells #[.int .i64 x, .int .i64 y] 33)).heap.size = w.heap.size + 1 by simp] at HP
  go_enter Try.func50, Try.ntmps50
  go_wp2
  go_ret
  exact ⟨rfl, HP.out, HB.out⟩
set_option maxHeartbeats 4000000 in
theorem l11BackC (qa : Option Addr) (ql qk : Nat) (ba : Option Addr) (bl bk : Nat) (fr : C2 → Bool) (a : C2) (s : Qu) (K k : Nat) (d : Nat → Nat) (w : World) (hq : Cel.PtsAt w qa ql (s.map Prod.fst)) (hb : IntsAt w ba bl (s.map Prod.snd)) (hQ : QI fr a s K d) (hk : k < s.length) (hl : s.length ≤ 400) :
    Calls Try.prog 49 #[.slice qa ql qk, .slice ba bl bk, .int .i64 (k : Int)] w (Cel.PtRow (bkL s (k + 1) (k : Int) []) w) := by
  obtain ⟨i0, hi0, hz0, hz1, hz2⟩ := info_parts Cel.infoPt6
  have HQL := Lib.hid (show ql = s.length by have := hq.1; simpa using this)
  have HBL := Lib.hid (show bl = s.length by have := hb.1; simpa using this)
  have HQ := Lib.hid hq
  have HBA := Lib.hid hb
  have HPAR := Lib.hid (fun (j : Nat) (hj : j < s.length) => show -1 ≤ qb s j ∧ qb s j < (j : Int) from by
    rcases Nat.eq_zero_or_pos j with c | c
    · subst c; rw [hQ.root.2.2.1]; omega
    · obtain ⟨p, p1, p2, _⟩ := hQ.par j c hj
      rw [p1]; omega)
  have HF := Lib.hid (fun (j : Nat) (hj : j < s.length) (out : List C2) => show bkL s (j + 1) (j : Int) out = bkL s ((qb s j).toNat + 1) (qb s j) (qc s j :: out) from by
    rw [bk_one]
    rcases Nat.eq_zero_or_pos j with c | c
    · subst c; rw [hQ.root.2.2.1, bk_end, bk_end]
    · obtain ⟨p, p1, p2, _⟩ := hQ.par j c hj
      rw [p1, Int.toNat_natCast]
      exact bk_fuel hQ p (by omega) _ _ _ p2 (by omega))
  have HCQ := Lib.hid (fun (j : Nat) (hj : j < s.length) => show (s.map Prod.fst).getD j (0, 0) = qc s j from by
    unfold qc; rw [List.getD_eq_getElem?_getD, List.getD_eq_getElem?_getD, List.getElem?_map, List.getElem?_eq_getElem hj]; rfl)
  have HCB := Lib.hid (fun (j : Nat) (hj : j < s.length) => show (s.map Prod.snd).getD j 0 = qb s j from by
    unfold qb; rw [List.getD_eq_getElem?_getD, List.getD_eq_getElem?_getD, List.getElem?_map, List.getElem?_eq_getElem hj]; rfl)
  have HO := Lib.hid (Cel.ownPt_empty w 33 rfl)
  have HB0 := Lib.hid (below_box w (.cells #[] 33))
  generalize hR : bkL s (k + 1) (k : Int) [] = R
  have HR := Lib.hid hR
  clear hq hb hQ hR
  go_enter Try.func49, Try.ntmps49
  go_wp2
  go_loopw [2, 7] (fun kv ov wr => ∃ (z : Int) (out : List C2), kv = .int .i64 z ∧ -1 ≤ z ∧ z < (s.length : Int) ∧ Hid (bkL s (z.toNat + 1) z out = R) ∧ Hid (Cel.OwnPt wr w.heap.size ov out ∧ out.length + (z + 1).toNat ≤ 400) ∧ Hid (Below w.heap.size w wr)) (fun kv _ _ => (intOf kv + 1).toNat)
  case atStart => exact ⟨(k : Int), [], rfl, by omega, by omega, Lib.hid (by first | (have q := HR.out; simpa using q) | skip), Lib.hid ⟨HO.out, by show 0 + ((k : Int) + 1).toNat ≤ 400; omega⟩, HB0⟩
  case round =>
    obtain ⟨z, out, rfl, hz1', hz2', HE, HOW, HW⟩ := hrel
    clear HO HB0
    by_cases hz : 0 ≤ z
    · obtain ⟨j, rfl⟩ : ∃ j : Nat, z = (j : Int) := ⟨z.toNat, by omega⟩
      have hj : j < s.length := by omega
      obtain ⟨bq, rfl, ltq, cq⟩ := (HQ.out.next HW.out).some (by have := HQL.out; omega)
      obtain ⟨bb, ob, rfl, ltb, cb⟩ := (HBA.out.next HW.out).some (by have := HBL.out; omega)
      obtain ⟨d0, d1⟩ := cq j (by have := HQL.out; omega)
      have d2 := cb j (by have := HBL.out; omega)
      rw [HCQ.out j hj] at d0 d1
      rw [HCB.out j hj] at d2
      have HLT := Lib.hid (And.intro ltq ltb)
      have HD2 := Lib.hid d2
      have HP := Lib.hid (HPAR.out j hj)
      have he1 : bkL s (j + 1) (j : Int) out = R := HE.out
      have HE2 := Lib.hid ((HF.out j hj out).symm.trans he1)
      clear he1
      have j0 : (0 : Int) ≤ (j : Int) := by omega
      have j1 : (j : Int) < (ql : Int) := by have := HQL.out; omega
      have j2 : (j : Int) < (bl : Int) := by have := HBL.out; omega
      clear cq cb d2 ltq ltb HE
      generalize qc s j = c at *
      generalize qb s j = p at *
      have HON := Lib.hid (Cel.one wr w.heap.size HW.out.size c 33 rfl)
      have Bx := below_box wr (.cells #[.int .i64 c.1, .int .i64 c.2] 33)
      have HW1 := Lib.hid (below_call HW.out Bx)
      have HO1 := Lib.hid (HOW.out.1.next Bx)
      have HD3 := Lib.hid (show (wr.alloc (.cells #[.int .i64 c.1, .int .i64 c.2] 33)).cell? ⟨bb, ob + j, none⟩ = some (.int .i64 p) from (Bx.cell (p := ⟨bb, ob + j, none⟩) HLT.out.2).trans HD2.out)
      have HH := Lib.hid (show w.heap.size ≤ (wr.alloc (.cells #[.int .i64 c.1, .int .i64 c.2] 33)).heap.size from HW1.out.size)
      clear Bx
      rcases Nat.eq_zero_or_pos out.length with h0 | h0
      · obtain rfl : out = [] := List.eq_nil_of_length_eq_zero h0
        have hov : ∃ xa xc, u7 = .slice xa 0 xc := by
          rcases HOW.out.1.2 with ⟨e, _⟩ | ⟨g, c', _, e, _⟩
          · exact ⟨_, _, e⟩
          · exact ⟨_, _, e⟩
        obtain ⟨xa, xc, rfl⟩ := hov
        go_wp2_with (at_builtin; refine wpList_append_zero rfl (.tmp 15) (.tmp 16) rfl wr.heap.size 1 1 (Nat.le_refl _) rfl xa xc rfl ?_; generalize wr.alloc (.cells #[.int .i64 c.1, .int .i64 c.2] 33) = w1 at *; have d3 := HD3.out)
        go_roundw
        case rel => exact ⟨p, [c], rfl, HP.out.1, by have := HP.out.2; omega, HE2, Lib.hid ⟨HON.out, by simp; have := HP.out.2; omega⟩, HW1⟩
        case measure => simp [intOf]; have := HP.out.2; omega
      · obtain ⟨⟨sa, sn, sc⟩, hsl, _⟩ := HOW.out.1.sl
        simp only at hsl
        subst hsl
        obtain ⟨g1, rfl, hn, hnews⟩ := Cel.news HO1.out (by omega)
        have HNW := Lib.hid hnews
        have HNN := Lib.hid hn
        have hm : out.length ≤ 400 := by have := HOW.out.2; omega
        have HDF := Lib.hid (fun (u : World) (hg : (wr.alloc (.cells #[.int .i64 c.1, .int .i64 c.2] 33)).grownBy u (some wr.heap.size)) => show u.cell? ⟨bb, ob + j, none⟩ = some (.int .i64 p) from (World.cell?_of_block (a := ⟨bb, ob + j, none⟩) (hg.block bb (by have := HLT.out.2; simp; omega) (by have := HLT.out.2; simp; omega))).trans HD3.out)
        clear hnews hn
        go_wp2_with (at_builtin; refine wpList_append_lies _ rfl (.tmp 15) (.tmp 16) 42 rfl w.heap.size 33 i0 (pt 0 0) 2 16 Try.underlying42 hi0 hz0 hz1 hz2 rfl (by decide) _ 1 (Cel.pvals [c]) rfl HON.out ⟨g1, 0, none⟩ sn sc (Cel.pvals out) rfl (by rw [Cel.pvals_len, HNN.out]) HNW.out (Cel.pvals_one out) (by have := HNN.out; omega) (by unfold maxLen; have := HNN.out; omega) (by have := HNN.out; omega) HH.out _ rfl ?_; intro g cap6 w7 own7 grow7 at7 ltg7; have HA7 := Lib.hid (And.intro own7 grow7); have d3 := HDF.out w7 grow7; clear own7 grow7 at7 ltg7)
        have HO7 := Lib.hid (show Cel.OwnPt w7 w.heap.size (.slice (some ⟨g, 0, none⟩) (1 + sn) cap6) (c :: out) from by
          have o := HA7.out.1
          rw [show Cel.pvals [c] = [.int .i64 c.1, .int .i64 c.2] from by rw [Cel.pvals_cons]; rfl, ← Cel.pvals_cons] at o
          unfold Cel.OwnPt
          rw [List.length_cons, ← HNN.out, Nat.add_comm sn 1]
          exact o)
        have HW7 := Lib.hid (HW1.out.grown HA7.out.2 HW1.out.size (fun q hq => by have := (World.ownsRow.lt HON.out q hq).1; omega))
        go_roundw
        case rel => exact ⟨p, c :: out, rfl, HP.out.1, by have := HP.out.2; omega, HE2, Lib.hid ⟨HO7.out, by have := HOW.out.2; have := HP.out.2; simp; omega⟩, HW7⟩
        case measure => simp [intOf]; have := HP.out.2; omega
    · obtain rfl : z = -1 := by omega
      have HV := Lib.hid (show out = R from by have := HE.out; rwa [bk_end] at this)
      go_wp2
      go_ret
      have o := HOW.out.1
      rw [HV.out] at o
      exact o.slv w (Nat.le_refl _) HW.out
end Go.Proofs.Ytkogoflcacameaa
