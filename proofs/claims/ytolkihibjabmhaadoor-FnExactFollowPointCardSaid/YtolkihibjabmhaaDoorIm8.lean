/- The program's SolveArm. -/
import Derived.Test.YtolkihibjabmhaaDoorIm7
import Derived.Deep.RegionHeld3
namespace Go.Proofs.YtolkihibjabmhaaDoor
set_option maxRecDepth 100000
open Go.RowKit Go.Shelf
attribute [local go_sem ↓] Go.wp_at_zero Go.wp_at_succ
theorem solve_is {ls lo hi : List Int} (tx ty : Int) (hok : okArm ls lo hi) (h2 : ls.length = 2) : ∃ a b, solveP ls lo hi tx ty = some (a, b) ∧ (lo.getD 0 0 ≤ a ∧ a ≤ hi.getD 0 0) ∧ (lo.getD 1 0 ≤ b ∧ b ≤ hi.getD 1 0) ∧
    ∀ i j, lo.getD 0 0 ≤ i → i ≤ hi.getD 0 0 → lo.getD 1 0 ≤ j → j ≤ hi.getD 1 0 → pairD ls tx ty (a, b) ≤ pairD ls tx ty (i, j) := by
  have k0 := hok.2.2.2.2 0 (by omega)
  have k1 := hok.2.2.2.2 1 (by omega)
  unfold okLink at k0 k1
  have w0 : ((wide lo hi 0 : Nat) : Int) = hi.getD 0 0 - lo.getD 0 0 + 1 := by unfold wide; omega
  have w1 : ((wide lo hi 1 : Nat) : Int) = hi.getD 1 0 - lo.getD 1 0 + 1 := by unfold wide; omega
  have mem : ∀ i j, (i, j) ∈ allPairs lo hi ↔ (lo.getD 0 0 ≤ i ∧ i ≤ hi.getD 0 0) ∧ lo.getD 1 0 ≤ j ∧ j ≤ hi.getD 1 0 := fun i j => by
    unfold allPairs; rw [mem_rowsL]; simp only; omega
  have hne : allPairs lo hi ≠ [] := List.ne_nil_of_mem ((mem (lo.getD 0 0) (lo.getD 1 0)).2 ⟨by omega, by omega⟩)
  obtain ⟨⟨a, b⟩, h1, h3, h4⟩ := bestL_is (pairD ls tx ty) sumAbs (allPairs lo hi) hne
  obtain ⟨m1, m2⟩ := (mem a b).1 h3
  exact ⟨a, b, h1, m1, m2, fun i j i1 i2 j1 j2 => h4 (i, j) ((mem i j).2 ⟨⟨i1, i2⟩, j1, j2⟩)⟩
theorem solve_best {ls lo hi : List Int} {tx ty a b : Int} (h : solveP ls lo hi tx ty = some (a, b)) : bestC ((allPairs lo hi).map (mkC ls tx ty)) = mkC ls tx ty (a, b) := by
  unfold bestC
  rw [bestL_map]
  have e : bestL (fun x => (mkC ls tx ty x).d) (fun x => (mkC ls tx ty x).e) (allPairs lo hi) = some (a, b) := by
    rw [← h]
    unfold solveP
    congr 1
    funext p
    show max p.1 (-p.1) + max p.2 (-p.2) + max (0 : Int) (-0) + max (0 : Int) (-0) = max p.1 (-p.1) + max p.2 (-p.2)
    omega
  rw [e]; rfl
theorem pairsC (b n cap : Nat) (tx ty : Int) (w0 w : World) (hw : Below w0.heap.size w0 w) : Calls Tryd.prog 75 #[sv b n cap tx ty] w fun e w' => ∃ Bn, e = .returned (.func (.func 94) #[] #[.pointer (some ⟨Bn, 0, none⟩)]) ∧ AtA w' Bn (.slice (some ⟨b, 0, none⟩) n cap) (.int .i64 tx) (.int .i64 ty) ∧ Below w0.heap.size w0 w' := by
  have hmf : ∀ (fn : Fn) (first cap : Array Value) (w : World), (Instr.makeFunc fn first cap).run Tryd.prog w = .ok (.func fn first cap) w := fun _ _ _ _ => rfl
  have HR := Lib.hid (And.intro (AtA.box w (.slice (some ⟨b, 0, none⟩) n cap) (.int .i64 tx) (.int .i64 ty) 88) (below_call hw (below_box w (scells b n cap tx ty))))
  clear hw
  go_enter Tryd.func75, Tryd.ntmps75
  go_wp2
  go_ret
  exact ⟨w.heap.size, rfl, HR.out.1, HR.out.2⟩
theorem fieldC (c : Cand) (u : World) : (Instr.field 93 (cv c) 0).run Tryd.prog u = .ok (pv4 c.p0 c.p1 c.p2 c.p3) u := by kernel_rfl
theorem keepSv {w u : World} {b : Nat} {x y z : Value} (h : Below w.heap.size w u) (A : AtA w b x y z) : u.cell? ⟨b, 0, none⟩ = some x ∧ u.cell? ⟨b, 1, none⟩ = some y ∧ u.cell? ⟨b, 2, none⟩ = some z := ⟨(A.next h).c0, (A.next h).c1, (A.next h).c2⟩
theorem rowed_none {w w1 : World} (h : Below w.heap.size w w1) : Rowed [] w (.returned (.slice none 0 0)) w1 := ⟨⟨none, 0, 0⟩, rfl, World.ownsRow_nil _ _ _ _, rfl, h⟩
set_option maxHeartbeats 4000000 in
theorem implSolveArm (x y z : Sl) (ls lo hi : List Int) (tx ty : Int) (w : World) (ht : TabAt w) (hx : IntsAt w x.a x.len ls) (hy : IntsAt w y.a y.len lo) (hz : IntsAt w z.a z.len hi) (bx : x.len ≤ 9223372036854775807) (b_y : y.len ≤ 9223372036854775807) (bz : z.len ≤ 9223372036854775807) :
    Calls Tryd.prog 39 #[av x y z, pt tx ty] w (Rowed (solveV ls lo hi tx ty) w) := by
  obtain ⟨xa, xl, xc⟩ := x
  obtain ⟨ya, yl, yc⟩ := y
  obtain ⟨za, zl, zc⟩ := z
  simp only at *
  have Q := AtP.box (w.alloc (.cells #[.slice xa xl xc, .slice ya yl yc, .slice za zl zc] 25)) tx ty 35
  rw [show (w.alloc (.cells #[.slice xa xl xc, .slice ya yl yc, .slice za zl zc] 25)).heap.size = w.heap.size + 1 by simp] at Q
  have HB := Lib.hid (below_box2 w (.cells #[.slice xa xl xc, .slice ya yl yc, .slice za zl zc] 25) (.cells #[.int .i64 tx, .int .i64 ty] 35))
  have HT := Lib.hid ht
  replace hx := hx.next HB.out
  replace hy := hy.next HB.out
  replace hz := hz.next HB.out
  clear ht
  go_enter Tryd.func39, Tryd.ntmps39
  go_wp2_with fail
  refine (chainOf ⟨xa, xl, xc⟩ ⟨ya, yl, yc⟩ ⟨za, zl, zc⟩ ls lo hi _ hx hy hz bx b_y bz).mono ?_
  generalize (w.alloc (.cells #[.slice xa xl xc, .slice ya yl yc, .slice za zl zc] 25)).alloc (.cells #[.int .i64 tx, .int .i64 ty] 35) = w0 at *
  rintro e w1 ⟨B1, ⟨hok, b, rfl, _, hc⟩ | ⟨hok, rfl⟩⟩
  · have HB1 := Lib.hid (below_call HB.out B1)
    have Q1 := Q.next B1
    obtain ⟨q0, q1⟩ := Q1.kepts
    clear B1 hx hy hz
    by_cases h2 : ls.length = 2
    · have k0 := hok.2.2.2.2 0 (by omega)
      have k1 := hok.2.2.2.2 1 (by omega)
      unfold okLink at k0 k1
      obtain ⟨c0, c1, c2⟩ := hc.c 0 (by omega)
      obtain ⟨c3, c4, c5⟩ := hc.c 1 (by omega)
      have d0 := keptCell (o := 0) hc.lt c0
      have d1 := keptCell (o := 1) hc.lt c1
      have d2 := keptCell (o := 2) hc.lt c2
      have d3 := keptCell (o := 3) hc.lt c3
      have d4 := keptCell (o := 4) hc.lt c4
      have d5 := keptCell (o := 5) hc.lt c5
      have HA0 := Lib.hid (fun (n : Kept w1) => keptCall (linkAngles (ls.getD 0 0) (lo.getD 0 0) (hi.getD 0 0) n.u k0.2.2.1 k0.2.2.2.2.1 k0.2.2.2.2.2))
      have HA1 := Lib.hid (fun (n : Kept w1) => keptCall (linkAngles (ls.getD 1 0) (lo.getD 1 0) (hi.getD 1 0) n.u k1.2.2.1 k1.2.2.2.2.1 k1.2.2.2.2.2))
      have HSW := Lib.hid (show (hi.getD 0 0 - lo.getD 0 0 + 1) * (hi.getD 1 0 - lo.getD 1 0 + 1) ≤ 40000 ↔ okSweep ls lo hi from ⟨fun h => ⟨hok, h2, h⟩, fun h => h.2.2⟩)
      have HC := Lib.hid hc
      have HK := Lib.hid (And.intro hok h2)
      have mb := mul_bd (A := 400) (B := 400) (show (-400 : Int) ≤ hi.getD 0 0 - lo.getD 0 0 + 1 by omega) (show hi.getD 0 0 - lo.getD 0 0 + 1 ≤ 400 by omega) (show (-400 : Int) ≤ hi.getD 1 0 - lo.getD 1 0 + 1 by omega) (show hi.getD 1 0 - lo.getD 1 0 + 1 ≤ 400 by omega)
      clear c0 c1 c2 c3 c4 c5 hc hok
      rw [h2]
      clear h2
      generalize ls.getD 0 0 = l0 at *
      generalize ls.getD 1 0 = l1 at *
      generalize lo.getD 0 0 = o0 at *
      generalize lo.getD 1 0 = o1 at *
      generalize hi.getD 0 0 = g0 at *
      generalize hi.getD 1 0 = g1 at *
      by_cases hs : (g0 - o0 + 1) * (g1 - o1 + 1) ≤ 40000
      · have t1 : decide (40000 < (g0 - o0 + 1) * (g1 - o1 + 1)) = false := decide_eq_false (by omega)
        by_cases hp : okP tx ty
        · have HV := Lib.hid (solveV_in ⟨HSW.out.1 hs, hp⟩)
          have HVA := Lib.hid (fun (n : Kept w1) => keptCall (validY tx ty n.u hp))
          clear hs
          go_wp2
          refine wp_region_kept (by kernel_rfl) (by kernel_rfl) ?_
          repeat (go_big_quiet_step ((first | (go_at_call 72; with_reducible exact HA0.out _) | (go_at_call 72; with_reducible exact HA1.out _) | (go_at_call 63; exact HVA.out _))))
          refine wpQuiet_nil ?_
          rintro w2 ⟨⟨_, B2⟩, rfl⟩
          have HB2 := Lib.hid (below_call HB1.out B2)
          have HC2 := Lib.hid (HC.out.next B2)
          obtain ⟨_, q2, q3⟩ := Q1.next B2
          clear q0 q1 d0 d1 d2 d3 d4 d5 HA0 HA1 HVA B2 Q Q1 HC mb t1
          have SB := AtA.box w2 (.slice (some ⟨b, 0, none⟩) 2 2) (.int .i64 tx) (.int .i64 ty) 88
          have HB3 := Lib.hid (below_call HB2.out (below_box w2 (scells b 2 2 tx ty)))
          have HC3 := Lib.hid (HC2.out.next (below_box w2 (scells b 2 2 tx ty)))
          obtain ⟨pa, pb, hsp, _, _, _⟩ := solve_is tx ty HK.out.1 HK.out.2
          have HRES := Lib.hid (show solveV ls lo hi tx ty = [pa, pb] by rw [HV.out, hsp]; rfl)
          have HBE := Lib.hid (solve_best hsp)
          obtain ⟨dd, hdd⟩ : ∃ dd, (mkC ls tx ty (pa, pb)).d = dd := ⟨_, rfl⟩
          obtain ⟨ee, hee⟩ : ∃ ee, (mkC ls tx ty (pa, pb)).e = ee := ⟨_, rfl⟩
          have HMK := Lib.hid (show bestC ((allPairs lo hi).map (mkC ls tx ty)) = ⟨pa, pb, 0, 0, dd, ee⟩ by rw [HBE.out, ← hdd, ← hee]; rfl)
          clear hdd hee hsp
          go_wp2
          generalize w2.alloc (scells b 2 2 tx ty) = w3 at *
          have gg : Below w3.heap.size w3 w3 := Below.refl _ _
          have HLE := Lib.hid (fun (Bn : Nat) (u : World) (hu : Below w3.heap.size w3 u) (hA : AtA u Bn (.slice (some ⟨b, 0, none⟩) 2 2) (.int .i64 tx) (.int .i64 ty)) => show Calls Tryd.prog 74 #[.func (.func 94) #[] #[.pointer (some ⟨Bn, 0, none⟩)], .func (.func 76) #[] #[]] u fun e w' => e = .returned (cv ⟨pa, pb, 0, 0, dd, ee⟩) ∧ Below w3.heap.size w3 w' by
            have := leastC 94 #[.pointer (some ⟨Bn, 0, none⟩)] _ u (enters_of Tryd.func94 (by kernel_rfl) rfl) (fun n => pairsStops Bn b 2 ls lo hi tx ty u (HT.out.below (below_call HB3.out hu) HT.out.lt) (by rw [HK.out.2]; exact hA) (HC3.out.next hu) HK.out.1 HK.out.2 n)
            rw [HMK.out] at this
            exact this.mono fun _ _ ⟨he, hb⟩ => ⟨he, below_call hu hb⟩)
          have HRC := Lib.hid (fun (u : World) (hu : Below w3.heap.size w3 u) => show Calls Tryd.prog 73 #[sv b 2 2 tx ty, pv4 pa pb 0 0] u fun e w' => ∃ s : Sl, e = .returned (.slice s.a s.len s.cap) ∧ Hid (OwnI w' u.heap.size (.slice s.a s.len s.cap) [pa, pb] ∧ s.len = 2 ∧ Below u.heap.size u w') ∧ Below w3.heap.size w3 w' from
            (resultC b 2 [pa, pb] tx ty pa pb 0 0 u ⟨rfl, rfl, rfl, rfl⟩ (by simp) (by simp)).mono fun _ _ ⟨s, he, h1, h2, h3⟩ => ⟨s, he, Lib.hid ⟨h1, h2, h3⟩, below_call hu h3⟩)
          have hfl := fun u => fieldC ⟨pa, pb, 0, 0, dd, ee⟩ u
          go_region_held3 (fun u => u.cell? ⟨w2.heap.size, 0, none⟩ = some (.slice (some ⟨b, 0, none⟩) 2 2) ∧ u.cell? ⟨w2.heap.size, 1, none⟩ = some (.int .i64 tx) ∧ u.cell? ⟨w2.heap.size, 2, none⟩ = some (.int .i64 ty)) (exact keepSv (by repeat (first | (with_reducible assumption) | (with_reducible apply Below.drew))) SB) (first
            | (go_at_call 75
               (with_reducible refine (pairsC b 2 2 tx ty w3 _ (by repeat (first | (with_reducible assumption) | (with_reducible apply Below.drew)))).mono ?_)
               rintro e w4 ⟨Bn, rfl, A4, K4⟩)
            | (go_at_call 74
               (with_reducible refine (HLE.out Bn _ (by repeat (first | (with_reducible assumption) | (with_reducible apply Below.drew))) A4).mono ?_)
               rintro e w5 ⟨rfl, K5⟩)
            | (go_at_call 73
               (with_reducible refine (HRC.out _ (by repeat (first | (with_reducible assumption) | (with_reducible apply Below.drew)))).mono ?_)
               rintro e w6 ⟨s6, rfl, H6, K6⟩)
            | fail)
          have HW5 := Lib.hid (below_call HB3.out K5)
          clear K4 K5 K6 A4 gg
          go_wp2
          go_ret
          exact ⟨s6, rfl, by rw [HRES.out]; exact H6.out.1.mono HW5.out.size, by rw [HRES.out]; exact H6.out.2.1, below_call HW5.out H6.out.2.2⟩
        · have HV := Lib.hid (solveV_out fun h => hp h.2 : solveV ls lo hi tx ty = [])
          have HVA := Lib.hid (fun (n : Kept w1) => keptCall (validN tx ty n.u hp))
          clear hs
          go_wp2
          refine wp_region_kept (by kernel_rfl) (by kernel_rfl) ?_
          repeat (go_big_quiet_step ((first | (go_at_call 72; with_reducible exact HA0.out _) | (go_at_call 72; with_reducible exact HA1.out _) | (go_at_call 63; exact HVA.out _))))
          refine wpQuiet_nil ?_
          rintro w2 ⟨⟨_, B2⟩, rfl⟩
          have HB2 := Lib.hid (below_call HB1.out B2)
          clear B2
          go_wp2
          go_ret
          rw [HV.out]
          exact rowed_none HB2.out
      · have t1 : decide (40000 < (g0 - o0 + 1) * (g1 - o1 + 1)) = true := decide_eq_true (by omega)
        have HV := Lib.hid (solveV_out fun h => hs (HSW.out.2 h.1) : solveV ls lo hi tx ty = [])
        clear hs
        go_wp2
        refine wp_region_kept (by kernel_rfl) (by kernel_rfl) ?_
        repeat (go_big_quiet_step ((first | (go_at_call 72; with_reducible exact HA0.out _) | (go_at_call 72; with_reducible exact HA1.out _))))
        refine wpQuiet_nil ?_
        rintro w2 ⟨⟨_, B2⟩, rfl⟩
        have HB2 := Lib.hid (below_call HB1.out B2)
        clear B2
        go_wp2
        go_ret
        rw [HV.out]
        exact rowed_none HB2.out
    · have HV := Lib.hid (solveV_out fun h => h2 h.1.2.1 : solveV ls lo hi tx ty = [])
      have t1 : ((ls.length : Int) != 2) = true := by simp; omega
      clear h2 hc hok
      go_wp2
      refine wp_region_kept (by kernel_rfl) (by kernel_rfl) ?_
      repeat (go_big_quiet_step (fail))
      refine wpQuiet_nil ?_
      rintro w2 ⟨⟨_, B2⟩, rfl⟩
      have HB2 := Lib.hid (below_call HB1.out B2)
      clear B2
      go_wp2
      go_ret
      rw [HV.out]
      exact rowed_none HB2.out
  · have HV := Lib.hid (solveV_out fun h => hok h.1.1 : solveV ls lo hi tx ty = [])
    have HB1 := Lib.hid (below_call HB.out B1)
    clear B1 hx hy hz hok
    go_wp2
    refine wp_region_kept (by kernel_rfl) (by kernel_rfl) ?_
    repeat (go_big_quiet_step (fail))
    refine wpQuiet_nil ?_
    rintro w2 ⟨⟨_, B2⟩, rfl⟩
    have HB2 := Lib.hid (below_call HB1.out B2)
    clear B2
    go_wp2
    go_ret
    rw [HV.out]
    exact rowed_none HB2.out
end Go.Proofs.YtolkihibjabmhaaDoor
