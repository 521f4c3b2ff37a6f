/- The document's SolveArm. -/
import Derived.Test.YtolkihibjabmhaaDoorSp6
namespace Go.Proofs.YtolkihibjabmhaaDoor
set_option maxRecDepth 100000
open Go.RowKit
attribute [local go_sem ↓] Go.wp_at_zero Go.wp_at_succ
/-- The best pair of angles. -/
def solveV (ls lo hi : List Int) (tx ty : Int) : List Int := if okSweep ls lo hi ∧ okP tx ty then pairL (solveP ls lo hi tx ty) else []
theorem solveV_in {ls lo hi : List Int} {tx ty : Int} (h : okSweep ls lo hi ∧ okP tx ty) : solveV ls lo hi tx ty = pairL (solveP ls lo hi tx ty) := by unfold solveV; rw [if_pos h]
theorem solveV_out {ls lo hi : List Int} {tx ty : Int} (h : ¬ (okSweep ls lo hi ∧ okP tx ty)) : solveV ls lo hi tx ty = [] := by unfold solveV; rw [if_neg h]
/-- The distance of the best pair so far. -/
def dOf (ls : List Int) (tx ty : Int) : Option (Int × Int) → Int
  | none => 0
  | some p => pairD ls tx ty p
theorem bestL_mem {α : Type} {D E : α → Int} {xs : List α} {p : α} (h : bestL D E xs = some p) : p ∈ xs := by
  have hne : xs ≠ [] := by rintro rfl; cases h
  obtain ⟨c, h1, h2, _⟩ := bestL_is D E xs hne
  rw [h] at h1
  cases h1
  exact h2
theorem OwnI.two {w : World} {B : Nat} (hB : B ≤ w.heap.size) (i j : Int) : OwnI (w.alloc (.cells #[.int .i64 i, .int .i64 j] 3)) B (.slice (some ⟨w.heap.size, 0, none⟩) 2 2) [i, j] := by
  have := World.ownsRow_lit (base := B) (e := 3) (size := 1) w #[.int .i64 i, .int .i64 j] 2 hB (by unfold maxLen; omega) rfl
  simpa [OwnI, vals] using this
/-- The six numbers of an arm with two links. -/
structure Six (w : World) (bx ox b_y oy bz oz : Nat) (l0 l1 o0 o1 h0 h1 : Int) : Prop where
  ltx : bx < w.heap.size
  lty : b_y < w.heap.size
  ltz : bz < w.heap.size
  x0 : w.cell? ⟨bx, ox, none⟩ = some (.int .i64 l0)
  x1 : w.cell? ⟨bx, ox + 1, none⟩ = some (.int .i64 l1)
  y0 : w.cell? ⟨b_y, oy, none⟩ = some (.int .i64 o0)
  y1 : w.cell? ⟨b_y, oy + 1, none⟩ = some (.int .i64 o1)
  z0 : w.cell? ⟨bz, oz, none⟩ = some (.int .i64 h0)
  z1 : w.cell? ⟨bz, oz + 1, none⟩ = some (.int .i64 h1)
theorem Six.next {w w' : World} {bx ox b_y oy bz oz : Nat} {l0 l1 o0 o1 h0 h1 : Int} (h : Six w bx ox b_y oy bz oz l0 l1 o0 o1 h0 h1) (hb : Below w.heap.size w w') : Six w' bx ox b_y oy bz oz l0 l1 o0 o1 h0 h1 :=
  ⟨Nat.lt_of_lt_of_le h.ltx hb.size, Nat.lt_of_lt_of_le h.lty hb.size, Nat.lt_of_lt_of_le h.ltz hb.size,
   (hb.cell (p := ⟨bx, ox, none⟩) h.ltx).trans h.x0, (hb.cell (p := ⟨bx, ox + 1, none⟩) h.ltx).trans h.x1,
   (hb.cell (p := ⟨b_y, oy, none⟩) h.lty).trans h.y0, (hb.cell (p := ⟨b_y, oy + 1, none⟩) h.lty).trans h.y1,
   (hb.cell (p := ⟨bz, oz, none⟩) h.ltz).trans h.z0, (hb.cell (p := ⟨bz, oz + 1, none⟩) h.ltz).trans h.z1⟩
set_option maxHeartbeats 4000000 in
theorem specSolveArm (x y z : Sl) (ls lo hi : List Int) (tx ty : Int) (w : World) (hx : IntsAt w x.a x.len ls) (hy : IntsAt w y.a y.len lo) (hz : IntsAt w z.a z.len hi) (bx : x.len ≤ 9223372036854775807) (b_y : y.len ≤ 9223372036854775807) (bz : z.len ≤ 9223372036854775807) :
    Calls Tryd.prog 41 #[av x y z, pt tx ty] w (Rowed (solveV ls lo hi tx ty) w) := by
  obtain ⟨xa, xl, xc⟩ := x
  obtain ⟨ya, yl, yc⟩ := y
  obtain ⟨za, zl, zc⟩ := z
  simp only at *
  have P := ((AtA.box w (.slice xa xl xc) (.slice ya yl yc) (.slice za zl zc) 25).alloc (.cells #[.int .i64 tx, .int .i64 ty] 35)).alloc (.cells #[] 3)
  have Q := (AtP.box (w.alloc (.cells #[.slice xa xl xc, .slice ya yl yc, .slice za zl zc] 25)) tx ty 35).alloc (.cells #[] 3)
  rw [show (w.alloc (.cells #[.slice xa xl xc, .slice ya yl yc, .slice za zl zc] 25)).heap.size = w.heap.size + 1 by simp] at Q
  have HBw := Lib.hid (below_box3 w (.cells #[.slice xa xl xc, .slice ya yl yc, .slice za zl zc] 25) (.cells #[.int .i64 tx, .int .i64 ty] 35) (.cells #[] 3))
  have O0 : OwnI (((w.alloc (.cells #[.slice xa xl xc, .slice ya yl yc, .slice za zl zc] 25)).alloc (.cells #[.int .i64 tx, .int .i64 ty] 35)).alloc (.cells #[] 3)) w.heap.size (.slice (some ⟨w.heap.size + 2, 0, none⟩) 0 0) [] := by
    have := World.ownsRow_lit (base := w.heap.size) (e := 3) (size := 1) ((w.alloc (.cells #[.slice xa xl xc, .slice ya yl yc, .slice za zl zc] 25)).alloc (.cells #[.int .i64 tx, .int .i64 ty] 35)) #[] 0 (by simp <;> omega) (Nat.zero_le _) rfl
    simpa [OwnI, vals] using this
  have HO0 := Lib.hid O0
  replace hx := hx.next HBw.out
  replace hy := hy.next HBw.out
  replace hz := hz.next HBw.out
  clear O0
  by_cases hv : okSweep ls lo hi
  · by_cases hp : okP tx ty
    · have HV := Lib.hid (solveV_in ⟨hv, hp⟩)
      go_enter Tryd.func41, Tryd.ntmps41
      go_wp2_with fail
      refine (l4Sweep ⟨xa, xl, xc⟩ ⟨ya, yl, yc⟩ ⟨za, zl, zc⟩ ls lo hi _ hx hy hz bx b_y bz).mono ?_
      generalize ((w.alloc (.cells #[.slice xa xl xc, .slice ya yl yc, .slice za zl zc] 25)).alloc (.cells #[.int .i64 tx, .int .i64 ty] 35)).alloc (.cells #[] 3) = w0 at *
      rw [decide_eq_true hv]
      rintro e w1 ⟨rfl, B1⟩
      obtain ⟨_, q1, q2⟩ := Q.next B1
      go_wp2_with fail
      refine (specPointValidY tx ty _ hp).mono ?_
      rintro e w2 ⟨rfl, B2⟩
      have HB2 := Lib.hid (below_call B1 B2)
      have HO2 := Lib.hid (HO0.out.next HB2.out)
      obtain ⟨hok, h2, _⟩ := id hv
      have e1 : xl = 2 := by rw [hx.1]; exact h2
      have e2 : yl = 2 := by rw [hy.1, hok.2.2.1]; exact h2
      have e3 : zl = 2 := by rw [hz.1, hok.2.2.2.1]; exact h2
      subst e1 e2 e3
      obtain ⟨bx1, ox, rfl, ltx, cx⟩ := hx.some (by omega)
      obtain ⟨by1, oy, rfl, lty, cy⟩ := hy.some (by omega)
      obtain ⟨bz1, oz, rfl, ltz, cz⟩ := hz.some (by omega)
      have k0 := hok.2.2.2.2 0 (by omega)
      have k1 := hok.2.2.2.2 1 (by omega)
      unfold okLink at k0 k1
      have S0 : Six w0 bx1 ox by1 oy bz1 oz (ls.getD 0 0) (ls.getD 1 0) (lo.getD 0 0) (lo.getD 1 0) (hi.getD 0 0) (hi.getD 1 0) :=
        ⟨ltx, lty, ltz, cx 0 (by omega), cx 1 (by omega), cy 0 (by omega), cy 1 (by omega), cz 0 (by omega), cz 1 (by omega)⟩
      have HPD := Lib.hid (fun i j => show pairD ls tx ty (i, j) = sqV (rotX (ls.getD 0 0) 0 i + rotX (ls.getD 1 0) 0 (i + j)) (rotY (ls.getD 0 0) 0 i + rotY (ls.getD 1 0) 0 (i + j)) tx ty by
        unfold pairD distV; rw [(pair_pt h2 i j).1, (pair_pt h2 i j).2])
      have HFIN := Lib.hid (show bestL (pairD ls tx ty) sumAbs (rowsL (lo.getD 0 0) (lo.getD 1 0) (wide lo hi 1) (wide lo hi 0)) = solveP ls lo hi tx ty from rfl)
      have w0d := show ((wide lo hi 0 : Nat) : Int) = hi.getD 0 0 - lo.getD 0 0 + 1 by unfold wide; omega
      have w1d := show ((wide lo hi 1 : Nat) : Int) = hi.getD 1 0 - lo.getD 1 0 + 1 by unfold wide; omega
      have HS := Lib.hid S0
      clear B1 B2 q1 q2 hx hy hz cx cy cz ltx lty ltz hok h2 S0
      generalize ls.getD 0 0 = l0 at *
      generalize ls.getD 1 0 = l1 at *
      generalize lo.getD 0 0 = o0 at *
      generalize lo.getD 1 0 = o1 at *
      generalize hi.getD 0 0 = h0 at *
      generalize hi.getD 1 0 = h1 at *
      generalize wide lo hi 0 = n0 at *
      generalize wide lo hi 1 = n1 at *
      have HW0 := Lib.hid w0d
      have HW1 := Lib.hid w1d
      have w0a : (n0 : Int) ≤ h0 - o0 + 1 := by omega
      have w0b : h0 - o0 + 1 ≤ (n0 : Int) := by omega
      have w1a : (n1 : Int) ≤ h1 - o1 + 1 := by omega
      have w1b : h1 - o1 + 1 ≤ (n1 : Int) := by omega
      clear w0d w1d
      obtain ⟨_, x0, x1, y0, y1, z0, z1⟩ := id (HS.out.next HB2.out)
      obtain ⟨_, p1, p2, p3, _, _, _⟩ := P.next HB2.out
      go_wp2
      clear x0 x1 y0 y1 z0 z1 p1 p2 p3
      go_loopw [5, 6, 7] (fun v l i wr => ∃ (k : Nat) (o : Option (Int × Int)) (s : Sl), k ≤ n0 ∧ i = .int .i64 (o0 + (k : Int)) ∧ v = .slice s.a s.len s.cap ∧ l = .int .i64 (dOf ls tx ty o) ∧ Hid (o = bestL (pairD ls tx ty) sumAbs (rowsL o0 o1 n1 k)) ∧ Hid (OwnI wr w.heap.size (.slice s.a s.len s.cap) (pairL o)) ∧ Hid (Below w0.heap.size w0 wr)) (fun _ _ i _ => (h0 + 1 - intOf i).toNat)
      case atStart => exact ⟨0, none, ⟨some ⟨w.heap.size + 2, 0, none⟩, 0, 0⟩, Nat.zero_le _, by congr 1; omega, rfl, rfl, Lib.hid rfl, HO2, HB2⟩
      case round =>
        obtain ⟨k, o, ⟨sa, sl, sc⟩, hk, rfl, rfl, rfl, HOE, HO, HW⟩ := hrel
        clear HO2 HB2
        obtain ⟨_, _, _, x0, x1, y0, y1, z0, z1⟩ := HS.out.next HW.out
        obtain ⟨_, p1, p2, p3, _, _, _⟩ := P.next HW.out
        by_cases hlt : k < n0
        · have j1 : o0 + (k : Int) ≤ h0 := by omega
          go_wp2_with fail
          refine (l2Turn l0 0 (o0 + (k : Int)) _ (okLen k0.1 k0.2.1) (by omega) (by omega)).mono ?_
          rintro e w3 ⟨rfl, B3⟩
          obtain ⟨⟨v1, v2⟩, ⟨v3, v4⟩⟩ := vec_bd (o0 + (k : Int)) k0.1 k0.2.1
          have PP := AtP.box w3 (rotX l0 0 (o0 + (k : Int))) (rotY l0 0 (o0 + (k : Int))) 35
          have Bp := below_box w3 (.cells #[.int .i64 (rotX l0 0 (o0 + (k : Int))), .int .i64 (rotY l0 0 (o0 + (k : Int)))] 35)
          have HB4 := Lib.hid (below_call (below_call HW.out B3) Bp)
          have HO4 := Lib.hid ((HO.out.next B3).next Bp)
          clear x0 x1 y0 y1 z0 z1 p1 p2 p3 B3 Bp
          obtain ⟨_, _, _, x0, x1, y0, y1, z0, z1⟩ := HS.out.next HB4.out
          obtain ⟨_, p1, p2, p3, _, _, _⟩ := P.next HB4.out
          go_wp2
          clear x0 x1 y0 y1 z0 z1 p1 p2 p3
          generalize w3.alloc (.cells #[.int .i64 (rotX l0 0 (o0 + (k : Int))), .int .i64 (rotY l0 0 (o0 + (k : Int)))] 35) = w4 at *
          go_loopw [5, 6, 9] (fun v l j wr2 => ∃ (q : Nat) (o : Option (Int × Int)) (s : Sl), q ≤ n1 ∧ j = .int .i64 (o1 + (q : Int)) ∧ v = .slice s.a s.len s.cap ∧ l = .int .i64 (dOf ls tx ty o) ∧ Hid (o = bestL (pairD ls tx ty) sumAbs (rowsL o0 o1 n1 k ++ rowL (o0 + (k : Int)) o1 q)) ∧ Hid (OwnI wr2 w.heap.size (.slice s.a s.len s.cap) (pairL o)) ∧ Hid (Below w4.heap.size w4 wr2)) (fun _ _ j _ => (h1 + 1 - intOf j).toNat)
          case atStart => exact ⟨0, o, ⟨sa, sl, sc⟩, Nat.zero_le _, by congr 1; omega, rfl, rfl, Lib.hid (by rw [rowL_zero, List.append_nil]; exact HOE.out), HO4, Lib.hid (Below.refl _ _)⟩
          case round =>
            clear HO HW HO4 HOE
            obtain ⟨q, o, ⟨ta, tl, tc⟩, hq, rfl, rfl, rfl, HOE, HO, HW⟩ := hrel
            have HB5 := Lib.hid (below_call HB4.out HW.out)
            obtain ⟨_, _, _, x0, x1, y0, y1, z0, z1⟩ := HS.out.next HB5.out
            obtain ⟨_, p1, p2, p3, _, _, _⟩ := P.next HB5.out
            by_cases hq2 : q < n1
            · have j2 : o1 + (q : Int) ≤ h1 := by omega
              go_wp2_with fail
              refine (l2Turn l1 0 (o0 + (k : Int) + (o1 + (q : Int))) _ (okLen k1.1 k1.2.1) (by omega) (by omega)).mono ?_
              rintro e w5 ⟨rfl, B5⟩
              obtain ⟨⟨v5, v6⟩, ⟨v7, v8⟩⟩ := vec_bd (o0 + (k : Int) + (o1 + (q : Int))) k1.1 k1.2.1
              have QQ := AtP.box w5 (rotX l1 0 (o0 + (k : Int) + (o1 + (q : Int)))) (rotY l1 0 (o0 + (k : Int) + (o1 + (q : Int)))) 35
              have Bp := below_box w5 (.cells #[.int .i64 (rotX l1 0 (o0 + (k : Int) + (o1 + (q : Int)))), .int .i64 (rotY l1 0 (o0 + (k : Int) + (o1 + (q : Int))))] 35)
              have HB6 := Lib.hid (below_call (below_call HW.out B5) Bp)
              have HO6 := Lib.hid ((HO.out.next B5).next Bp)
              clear x0 x1 y0 y1 z0 z1 p1 p2 p3 B5 Bp HO HW HB5
              obtain ⟨_, a0, a1⟩ := PP.next HB6.out
              obtain ⟨_, b0, b1⟩ := id QQ
              obtain ⟨_, c0, c1⟩ := Q.next (below_call HB4.out HB6.out)
              have HPQ := Lib.hid (HPD.out (o0 + (k : Int)) (o1 + (q : Int)))
              go_wp2_with fail
              refine (l2Square _ _ tx ty _ ⟨by omega, by omega, by omega, by omega⟩ hp).mono ?_
              rw [← HPQ.out]
              generalize w5.alloc (.cells #[.int .i64 (rotX l1 0 (o0 + (k : Int) + (o1 + (q : Int)))), .int .i64 (rotY l1 0 (o0 + (k : Int) + (o1 + (q : Int))))] 35) = w6 at *
              rintro e w7 ⟨rfl, B7⟩
              have HB7 := Lib.hid (below_call HB6.out B7)
              have HO7 := Lib.hid (HO6.out.next B7)
              clear a0 a1 b0 b1 c0 c1 QQ B7 HO6 HB6 HPQ
              have HOW := Lib.hid (below_call HB4.out HB7.out)
              generalize hdv : pairD ls tx ty (o0 + (k : Int), o1 + (q : Int)) = dv at *
              have HDV := Lib.hid (show dOf ls tx ty (some (o0 + (k : Int), o1 + (q : Int))) = dv from hdv)
              have HDP := Lib.hid hdv
              clear hdv
              cases o with
              | none =>
                obtain rfl : tl = 0 := HO7.out.ints.1
                go_wp2
                refine wp_region_kept (by kernel_rfl) (by kernel_rfl) ?_
                repeat (go_big_quiet_step (fail))
                refine wpQuiet_nil ?_
                rintro wq ⟨⟨_, Bq⟩, rfl⟩
                have HBq := Lib.hid (below_call HB7.out Bq)
                have HOq := Lib.hid (OwnI.two (w := wq) (B := w.heap.size) (below_call HBw.out (below_call HB4.out HBq.out)).size (o0 + (k : Int)) (o1 + (q : Int)))
                have HBz := Lib.hid (below_call HBq.out (below_box wq (.cells #[.int .i64 (o0 + (k : Int)), .int .i64 (o1 + (q : Int))] 3)))
                clear HB7 Bq
                go_wp2
                go_roundw
                case rel => exact ⟨q + 1, some (o0 + (k : Int), o1 + (q : Int)), ⟨some ⟨wq.heap.size, 0, none⟩, 2, 2⟩, by omega, by congr 1; omega, rfl, by rw [HDV.out], Lib.hid (by rw [rowL_succ, ← List.append_assoc, bestL_snoc, ← HOE.out]; exact rfl), HOq, HBz⟩
                case measure => simp [intOf]; omega
              | some p =>
                obtain ⟨pa, pb⟩ := p
                obtain rfl : tl = 2 := HO7.out.ints.1
                obtain ⟨gs, os, rfl, ltg, cg⟩ := HO7.out.ints.some (by omega)
                have q0 := keptCell (o := os) ltg (cg 0 (by omega))
                have q1 := keptCell ltg (cg 1 (by omega))
                have hm := bestL_mem HOE.out.symm
                rw [List.mem_append, mem_rowsL, mem_rowL] at hm
                have mb : (-180 ≤ pa ∧ pa ≤ 180) ∧ (-180 ≤ pb ∧ pb ≤ 180) := by simp only at hm; omega
                have HL1 := Lib.hid (fun (n : Kept w7) => keptSame (l4Sum (o0 + (k : Int)) (o1 + (q : Int)) n.u (by omega) (by omega) (by omega) (by omega)))
                have HL2 := Lib.hid (fun (n : Kept w7) => keptSame (l4Sum pa pb n.u (by omega) (by omega) (by omega) (by omega)))
                have HDO := Lib.hid (show dOf ls tx ty (some (pa, pb)) = pairD ls tx ty (pa, pb) from rfl)
                clear hm cg
                simp only [pairL, List.getD_cons_zero, List.getD_cons_succ] at q0 q1
                generalize hs1 : sumAbs (o0 + (k : Int), o1 + (q : Int)) = s1 at *
                generalize hs2 : sumAbs (pa, pb) = s2 at *
                have HS12 := Lib.hid (And.intro hs1 hs2)
                clear hs1 hs2
                have KEEP := Lib.hid (fun (h : ¬ lessC dv s1 (dOf ls tx ty (some (pa, pb))) s2) => show bstep (pairD ls tx ty) sumAbs (some (pa, pb)) (o0 + (k : Int), o1 + (q : Int)) = some (pa, pb) from bstep_keep (by rw [HDP.out, HS12.out.1, HS12.out.2]; exact h))
                have TAKE := Lib.hid (fun (h : lessC dv s1 (dOf ls tx ty (some (pa, pb))) s2) => show bstep (pairD ls tx ty) sumAbs (some (pa, pb)) (o0 + (k : Int), o1 + (q : Int)) = some (o0 + (k : Int), o1 + (q : Int)) from bstep_take (by rw [HDP.out, HS12.out.1, HS12.out.2]; exact h))
                by_cases d1 : dv < dOf ls tx ty (some (pa, pb))
                · have t1 : decide (dv < dOf ls tx ty (some (pa, pb))) = true := decide_eq_true d1
                  go_wp2
                  refine wp_region_kept (by kernel_rfl) (by kernel_rfl) ?_
                  repeat (go_big_quiet_step (fail))
                  refine wpQuiet_nil ?_
                  rintro wq ⟨⟨_, Bq⟩, rfl⟩
                  have HBq := Lib.hid (below_call HB7.out Bq)
                  have HOq := Lib.hid (OwnI.two (w := wq) (B := w.heap.size) (below_call HBw.out (below_call HB4.out HBq.out)).size (o0 + (k : Int)) (o1 + (q : Int)))
                  have HBz := Lib.hid (below_call HBq.out (below_box wq (.cells #[.int .i64 (o0 + (k : Int)), .int .i64 (o1 + (q : Int))] 3)))
                  clear HB7 Bq q0 q1
                  go_wp2
                  go_roundw
                  case rel => exact ⟨q + 1, some (o0 + (k : Int), o1 + (q : Int)), ⟨some ⟨wq.heap.size, 0, none⟩, 2, 2⟩, by omega, by congr 1; omega, rfl, by rw [HDV.out], Lib.hid (by rw [rowL_succ, ← List.append_assoc, bestL_snoc, ← HOE.out]; exact (TAKE.out (.inl d1)).symm), HOq, HBz⟩
                  case measure => simp [intOf]; omega
                · have t1 : decide (dv < dOf ls tx ty (some (pa, pb))) = false := decide_eq_false d1
                  by_cases d2 : dv = dOf ls tx ty (some (pa, pb))
                  · have t2 : (dv == dOf ls tx ty (some (pa, pb))) = true := by simpa using d2
                    by_cases d3 : s1 < s2
                    · have t3 : decide (s1 < s2) = true := decide_eq_true d3
                      have HTK := Lib.hid (TAKE.out (.inr ⟨d2, d3⟩)).symm
                      clear d2 d3
                      go_wp2
                      refine wp_region_kept (by kernel_rfl) (by kernel_rfl) ?_
                      repeat (go_big_quiet_step ((first | (go_at_call 81; with_reducible exact HL1.out _) | (go_at_call 81; with_reducible exact HL2.out _))))
                      refine wpQuiet_nil ?_
                      rintro wq ⟨⟨_, Bq⟩, rfl⟩
                      have HBq := Lib.hid (below_call HB7.out Bq)
                      have HOq := Lib.hid (OwnI.two (w := wq) (B := w.heap.size) (below_call HBw.out (below_call HB4.out HBq.out)).size (o0 + (k : Int)) (o1 + (q : Int)))
                      have HBz := Lib.hid (below_call HBq.out (below_box wq (.cells #[.int .i64 (o0 + (k : Int)), .int .i64 (o1 + (q : Int))] 3)))
                      clear HB7 Bq q0 q1
                      go_wp2
                      go_roundw
                      case rel => exact ⟨q + 1, some (o0 + (k : Int), o1 + (q : Int)), ⟨some ⟨wq.heap.size, 0, none⟩, 2, 2⟩, by omega, by congr 1; omega, rfl, by rw [HDV.out], Lib.hid (by rw [rowL_succ, ← List.append_assoc, bestL_snoc, ← HOE.out]; exact HTK.out), HOq, HBz⟩
                      case measure => simp [intOf]; omega
                    · have t3 : decide (s1 < s2) = false := decide_eq_false d3
                      have HTK := Lib.hid (KEEP.out (fun h => by rcases h with h | h <;> omega)).symm
                      clear d2 d3
                      go_wp2
                      refine wp_region_kept (by kernel_rfl) (by kernel_rfl) ?_
                      repeat (go_big_quiet_step ((first | (go_at_call 81; with_reducible exact HL1.out _) | (go_at_call 81; with_reducible exact HL2.out _))))
                      refine wpQuiet_nil ?_
                      rintro wq ⟨⟨_, Bq⟩, rfl⟩
                      have HBq := Lib.hid (below_call HB7.out Bq)
                      have HOq := Lib.hid (HO7.out.next Bq)
                      clear HB7 Bq q0 q1 HO7
                      go_wp2
                      go_roundw
                      case rel => exact ⟨q + 1, some (pa, pb), ⟨some ⟨gs, os, none⟩, 2, tc⟩, by omega, by congr 1; omega, rfl, rfl, Lib.hid (by rw [rowL_succ, ← List.append_assoc, bestL_snoc, ← HOE.out]; exact HTK.out), HOq, HBq⟩
                      case measure => simp [intOf]; omega
                  · have t2 : (dv == dOf ls tx ty (some (pa, pb))) = false := by simpa using d2
                    have HTK := Lib.hid (KEEP.out (fun h => by rcases h with h | h <;> omega)).symm
                    clear d2
                    go_wp2
                    refine wp_region_kept (by kernel_rfl) (by kernel_rfl) ?_
                    repeat (go_big_quiet_step (fail))
                    refine wpQuiet_nil ?_
                    rintro wq ⟨⟨_, Bq⟩, rfl⟩
                    have HBq := Lib.hid (below_call HB7.out Bq)
                    have HOq := Lib.hid (HO7.out.next Bq)
                    clear HB7 Bq q0 q1 HO7
                    go_wp2
                    go_roundw
                    case rel => exact ⟨q + 1, some (pa, pb), ⟨some ⟨gs, os, none⟩, 2, tc⟩, by omega, by congr 1; omega, rfl, rfl, Lib.hid (by rw [rowL_succ, ← List.append_assoc, bestL_snoc, ← HOE.out]; exact HTK.out), HOq, HBq⟩
                    case measure => simp [intOf]; omega
            · obtain rfl : q = n1 := by omega
              have j2 : ¬ o1 + (q : Int) ≤ h1 := by omega
              go_wp2
              go_roundw
              case rel => exact ⟨k + 1, o, ⟨ta, tl, tc⟩, by omega, by congr 1; omega, rfl, rfl, Lib.hid HOE.out, HO, HB5⟩
              case measure => simp [intOf]; omega
        · obtain rfl : k = n0 := by omega
          have j1 : ¬ o0 + (k : Int) ≤ h0 := by omega
          go_wp2
          go_ret
          exact ⟨⟨sa, sl, sc⟩, rfl, by rw [HV.out, ← HFIN.out, ← HOE.out]; exact HO.out, by rw [HV.out, ← HFIN.out, ← HOE.out]; exact HO.out.ints.1, below_call HBw.out HW.out⟩
    · have HV := Lib.hid (solveV_out fun h => hp h.2 : solveV ls lo hi tx ty = [])
      go_enter Tryd.func41, Tryd.ntmps41
      go_wp2_with fail
      refine (l4Sweep ⟨xa, xl, xc⟩ ⟨ya, yl, yc⟩ ⟨za, zl, zc⟩ ls lo hi _ hx hy hz bx b_y bz).mono ?_
      generalize ((w.alloc (.cells #[.slice xa xl xc, .slice ya yl yc, .slice za zl zc] 25)).alloc (.cells #[.int .i64 tx, .int .i64 ty] 35)).alloc (.cells #[] 3) = w0 at *
      rw [decide_eq_true hv]
      rintro e w1 ⟨rfl, B1⟩
      obtain ⟨_, q1, q2⟩ := Q.next B1
      go_wp2_with fail
      refine (specPointValidN tx ty _ hp).mono ?_
      rintro e w2 ⟨rfl, B2⟩
      have HB2 := Lib.hid (below_call B1 B2)
      clear B1 B2 q1 q2 P Q hx hy hz
      go_wp2
      go_ret
      exact ⟨⟨some ⟨w.heap.size + 2, 0, none⟩, 0, 0⟩, rfl, by rw [HV.out]; exact HO0.out.next HB2.out, by rw [HV.out]; rfl, below_call HBw.out HB2.out⟩
  · have HV := Lib.hid (solveV_out fun h => hv h.1 : solveV ls lo hi tx ty = [])
    go_enter Tryd.func41, Tryd.ntmps41
    go_wp2_with fail
    refine (l4Sweep ⟨xa, xl, xc⟩ ⟨ya, yl, yc⟩ ⟨za, zl, zc⟩ ls lo hi _ hx hy hz bx b_y bz).mono ?_
    generalize ((w.alloc (.cells #[.slice xa xl xc, .slice ya yl yc, .slice za zl zc] 25)).alloc (.cells #[.int .i64 tx, .int .i64 ty] 35)).alloc (.cells #[] 3) = w0 at *
    rw [decide_eq_false hv]
    rintro e w1 ⟨rfl, B1⟩
    have HB2 := Lib.hid B1
    clear B1 P Q hx hy hz
    go_wp2
    go_ret
    exact ⟨⟨some ⟨w.heap.size + 2, 0, none⟩, 0, 0⟩, rfl, by rw [HV.out]; exact HO0.out.next HB2.out, by rw [HV.out]; rfl, below_call HBw.out HB2.out⟩
end Go.Proofs.YtolkihibjabmhaaDoor
