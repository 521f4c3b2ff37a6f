/- The program's iterator over all pairs of angles. -/
import Derived.Test.YtolkihibjabmhaaDoorIm6
import Derived.Test.YtolkihibjabmhaaDoorKTail
namespace Go.Proofs.YtolkihibjabmhaaDoor
set_option maxRecDepth 100000
open Go.RowKit Go.Shelf
attribute [local go_sem] Oper.semAt_some
/-- The candidate of a pair of angles. -/
def mkC (ls : List Int) (tx ty : Int) (p : Int × Int) : Cand := ⟨p.1, p.2, 0, 0, distV ls tx ty [p.1, p.2], effN p.1 p.2 0 0 4⟩
theorem abides {β : Type} {B : Nat} {J : β → World → Prop} (h : AbidesFrom B J) {s : β} {W W' : World} (hs : J s W) (hb : Below W.heap.size W W') : J s W' :=
  h s W W' none hs ⟨hb.os, hb.tape, hb.output, hb.size, fun k hk _ => hb.block k hk⟩ (fun r e => by cases e)
theorem pair_len {k q n0 n1 : Nat} (hk : k < n0) (hq : q < n1) : k * n1 + q < n0 * n1 := by
  have h1 : (k + 1) * n1 ≤ n0 * n1 := Nat.mul_le_mul_right n1 hk
  rw [Nat.succ_mul] at h1
  omega
/-- A round's answer under one name. -/
def Said (J Jx : List Cand → World → Prop) (xs : List Cand) (B : Nat) (W : World) (b : Bool) (W' : World) : Prop := (b = true ∧ J xs W' ∧ Below B W W') ∨ (b = false ∧ Jx xs W')
theorem saidOf {F : Fence} {n : Nat} {P : Program} {l : Nat} {f : FuncId} {tmps : Array Value} {assign body : Code} {W : World} {J Jx : List Cand → World → Prop} {xs : List Cand} {B : Nat}
    (h : RoundIn F n P l f tmps assign body W fun e W' => (e = .returned (.bool true) ∧ J xs W' ∧ Below B W W') ∨ (e = .returned (.bool false) ∧ Jx xs W')) :
    RoundIn F n P l f tmps assign body W fun e W' => ∃ b : Bool, e = .returned (.bool b) ∧ Hid (Said J Jx xs B W b W') :=
  h.mono fun e W' hh => by
    rcases hh with ⟨rfl, h1, h2⟩ | ⟨rfl, h1⟩
    · exact ⟨true, rfl, Lib.hid (.inl ⟨rfl, h1, h2⟩)⟩
    · exact ⟨false, rfl, Lib.hid (.inr ⟨rfl, h1⟩)⟩
/-- What the iterator over the pairs reads: the search and the links. -/
structure PairsAt (w : World) (Bn b cap : Nat) (tx ty o0 h0 o1 h1 : Int) : Prop where
  ltn : Bn < w.heap.size
  ltb : b < w.heap.size
  s0 : w.cell? ⟨Bn, 0, none⟩ = some (.slice (some ⟨b, 0, none⟩) 2 cap)
  s1 : w.cell? ⟨Bn, 1, none⟩ = some (.int .i64 tx)
  s2 : w.cell? ⟨Bn, 2, none⟩ = some (.int .i64 ty)
  y0 : w.cell? ⟨b, 1, none⟩ = some (.int .i64 o0)
  z0 : w.cell? ⟨b, 2, none⟩ = some (.int .i64 h0)
  y1 : w.cell? ⟨b, 4, none⟩ = some (.int .i64 o1)
  z1 : w.cell? ⟨b, 5, none⟩ = some (.int .i64 h1)
theorem PairsAt.next {w w' : World} {Bn b cap : Nat} {tx ty o0 h0 o1 h1 : Int} (h : PairsAt w Bn b cap tx ty o0 h0 o1 h1) (hb : Below w.heap.size w w') : PairsAt w' Bn b cap tx ty o0 h0 o1 h1 :=
  ⟨Nat.lt_of_lt_of_le h.ltn hb.size, Nat.lt_of_lt_of_le h.ltb hb.size, (hb.cell (p := ⟨Bn, 0, none⟩) h.ltn).trans h.s0, (hb.cell (p := ⟨Bn, 1, none⟩) h.ltn).trans h.s1, (hb.cell (p := ⟨Bn, 2, none⟩) h.ltn).trans h.s2,
   (hb.cell (p := ⟨b, 1, none⟩) h.ltb).trans h.y0, (hb.cell (p := ⟨b, 2, none⟩) h.ltb).trans h.z0, (hb.cell (p := ⟨b, 4, none⟩) h.ltb).trans h.y1, (hb.cell (p := ⟨b, 5, none⟩) h.ltb).trans h.z1⟩
set_option maxHeartbeats 4000000 in
theorem pairsStops (Bn b cap : Nat) (ls lo hi : List Int) (tx ty : Int) (w : World) (ht : TabAt w) (hA : AtA w Bn (.slice (some ⟨b, 0, none⟩) ls.length cap) (.int .i64 tx) (.int .i64 ty)) (hc : ChainAt w b ls.length ls lo hi) (hok : okArm ls lo hi) (h2 : ls.length = 2) (n : Nat) :
    SeqStopsK Fence.wide n Tryd.prog 94 #[.pointer (some ⟨Bn, 0, none⟩)] (fun c : Cand => #[cv c]) (Below w.heap.size) (fun ys => ys = (allPairs lo hi).map (mkC ls tx ty)) (fun _ => True) ((allPairs lo hi).map (mkC ls tx ty)).length w := by
  intro l J Jx W hW hJ _ hY h0
  have k0 := hok.2.2.2.2 0 (by omega)
  have k1 := hok.2.2.2.2 1 (by omega)
  unfold okLink at k0 k1
  obtain ⟨_, q2, q3⟩ := hc.c 0 (by omega)
  obtain ⟨_, q5, q6⟩ := hc.c 1 (by omega)
  have hs0 := hA.c0
  rw [h2] at hs0
  have HP := Lib.hid (show PairsAt w Bn b cap tx ty (lo.getD 0 0) (hi.getD 0 0) (lo.getD 1 0) (hi.getD 1 0) from ⟨hA.lt, hc.lt, hs0, hA.c1, hA.c2, q2, q3, q5, q6⟩)
  have HDI := Lib.hid (fun (i j : Int) (hi1 : lo.getD 0 0 ≤ i) (hi2 : i ≤ hi.getD 0 0) (hj1 : lo.getD 1 0 ≤ j) (hj2 : j ≤ hi.getD 1 0) (u : World) (hu : Below w.heap.size w u) => show Calls Tryd.prog 95 #[sv b 2 cap tx ty, pv4 i j 0 0] u fun e w' => e = .returned (.int .i64 (distV ls tx ty [i, j])) ∧ Below u.heap.size u w' by
    have := distanceC b cap ls lo hi [i, j] tx ty i j 0 0 u ⟨rfl, rfl, rfl, rfl⟩ (ht.below hu ht.lt) (hc.next hu) ⟨hok, by rw [h2]; rfl, fun k hk => by
      have hk2 : k = 0 ∨ k = 1 := by simp at hk; omega
      rcases hk2 with rfl | rfl
      · exact ⟨hi1, hi2⟩
      · exact ⟨hj1, hj2⟩⟩
    rw [h2] at this
    exact this)
  have HMK := Lib.hid (fun i j => show mkC ls tx ty (i, j) = ⟨i, j, 0, 0, distV ls tx ty [i, j], effN i j 0 0 4⟩ from rfl)
  have HFIN := Lib.hid (show (rowsL (lo.getD 0 0) (lo.getD 1 0) (wide lo hi 1) (wide lo hi 0)).map (mkC ls tx ty) = (allPairs lo hi).map (mkC ls tx ty) from rfl)
  have HLEN := Lib.hid (show ((allPairs lo hi).map (mkC ls tx ty)).length = wide lo hi 0 * wide lo hi 1 by rw [List.length_map]; exact rowsL_len _ _ _ _)
  have w0d := show ((wide lo hi 0 : Nat) : Int) = hi.getD 0 0 - lo.getD 0 0 + 1 by unfold wide; omega
  have w1d := show ((wide lo hi 1 : Nat) : Int) = hi.getD 1 0 - lo.getD 1 0 + 1 by unfold wide; omega
  have HY := Lib.hid hY
  have HJ := Lib.hid (fun s A B (hs : J s A) (hb : Below A.heap.size A B) => abides hJ hs hb)
  have HW0 := Lib.hid hW
  have H00 := Lib.hid h0
  clear hY hJ q2 q3 q5 q6 hs0 hA hc ht hok h2 hW h0
  generalize lo.getD 0 0 = o0 at *
  generalize lo.getD 1 0 = o1 at *
  generalize hi.getD 0 0 = h0 at *
  generalize hi.getD 1 0 = h1 at *
  generalize wide lo hi 0 = n0 at *
  generalize wide lo hi 1 = n1 at *
  have w0a : (n0 : Int) ≤ h0 - o0 + 1 := by omega
  have w0b : h0 - o0 + 1 ≤ (n0 : Int) := by omega
  have w1a : (n1 : Int) ≤ h1 - o1 + 1 := by omega
  have w1b : h1 - o1 + 1 ≤ (n1 : Int) := by omega
  clear w0d w1d
  refine callsIn_of_wp Tryd.func94 rfl trivial ?_ rfl
  simp only [Tryd.ntmps94, List.size_toArray, List.length_cons, List.length_nil, Nat.reduceAdd, Nat.reduceSub, Array.replicate_succ, Array.replicate_zero, List.push_toArray, List.append_toArray, List.nil_append, List.cons_append]
  obtain ⟨_, _, s0, s1, s2, y0, z0, y1, z1⟩ := HP.out.next HW0.out
  gi_wp2
  clear s0 s1 s2 y0 z0 y1 z1
  gi_loopw [3] (fun i wr => ∃ k : Nat, k ≤ n0 ∧ i = .int .i64 (o0 + (k : Int)) ∧ Hid (J ((rowsL o0 o1 n1 k).map (mkC ls tx ty)) wr) ∧ Hid (Below w.heap.size w wr)) (fun i _ => (h0 + 1 - intOf i).toNat)
  case atStart => exact ⟨0, Nat.zero_le _, by congr 1; omega, H00, HW0⟩
  case round =>
    obtain ⟨k, hk, rfl, HJ1, HW1⟩ := hrel
    clear H00 HW0
    obtain ⟨_, _, s0, s1, s2, y0, z0, y1, z1⟩ := HP.out.next HW1.out
    by_cases hlt : k < n0
    · have j1 : o0 + (k : Int) ≤ h0 := by omega
      gi_wp2
      clear s0 s1 s2 y0 z0 y1 z1
      gi_loopw [4] (fun j wr2 => ∃ q : Nat, q ≤ n1 ∧ j = .int .i64 (o1 + (q : Int)) ∧ Hid (J ((rowsL o0 o1 n1 k ++ rowL (o0 + (k : Int)) o1 q).map (mkC ls tx ty)) wr2) ∧ Hid (Below w.heap.size w wr2)) (fun j _ => (h1 + 1 - intOf j).toNat)
      case atStart => exact ⟨0, Nat.zero_le _, by congr 1; omega, Lib.hid (by rw [rowL_zero, List.append_nil]; exact HJ1.out), HW1⟩
      case round =>
        obtain ⟨q, hq, rfl, HJ2, HW2⟩ := hrel
        clear HJ1 HW1
        obtain ⟨_, _, s0, s1, s2, y0, z0, y1, z1⟩ := HP.out.next HW2.out
        by_cases hq2 : q < n1
        · have j2 : o1 + (q : Int) ≤ h1 := by omega
          have HNX := Lib.hid (show ((rowsL o0 o1 n1 k ++ rowL (o0 + (k : Int)) o1 (q + 1)).map (mkC ls tx ty)) = ((rowsL o0 o1 n1 k ++ rowL (o0 + (k : Int)) o1 q).map (mkC ls tx ty)) ++ [mkC ls tx ty (o0 + (k : Int), o1 + (q : Int))] by rw [rowL_succ, ← List.append_assoc, List.map_append]; rfl)
          have HLT := Lib.hid (show ((rowsL o0 o1 n1 k ++ rowL (o0 + (k : Int)) o1 q).map (mkC ls tx ty)).length < ((allPairs lo hi).map (mkC ls tx ty)).length by
            rw [HLEN.out, List.length_map, List.length_append, rowsL_len]
            simp only [rowL, List.length_map, List.length_range]
            exact pair_len hlt hq2)
          have HD2 := Lib.hid (fun u hu => HDI.out (o0 + (k : Int)) (o1 + (q : Int)) (by omega) j1 (by omega) j2 u hu)
          have HE2 := Lib.hid (fun u => effort (o0 + (k : Int)) (o1 + (q : Int)) 0 0 u (by omega) (by omega) (by omega) (by omega) (by omega) (by omega) (by omega) (by omega))
          have HM2 := Lib.hid (HMK.out (o0 + (k : Int)) (o1 + (q : Int)))
          have Bb := below_box wr (pcells (o0 + (k : Int)) (o1 + (q : Int)) 0 0)
          have HBb := Lib.hid Bb
          have HW3 := Lib.hid (below_call HW2.out Bb)
          have HJ3 := Lib.hid (HJ.out _ _ _ HJ2.out Bb)
          have Q4 := At4.box wr (o0 + (k : Int)) (o1 + (q : Int)) 0 0 91
          gi_wp2
          generalize wr.alloc (pcells (o0 + (k : Int)) (o1 + (q : Int)) 0 0) = w3 at *
          obtain ⟨_, _, a0, a1, a2, _, _, _, _⟩ := HP.out.next HW3.out
          obtain ⟨_, c0, c1, c2, c3⟩ := id Q4
          have HPW := Lib.hid (HP.out.next HW3.out)
          clear s0 s1 s2 y0 z0 y1 z1
          have HDK := Lib.hid (fun (n : Kept w3) => keptCall (HD2.out n.u (below_call HW3.out n.b)))
          have HEK := Lib.hid (fun (n : Kept w3) => keptCall (HE2.out n.u))
          have u0 := keptCell HPW.out.ltn a0
          have u1 := keptCell HPW.out.ltn a1
          have u2 := keptCell HPW.out.ltn a2
          obtain ⟨v0, v1, v2, v3⟩ := Q4.kepts
          clear a0 a1 a2 c0 c1 c2 c3
          refine wpIn_region_tail 8 (by kernel_rfl) (by kernel_rfl) ?_
          simp only [List.take_succ_cons, List.take_zero, List.drop_succ_cons, List.drop_zero]
          repeat (go_big_quiet_step ((first | (go_at_call 95; exact HDK.out _) | (go_at_call 96; exact HEK.out _))))
          refine wpQuiet_nil ?_
          rintro w5 ⟨⟨_, K5⟩, rfl⟩
          obtain ⟨fn, tmps, assign, body, hy, hR⟩ := HY.out _ (mkC ls tx ty (o0 + (k : Int), o1 + (q : Int))) w5 (HJ.out _ _ _ HJ3.out K5) HLT.out
          rw [HM2.out] at hy
          clear u0 u1 u2 v0 v1 v2 v3
          gi_wp2
          refine ⟨(by intro h; cases h), ?_⟩
          refine (saidOf hR).mono ?_
          rintro e w6 ⟨bb, rfl, S6⟩
          all_goals
            cases bb with
            | true =>
              have HS6 : Hid (J ((rowsL o0 o1 n1 k ++ rowL (o0 + (k : Int)) o1 (q + 1)).map (mkC ls tx ty)) w6 ∧ Below w.heap.size w5 w6) := Lib.hid (by
                rw [HNX.out]
                rcases S6.out with ⟨_, h1, h2⟩ | ⟨h1, _⟩
                · exact ⟨h1, h2⟩
                · cases h1)
              have HW6 := Lib.hid (show Below w.heap.size w w6 from (below_call HW3.out K5).trans HS6.out.2)
              clear S6 hy hR
              gi_wp2
              go_roundw
              case rel => exact ⟨q + 1, by omega, by congr 1; omega, Lib.hid HS6.out.1, HW6⟩
              case measure => simp [intOf]; omega
            | false =>
              have HS6 : Hid (Jx (((rowsL o0 o1 n1 k ++ rowL (o0 + (k : Int)) o1 q).map (mkC ls tx ty)) ++ [mkC ls tx ty (o0 + (k : Int), o1 + (q : Int))]) w6) := Lib.hid (by
                rcases S6.out with ⟨h1, _⟩ | ⟨_, h1⟩
                · cases h1
                · exact h1)
              clear S6 hy hR
              gi_wp2
              refine bodyPost_ret (results_none rfl _ _ _) rfl ?_
              exact ⟨⟨_, rfl⟩, .inr ⟨_, trivial, HS6.out⟩⟩
        · obtain rfl : q = n1 := by omega
          have j2 : ¬ o1 + (q : Int) ≤ h1 := by omega
          gi_wp2
          go_roundw
          case rel => exact ⟨k + 1, by omega, by congr 1; omega, Lib.hid HJ2.out, HW2⟩
          case measure => simp [intOf]; omega
    · obtain rfl : k = n0 := by omega
      have j1 : ¬ o0 + (k : Int) ≤ h0 := by omega
      gi_wp2
      go_end0
      exact ⟨⟨_, rfl⟩, .inl (by rw [← HFIN.out]; exact HJ1.out)⟩
end Go.Proofs.YtolkihibjabmhaaDoor
