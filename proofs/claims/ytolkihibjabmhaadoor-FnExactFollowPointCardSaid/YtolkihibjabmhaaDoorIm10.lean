/- The program's step, follow, FollowPoint and StepJoints. -/
import Derived.ChangeKeysEq
import Derived.Test.YtolkihibjabmhaaDoorIm9
import Derived.Test.YtolkihibjabmhaaDoorSp8
namespace Go.Proofs.YtolkihibjabmhaaDoor
set_option maxRecDepth 100000
open Go.RowKit Go.Shelf
attribute [local go_sem ↓] Go.wp_at_zero Go.wp_at_succ
theorem is4_self (zs : List Int) : Is4 zs (zs.getD 0 0) (zs.getD 1 0) (zs.getD 2 0) (zs.getD 3 0) := ⟨rfl, rfl, rfl, rfl⟩
theorem stepsC (b n cap : Nat) (tx ty p q r s : Int) (w : World) : Calls Tryd.prog 109 #[sv b n cap tx ty, pv4 p q r s] w fun e w' => ∃ Pn Sn, e = .returned (.func (.func 113) #[] #[.pointer (some ⟨Pn, 0, none⟩), .pointer (some ⟨Sn, 0, none⟩)]) ∧ StepsAt w' Pn Sn b n cap tx ty p q r s ∧ Below w.heap.size w w' := by
  have hmf : ∀ (fn : Fn) (first cap : Array Value) (w : World), (Instr.makeFunc fn first cap).run Tryd.prog w = .ok (.func fn first cap) w := fun _ _ _ _ => rfl
  have P := (AtA.box w (.slice (some ⟨b, 0, none⟩) n cap) (.int .i64 tx) (.int .i64 ty) 88).alloc (pcells p q r s)
  have Q := At4.box (w.alloc (scells b n cap tx ty)) p q r s 91
  rw [show (w.alloc (scells b n cap tx ty)).heap.size = w.heap.size + 1 by simp] at Q
  have HR := Lib.hid (And.intro (StepsAt.mk Q P) (below_box2 w (scells b n cap tx ty) (pcells p q r s)))
  clear P Q
  go_enter Tryd.func109, Tryd.ntmps109
  go_wp2
  go_ret
  exact ⟨_, _, rfl, HR.out.1, HR.out.2⟩
theorem stepC (b cap : Nat) (ls lo hi js : List Int) (tx ty p q r s : Int) (w : World) (h4j : Is4 js p q r s) (ht : TabAt w) (hc : ChainAt w b ls.length ls lo hi) (hok : okJoints ls lo hi js) :
    Calls Tryd.prog 102 #[sv b ls.length cap tx ty, pv4 p q r s] w fun e w' => ∃ p' q' r' s', Hid (Is4 (stepV (okJoints ls lo hi) (distV ls tx ty) js) p' q' r' s') ∧ e = .returned (pv4 p' q' r' s') ∧ Below w.heap.size w w' := by
  have HB := Lib.hid (below_call (below_box2 w (scells b ls.length cap tx ty) (pcells p q r s)) (below_box ((w.alloc (scells b ls.length cap tx ty)).alloc (pcells p q r s)) (pcells 0 0 0 0)))
  have R := Own4.box ((w.alloc (scells b ls.length cap tx ty)).alloc (pcells p q r s)) 0 0 0 0 91
  rw [show ((w.alloc (scells b ls.length cap tx ty)).alloc (pcells p q r s)).heap.size = w.heap.size + 1 + 1 by simp] at R
  have HR := Lib.hid R
  have HT := Lib.hid ht
  have HC := Lib.hid hc
  have HO := Lib.hid hok
  have HI := Lib.hid h4j
  clear R ht hc hok h4j
  go_enter Tryd.func102, Tryd.ntmps102
  go_wp2_with fail
  refine (stepsC b ls.length cap tx ty p q r s _).mono ?_
  generalize ((w.alloc (scells b ls.length cap tx ty)).alloc (pcells p q r s)).alloc (pcells 0 0 0 0) = w0 at *
  rintro e w1 ⟨Pn, Sn, rfl, S1, B1⟩
  have HB1 := Lib.hid (below_call HB.out B1)
  have HR1 := Lib.hid (HR.out.next B1)
  have HS1 := Lib.hid S1
  clear S1 B1 HR HB
  have HBE := Lib.hid (show bestC (candsM (okJoints ls lo hi) (distV ls tx ty) js (2 * js.length)) = candOf (distV ls tx ty) (stepV (okJoints ls lo hi) (distV ls tx ty) js) by unfold bestC; rw [candsM_best]; rfl)
  go_wp2_with fail
  refine (leastK 113 _ (candsM (okJoints ls lo hi) (distV ls tx ty) js (2 * js.length)) w1 (enters_of Tryd.func113 (by kernel_rfl) rfl) (fun n W0 h1 h2 => stepsStops Pn Sn b cap ls lo hi js tx ty p q r s w1 W0 h1 h2 HI.out (HT.out.below HB1.out HT.out.lt) HS1.out (HC.out.next HB1.out) HO.out n)).mono ?_
  rw [HBE.out]
  obtain ⟨p', q', r', s', dd, h4, hcd⟩ : ∃ p' q' r' s' dd, Is4 (stepV (okJoints ls lo hi) (distV ls tx ty) js) p' q' r' s' ∧ candOf (distV ls tx ty) (stepV (okJoints ls lo hi) (distV ls tx ty) js) = ⟨p', q', r', s', dd, 0⟩ := ⟨_, _, _, _, _, is4_self _, rfl⟩
  rw [hcd]
  have HI4 := Lib.hid h4
  clear hcd h4 HBE
  rintro e w2 ⟨rfl, B2⟩
  have HB2 := Lib.hid (below_call HB1.out B2)
  obtain ⟨⟨_, r0, r1, r2, r3⟩, z0, z1, z2, z3⟩ := HR1.out.next B2
  have HE := Lib.hid (below_set4 HB2.out (show w.heap.size ≤ w.heap.size + 1 + 1 by omega) (.int .i64 p') (.int .i64 q') (.int .i64 r') (.int .i64 s'))
  have hfl := fun u => fieldC ⟨p', q', r', s', dd, 0⟩ u
  clear B2 HR1 HB1
  go_wp2
  exact bodyPost_ret (v := pv4 p' q' r' s') (by simp [results, Tryd.results102, go_sem, r0, r1, r2, r3]) rfl ⟨p', q', r', s', HI4, rfl, HE.out⟩
theorem Own4.set4 {w : World} {b : Nat} {p q r s : Int} (h : Own4 w b p q r s) (p' q' r' s' : Int) : Own4 ((((w.setCell ⟨b, 0, none⟩ (.int .i64 p')).setCell ⟨b, 1, none⟩ (.int .i64 q')).setCell ⟨b, 2, none⟩ (.int .i64 r')).setCell ⟨b, 3, none⟩ (.int .i64 s')) b p' q' r' s' := by
  obtain ⟨⟨lt, r0, r1, r2, r3⟩, z0, z1, z2, z3⟩ := h
  exact ⟨⟨by simpa using lt, by simp [go_sem, r0], by simp [go_sem, r1], by simp [go_sem, r2], by simp [go_sem, r3]⟩, by simp [go_sem, z0], by simp [go_sem, z1], by simp [go_sem, z2], by simp [go_sem, z3]⟩
theorem Own4.far {w : World} {b c o : Nat} {p q r s : Int} (h : Own4 w b p q r s) (hc : c ≠ b) (v : Value) : Own4 (w.setCell ⟨c, o, none⟩ v) b p q r s :=
  ⟨⟨by simpa [World.setCell] using h.lt, (World.cell?_setCell_far _ _ _ _ hc).trans h.c0, (World.cell?_setCell_far _ _ _ _ hc).trans h.c1, (World.cell?_setCell_far _ _ _ _ hc).trans h.c2, (World.cell?_setCell_far _ _ _ _ hc).trans h.c3⟩,
    (World.frozen?_setCell _ _ _ _).trans h.z0, (World.frozen?_setCell _ _ _ _).trans h.z1, (World.frozen?_setCell _ _ _ _).trans h.z2, (World.frozen?_setCell _ _ _ _).trans h.z3⟩
/-- What follow keeps between two steps: the search, the posture, the result's place. -/
structure FollowI (sz : Nat) (w : World) (x y z : Value) (p q r s : Int) : Prop where
  sb : AtA w sz x y z
  pb : Own4 w (sz + 1) p q r s
  rb : Own4 w (sz + 1 + 1) 0 0 0 0
theorem FollowI.next {sz : Nat} {w w' : World} {x y z : Value} {p q r s : Int} (h : FollowI sz w x y z p q r s) (hb : Below w.heap.size w w') : FollowI sz w' x y z p q r s := ⟨h.sb.next hb, h.pb.next hb, h.rb.next hb⟩
theorem FollowI.set {sz : Nat} {w : World} {x y z : Value} {p q r s : Int} (h : FollowI sz w x y z p q r s) (p' q' r' s' : Int) : FollowI sz ((((w.setCell ⟨sz + 1, 0, none⟩ (.int .i64 p')).setCell ⟨sz + 1, 1, none⟩ (.int .i64 q')).setCell ⟨sz + 1, 2, none⟩ (.int .i64 r')).setCell ⟨sz + 1, 3, none⟩ (.int .i64 s')) x y z p' q' r' s' :=
  ⟨(((h.sb.far (by omega) _).far (by omega) _).far (by omega) _).far (by omega) _, h.pb.set4 p' q' r' s', (((h.rb.far (by omega) _).far (by omega) _).far (by omega) _).far (by omega) _⟩
theorem part4_0 (a c d f : Int) (u : World) : (Go.part 3 #[.int .i64 a, .int .i64 c, .int .i64 d, .int .i64 f] 0).run Tryd.prog u = .ok (.int .i64 a) u := by kernel_rfl
theorem part4_1 (a c d f : Int) (u : World) : (Go.part 3 #[.int .i64 a, .int .i64 c, .int .i64 d, .int .i64 f] 1).run Tryd.prog u = .ok (.int .i64 c) u := by kernel_rfl
theorem part4_2 (a c d f : Int) (u : World) : (Go.part 3 #[.int .i64 a, .int .i64 c, .int .i64 d, .int .i64 f] 2).run Tryd.prog u = .ok (.int .i64 d) u := by kernel_rfl
theorem part4_3 (a c d f : Int) (u : World) : (Go.part 3 #[.int .i64 a, .int .i64 c, .int .i64 d, .int .i64 f] 3).run Tryd.prog u = .ok (.int .i64 f) u := by kernel_rfl
theorem eq4 (a c d f a' c' d' f' : Int) (u : World) : (Op.equalIn 10000 91 (.agg #[.int .i64 a', .int .i64 c', .int .i64 d', .int .i64 f']) (.agg #[.int .i64 a, .int .i64 c, .int .i64 d, .int .i64 f])).run Tryd.prog u = .ok (decide (a' = a ∧ c' = c ∧ d' = d ∧ f' = f)) u := by
  obtain ⟨i0, hi0, _, _, _⟩ := info_parts infoInt
  have E : ∀ (x y : Int) (w : World), (Op.equalIn 9999 3 (.int .i64 x) (.int .i64 y)).run Tryd.prog w = .ok (x == y) w := fun x y w => run_equalIn_int (P := Tryd.prog) w 9998 3 .i64 .i64 x y (by kernel_rfl)
  have hc : Tryd.prog.cellsOf 3 = 1 := by kernel_rfl
  refine (run_equalIn_array u 9999 _ _ (show Tryd.prog.underlying 91 = some (.array 4 3) by kernel_rfl) hi0).trans ?_
  rw [hc, show List.range 4 = [0, 1, 2, 3] from rfl]
  by_cases h0 : a' = a
  · by_cases h1 : c' = c
    · by_cases h2 : d' = d
      · by_cases h3 : f' = f
        · simp [Op.eqItems, part4_0, part4_1, part4_2, part4_3, E, h0, h1, h2, h3]
        · simp [Op.eqItems, part4_0, part4_1, part4_2, part4_3, E, h0, h1, h2, h3]
      · simp [Op.eqItems, part4_0, part4_1, part4_2, E, h0, h1, h2]
    · simp [Op.eqItems, part4_0, part4_1, E, h0, h1]
  · simp [Op.eqItems, part4_0, E, h0]
theorem is4_eq {us vs : List Int} {a c d f : Int} (h1 : Is4 us a c d f) (h2 : Is4 vs a c d f) (hl : us.length = vs.length) (h4 : us.length ≤ 4) : us = vs := by
  obtain ⟨e0, e1, e2, e3⟩ := h1
  obtain ⟨g0, g1, g2, g3⟩ := h2
  apply List.ext_getElem hl
  intro i i1 i2
  have hi : us.getD i 0 = vs.getD i 0 := by
    have h : i = 0 ∨ i = 1 ∨ i = 2 ∨ i = 3 := by omega
    rcases h with rfl | rfl | rfl | rfl
    · rw [e0, g0]
    · rw [e1, g1]
    · rw [e2, g2]
    · rw [e3, g3]
  simpa [List.getD_eq_getElem?_getD, List.getElem?_eq_getElem i1, List.getElem?_eq_getElem i2] using hi
set_option maxHeartbeats 1000000 in
theorem followC (b cap : Nat) (ls lo hi js : List Int) (tx ty p q r s : Int) (st : Nat) (w : World) (h4j : Is4 js p q r s) (ht : TabAt w) (hc : ChainAt w b ls.length ls lo hi) (hok : okJoints ls lo hi js) (hst : st ≤ 500) :
    Calls Tryd.prog 83 #[sv b ls.length cap tx ty, pv4 p q r s, .int .i64 (st : Int)] w fun e w' => ∃ p' q' r' s', Hid (Is4 (flJ ls lo hi js tx ty st) p' q' r' s') ∧ e = .returned (pv4 p' q' r' s') ∧ Below w.heap.size w w' := by
  have HB := Lib.hid (below_call (below_box2 w (scells b ls.length cap tx ty) (pcells p q r s)) (below_box ((w.alloc (scells b ls.length cap tx ty)).alloc (pcells p q r s)) (pcells 0 0 0 0)))
  have R := Own4.box ((w.alloc (scells b ls.length cap tx ty)).alloc (pcells p q r s)) 0 0 0 0 91
  rw [show ((w.alloc (scells b ls.length cap tx ty)).alloc (pcells p q r s)).heap.size = w.heap.size + 1 + 1 by simp] at R
  have Q := (Own4.box (w.alloc (scells b ls.length cap tx ty)) p q r s 91).next (below_box _ (pcells 0 0 0 0))
  rw [show (w.alloc (scells b ls.length cap tx ty)).heap.size = w.heap.size + 1 by simp] at Q
  have P := ((AtA.box w (.slice (some ⟨b, 0, none⟩) ls.length cap) (.int .i64 tx) (.int .i64 ty) 88).alloc (pcells p q r s)).alloc (pcells 0 0 0 0)
  have HFI := Lib.hid (FollowI.mk P Q R)
  have HT := Lib.hid ht
  have HC := Lib.hid hc
  have HI := Lib.hid (show Is4 (flJ ls lo hi js tx ty 0) p q r s from h4j)
  have HF := Lib.hid (fun m => flJ_ok tx ty hok m)
  clear R P Q ht hc hok h4j
  go_enter Tryd.func83, Tryd.ntmps83
  go_wp2
  generalize ((w.alloc (scells b ls.length cap tx ty)).alloc (pcells p q r s)).alloc (pcells 0 0 0 0) = w0 at *
  go_loopw [9] (fun i wr => ∃ m : Nat, m ≤ st ∧ i = .int .i64 (m : Int) ∧ ∃ p' q' r' s' : Int, Hid (Is4 (flJ ls lo hi js tx ty m) p' q' r' s') ∧ Hid (FollowI w.heap.size wr (.slice (some ⟨b, 0, none⟩) ls.length cap) (.int .i64 tx) (.int .i64 ty) p' q' r' s') ∧ Hid (Below w.heap.size w wr)) (fun i _ => st - (intOf i).toNat)
  case atStart => exact ⟨0, Nat.zero_le _, rfl, p, q, r, s, HI, HFI, HB⟩
  case round =>
    obtain ⟨m, hm, rfl, a, c, d, f, HI1, HF1, HB1⟩ := hrel
    clear HI HFI HB
    obtain ⟨⟨_, s0, s1, s2, _, _, _⟩, ⟨⟨_, p0, p1, p2, p3⟩, y0, y1, y2, y3⟩, ⟨⟨_, r0, r1, r2, r3⟩, z0, z1, z2, z3⟩⟩ := HF1.out
    by_cases hlt : m < st
    · have j1 : (m : Int) < (st : Int) := by omega
      go_wp2_with fail
      refine (stepC b cap ls lo hi (flJ ls lo hi js tx ty m) tx ty a c d f _ HI1.out (HT.out.below HB1.out HT.out.lt) (HC.out.next HB1.out) (HF.out m)).mono ?_
      rintro e w2 ⟨a', c', d', f', HI2, rfl, B2⟩
      replace HI2 : Hid (Is4 (flJ ls lo hi js tx ty (m + 1)) a' c' d' f') := HI2
      have B3 := below_call B2 (below_box w2 (pcells a' c' d' f'))
      have HF3 := Lib.hid (HF1.out.next B3)
      have HB3 := Lib.hid (below_call HB1.out B3)
      have HQ3 := Lib.hid (At4.box w2 a' c' d' f' 91)
      clear s0 s1 s2 p0 p1 p2 p3 y0 y1 y2 y3 r0 r1 r2 r3 z0 z1 z2 z3 B2 B3 HF1 HB1
      obtain ⟨⟨_, s0, s1, s2, _, _, _⟩, ⟨⟨_, p0, p1, p2, p3⟩, y0, y1, y2, y3⟩, ⟨⟨_, r0, r1, r2, r3⟩, z0, z1, z2, z3⟩⟩ := HF3.out
      obtain ⟨_, q0, q1, q2, q3⟩ := HQ3.out
      by_cases he : a' = a ∧ c' = c ∧ d' = d ∧ f' = f
      · have heq : ∀ u, (Op.equalIn 10000 91 (.agg #[.int .i64 a', .int .i64 c', .int .i64 d', .int .i64 f']) (.agg #[.int .i64 a, .int .i64 c, .int .i64 d, .int .i64 f])).run Tryd.prog u = .ok true u := fun u => by rw [eq4, decide_eq_true he]
        have HEQ := Lib.hid (show Is4 (flJ ls lo hi js tx ty st) a c d f by
          have h1 := HI1.out
          have h2 := HI2.out
          rw [he.1, he.2.1, he.2.2.1, he.2.2.2] at h2
          have h3 : flJ ls lo hi js tx ty (m + 1) = flJ ls lo hi js tx ty m := is4_eq h2 h1 (by rw [flJ_len, flJ_len]) (by rw [flJ_len]; have := (HF.out 0).1.2.1; have h5 := (HF.out 0).2.1; rw [flJ_len] at h5; omega)
          have h4 := followM_stays (okJoints ls lo hi) (distV ls tx ty) (js := js) m (st - m) h3
          rw [show m + (st - m) = st by omega] at h4
          show Is4 (followM (okJoints ls lo hi) (distV ls tx ty) js st) a c d f
          rw [h4]
          exact h1)
        have HE := Lib.hid (below_set4 HB3.out (show w.heap.size ≤ w.heap.size + 1 + 1 by omega) (.int .i64 a) (.int .i64 c) (.int .i64 d) (.int .i64 f))
        clear he
        go_wp2
        exact bodyPost_ret (v := pv4 a c d f) (by simp [results, Tryd.results83, go_sem, r0, r1, r2, r3]) rfl ⟨a, c, d, f, HEQ, rfl, HE.out⟩
      · have heq : ∀ u, (Op.equalIn 10000 91 (.agg #[.int .i64 a', .int .i64 c', .int .i64 d', .int .i64 f']) (.agg #[.int .i64 a, .int .i64 c, .int .i64 d, .int .i64 f])).run Tryd.prog u = .ok false u := fun u => by rw [eq4, decide_eq_false he]
        have HF4 := Lib.hid (HF3.out.set a' c' d' f')
        have HB4 := Lib.hid (below_set4 HB3.out (show w.heap.size ≤ w.heap.size + 1 by omega) (.int .i64 a') (.int .i64 c') (.int .i64 d') (.int .i64 f'))
        clear he
        go_wp2
        go_roundw
        case rel => exact ⟨m + 1, by omega, by congr 1, a', c', d', f', HI2, HF4, HB4⟩
        case measure => simp [intOf]; omega
    · obtain rfl : m = st := by omega
      have j1 : ¬ (m : Int) < (m : Int) := by omega
      have HE := Lib.hid (below_set4 HB1.out (show w.heap.size ≤ w.heap.size + 1 + 1 by omega) (.int .i64 a) (.int .i64 c) (.int .i64 d) (.int .i64 f))
      go_wp2
      exact bodyPost_ret (v := pv4 a c d f) (by simp [results, Tryd.results83, go_sem, r0, r1, r2, r3]) rfl ⟨a, c, d, f, HI1, rfl, HE.out⟩
set_option maxHeartbeats 4000000 in
theorem implFollowPoint (x y z j : Sl) (ls lo hi js : List Int) (tx ty st : Int) (w : World) (ht : TabAt w) (hx : IntsAt w x.a x.len ls) (hy : IntsAt w y.a y.len lo) (hz : IntsAt w z.a z.len hi) (hj : IntsAt w j.a j.len js) (bx : x.len ≤ 9223372036854775807) (b_y : y.len ≤ 9223372036854775807) (bz : z.len ≤ 9223372036854775807) (bj : j.len ≤ 9223372036854775807) :
    Calls Tryd.prog 49 #[av x y z, .slice j.a j.len j.cap, pt tx ty, .int .i64 st] w (Rowed (followV ls lo hi js tx ty st) w) := by
  obtain ⟨xa, xl, xc⟩ := x
  obtain ⟨ya, yl, yc⟩ := y
  obtain ⟨za, zl, zc⟩ := z
  obtain ⟨ja, jl, jc⟩ := j
  simp only at *
  have Q := AtP.box (w.alloc (.cells #[.slice xa xl xc, .slice ya yl yc, .slice za zl zc] 25)) tx ty 35
  rw [show (w.alloc (.cells #[.slice xa xl xc, .slice ya yl yc, .slice za zl zc] 25)).heap.size = w.heap.size + 1 by simp] at Q
  have HB := Lib.hid (below_box2 w (.cells #[.slice xa xl xc, .slice ya yl yc, .slice za zl zc] 25) (.cells #[.int .i64 tx, .int .i64 ty] 35))
  have HT := Lib.hid ht
  replace hx := hx.next HB.out
  replace hy := hy.next HB.out
  replace hz := hz.next HB.out
  replace hj := hj.next HB.out
  clear ht
  go_enter Tryd.func49, Tryd.ntmps49
  go_wp2_with fail
  refine (chainOf ⟨xa, xl, xc⟩ ⟨ya, yl, yc⟩ ⟨za, zl, zc⟩ ls lo hi _ hx hy hz bx b_y bz).mono ?_
  generalize (w.alloc (.cells #[.slice xa xl xc, .slice ya yl yc, .slice za zl zc] 25)).alloc (.cells #[.int .i64 tx, .int .i64 ty] 35) = w0 at *
  rintro e w1 ⟨B1, ⟨hok, b, rfl, _, hc⟩ | ⟨hok, rfl⟩⟩
  · have HB1 := Lib.hid (below_call HB.out B1)
    have Q1 := Q.next B1
    have hj1 := hj.next B1
    clear B1 hx hy hz hj Q
    go_wp2_with fail
    refine (allows b _ ⟨ja, jl, jc⟩ ls lo hi js _ hc hok hj1 bj).mono ?_
    by_cases hv : okJoints ls lo hi js
    · rw [decide_eq_true hv]
      rintro e w2 ⟨rfl, B2⟩
      have HB2 := Lib.hid (below_call HB1.out B2)
      have Q2 := Q1.next B2
      have HC2 := Lib.hid (hc.next B2)
      have HJ2 := Lib.hid (hj1.next B2)
      obtain ⟨_, q0, q1⟩ := id Q2
      clear B2 Q1 hc hj1 HB1
      go_wp2_with fail
      by_cases hp : okP tx ty
      · refine (validY tx ty _ hp).mono ?_
        rintro e w3 ⟨rfl, B3⟩
        have HB3 := Lib.hid (below_call HB2.out B3)
        have HC3 := Lib.hid (HC2.out.next B3)
        have HJ3 := Lib.hid (HJ2.out.next B3)
        obtain ⟨_, q2, q3⟩ := Q2.next B3
        clear B3 q0 q1 HB2 HC2 HJ2 Q2
        by_cases hs : 0 ≤ st ∧ st ≤ 500
        · obtain ⟨sn, rfl⟩ : ∃ sn : Nat, st = (sn : Int) := ⟨st.toNat, by omega⟩
          have HV := Lib.hid (followV_in ⟨hv, hp, hs⟩)
          have t1 : decide ((sn : Int) < 0) = false := decide_eq_false (by omega)
          have t2 : decide (500 < (sn : Int)) = false := decide_eq_false (by omega)
          have n1 : 1 ≤ ls.length := hok.1
          have n2 : ls.length ≤ 4 := hok.2.1
          have HL := Lib.hid (show js.length = ls.length from hv.2.1)
          have HJL := Lib.hid (show jl = js.length from HJ3.out.1)
          have HOV := Lib.hid hv
          have SB := AtA.box w3 (.slice (some ⟨b, 0, none⟩) ls.length ls.length) (.int .i64 tx) (.int .i64 ty) 88
          have HB4 := Lib.hid (below_call HB3.out (below_box w3 (scells b ls.length ls.length tx ty)))
          have HC4 := Lib.hid (HC3.out.next (below_box w3 (scells b ls.length ls.length tx ty)))
          have HJ4 := Lib.hid (HJ3.out.next (below_box w3 (scells b ls.length ls.length tx ty)))
          have HFE := Lib.hid (show followV ls lo hi js tx ty (sn : Int) = flJ ls lo hi js tx ty sn by rw [HV.out]; rfl)
          have hs5 : sn ≤ 500 := by omega
          clear hok hv hp hs
          go_wp2
          generalize w3.alloc (scells b ls.length ls.length tx ty) = w4 at *
          have gg : Below w4.heap.size w4 w4 := Below.refl _ _
          obtain ⟨p, q, r, s, h4⟩ : ∃ p q r s, Is4 js p q r s := ⟨_, _, _, _, is4_self js⟩
          have HI := Lib.hid h4
          clear h4
          have HPO := Lib.hid (fun (u : World) (hu : Below w4.heap.size w4 u) => show Calls Tryd.prog 84 #[.slice ja jl jc] u fun e w' => e = .returned (pv4 p q r s) ∧ Below w4.heap.size w4 w' from
            (postureC ⟨ja, jl, jc⟩ js p q r s u HI.out (HJ4.out.next hu) (by have h1 := HL.out; have h2 := HJL.out; simp only; omega) (by have h1 := HL.out; have h2 := HJL.out; simp only; omega)).mono fun _ _ ⟨he, hb⟩ => ⟨he, below_call hu hb⟩)
          have HFO := Lib.hid (fun (u : World) (hu : Below w4.heap.size w4 u) => show Calls Tryd.prog 83 #[sv b ls.length ls.length tx ty, pv4 p q r s, .int .i64 (sn : Int)] u fun e w' => ∃ p' q' r' s', Hid (Is4 (flJ ls lo hi js tx ty sn) p' q' r' s') ∧ e = .returned (pv4 p' q' r' s') ∧ Below w4.heap.size w4 w' from
            (followC b ls.length ls lo hi js tx ty p q r s sn u HI.out (HT.out.below (below_call HB4.out hu) HT.out.lt) (HC4.out.next hu) HOV.out hs5).mono fun _ _ ⟨p', q', r', s', h1, he, hb⟩ => ⟨p', q', r', s', h1, he, below_call hu hb⟩)
          have HRC := Lib.hid (fun (p' q' r' s' : Int) (h4 : Hid (Is4 (flJ ls lo hi js tx ty sn) p' q' r' s')) (u : World) (hu : Below w4.heap.size w4 u) => show Calls Tryd.prog 73 #[sv b ls.length ls.length tx ty, pv4 p' q' r' s'] u fun e w' => ∃ s : Sl, e = .returned (.slice s.a s.len s.cap) ∧ Hid (OwnI w' u.heap.size (.slice s.a s.len s.cap) (flJ ls lo hi js tx ty sn) ∧ s.len = (flJ ls lo hi js tx ty sn).length ∧ Below u.heap.size u w') ∧ Below w4.heap.size w4 w' by
            have h := resultC b ls.length (flJ ls lo hi js tx ty sn) tx ty p' q' r' s' u h4.out (by rw [flJ_len, HL.out]; exact n1) (by rw [flJ_len, HL.out]; exact n2)
            rw [show (flJ ls lo hi js tx ty sn).length = ls.length by rw [flJ_len, HL.out]] at h
            exact h.mono fun _ _ ⟨s, he, h1, h2, h3⟩ => ⟨s, he, Lib.hid ⟨h1, h2, h3⟩, below_call hu h3⟩)
          clear n1 n2 hs5
          go_region_held3 (fun u => u.cell? ⟨w3.heap.size, 0, none⟩ = some (.slice (some ⟨b, 0, none⟩) ls.length ls.length) ∧ u.cell? ⟨w3.heap.size, 1, none⟩ = some (.int .i64 tx) ∧ u.cell? ⟨w3.heap.size, 2, none⟩ = some (.int .i64 ty)) (exact keepSv (by repeat (first | (with_reducible assumption) | (with_reducible apply Below.drew))) SB) (first
            | (go_at_call 84
               (with_reducible refine (HPO.out _ (by repeat (first | (with_reducible assumption) | (with_reducible apply Below.drew)))).mono ?_)
               rintro e w5 ⟨rfl, K5⟩)
            | (go_at_call 83
               (with_reducible refine (HFO.out _ (by repeat (first | (with_reducible assumption) | (with_reducible apply Below.drew)))).mono ?_)
               rintro e w6 ⟨a, c, d, f, HI6, rfl, K6⟩)
            | (go_at_call 73
               (with_reducible refine (HRC.out _ _ _ _ HI6 _ (by repeat (first | (with_reducible assumption) | (with_reducible apply Below.drew)))).mono ?_)
               rintro e w7 ⟨s7, rfl, H7, K7⟩)
            | fail)
          have HW6 := Lib.hid (below_call HB4.out K6)
          clear K5 K6 K7 gg
          go_wp2
          go_ret
          exact ⟨s7, rfl, by rw [HFE.out]; exact H7.out.1.mono HW6.out.size, by rw [HFE.out]; exact H7.out.2.1, below_call HW6.out H7.out.2.2⟩
        · have HV := Lib.hid (followV_out fun h => hs h.2.2 : followV ls lo hi js tx ty st = [])
          by_cases h0 : st < 0
          · have t1 : decide (st < 0) = true := decide_eq_true h0
            clear hs
            go_wp2
            go_ret
            rw [HV.out]
            exact rowed_none HB3.out
          · have t1 : decide (st < 0) = false := decide_eq_false h0
            have t2 : decide (500 < st) = true := decide_eq_true (by omega)
            clear hs
            go_wp2
            go_ret
            rw [HV.out]
            exact rowed_none HB3.out
      · have HV := Lib.hid (followV_out fun h => hp h.2.1 : followV ls lo hi js tx ty st = [])
        refine (validN tx ty _ hp).mono ?_
        rintro e w3 ⟨rfl, B3⟩
        have HB3 := Lib.hid (below_call HB2.out B3)
        clear B3 q0 q1 HB2 HC2 HJ2 Q2
        go_wp2
        go_ret
        rw [HV.out]
        exact rowed_none HB3.out
    · have HV := Lib.hid (followV_out fun h => hv h.1 : followV ls lo hi js tx ty st = [])
      rw [decide_eq_false hv]
      rintro e w2 ⟨rfl, B2⟩
      have HB2 := Lib.hid (below_call HB1.out B2)
      clear B2 Q1 hc hj1 HB1
      go_wp2
      go_ret
      rw [HV.out]
      exact rowed_none HB2.out
  · have HV := Lib.hid (followV_out fun h => hok h.1.1 : followV ls lo hi js tx ty st = [])
    have HB1 := Lib.hid (below_call HB.out B1)
    clear B1 hx hy hz hj Q hok
    go_wp2_with fail
    refine (allowsNil ⟨ja, jl, jc⟩ _).mono ?_
    rintro e w' ⟨rfl, rfl⟩
    go_wp2
    go_ret
    rw [HV.out]
    exact rowed_none HB1.out
theorem stepsV_follow (ls lo hi js : List Int) (tx ty : Int) : followV ls lo hi js tx ty 1 = stepsV ls lo hi js tx ty := by
  by_cases h : okJoints ls lo hi js ∧ okP tx ty
  · rw [stepsV_in h, followV_in ⟨h.1, h.2, by omega, by omega⟩]; rfl
  · rw [followV_out fun k => h ⟨k.1, k.2.1⟩]
    unfold stepsV
    rw [if_neg h]
theorem implStepJoints (x y z j : Sl) (ls lo hi js : List Int) (tx ty : Int) (w : World) (ht : TabAt w) (hx : IntsAt w x.a x.len ls) (hy : IntsAt w y.a y.len lo) (hz : IntsAt w z.a z.len hi) (hj : IntsAt w j.a j.len js) (bx : x.len ≤ 9223372036854775807) (b_y : y.len ≤ 9223372036854775807) (bz : z.len ≤ 9223372036854775807) (bj : j.len ≤ 9223372036854775807) :
    Calls Tryd.prog 45 #[av x y z, .slice j.a j.len j.cap, pt tx ty] w (Rowed (stepsV ls lo hi js tx ty) w) := by
  obtain ⟨xa, xl, xc⟩ := x
  obtain ⟨ya, yl, yc⟩ := y
  obtain ⟨za, zl, zc⟩ := z
  obtain ⟨ja, jl, jc⟩ := j
  simp only at *
  have HB := Lib.hid (below_box2 w (.cells #[.slice xa xl xc, .slice ya yl yc, .slice za zl zc] 25) (.cells #[.int .i64 tx, .int .i64 ty] 35))
  go_enter Tryd.func45, Tryd.ntmps45
  go_wp2_with fail
  refine (implFollowPoint ⟨xa, xl, xc⟩ ⟨ya, yl, yc⟩ ⟨za, zl, zc⟩ ⟨ja, jl, jc⟩ ls lo hi js tx ty 1 _ (ht.below HB.out ht.lt) (hx.next HB.out) (hy.next HB.out) (hz.next HB.out) (hj.next HB.out) bx b_y bz bj).mono ?_
  rw [stepsV_follow]
  generalize (w.alloc (.cells #[.slice xa xl xc, .slice ya yl yc, .slice za zl zc] 25)).alloc (.cells #[.int .i64 tx, .int .i64 ty] 35) = w0 at *
  rintro e w1 ⟨s1, rfl, O1, l1, B1⟩
  have HR := Lib.hid (show Rowed (stepsV ls lo hi js tx ty) w (.returned (.slice s1.a s1.len s1.cap)) w1 from ⟨s1, rfl, O1.mono HB.out.size, l1, below_call HB.out B1⟩)
  clear O1 l1 B1 hx hy hz hj ht
  go_wp2
  go_ret
  exact HR.out
end Go.Proofs.YtolkihibjabmhaaDoor
