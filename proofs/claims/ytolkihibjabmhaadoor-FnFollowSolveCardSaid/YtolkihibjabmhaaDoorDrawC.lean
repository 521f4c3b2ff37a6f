/- What l20Joints draws: angles for an arm. -/
import Derived.Test.YtolkihibjabmhaaDoorDrawO
import Derived.Outline
import Derived.Deep.CutBlock
namespace Go.Proofs.YtolkihibjabmhaaDoor
set_option maxRecDepth 100000
open Go.RowKit
attribute [local go_sem ↓] Go.wp_at_zero Go.wp_at_succ
/-- What a draw of angles says. -/
def DrawnJ (B M r : Nat) (w : World) (e : Ending) (w' : World) : Prop :=
  ∃ (s : Sl) (js : List Int), e = .returned (.slice s.a s.len s.cap) ∧ IntsFrom w' w.heap.size s.a s.len js ∧ s.len ≤ 5 ∧ s.len ≤ s.cap ∧ Rd B M w' r ∧ w.grownBy w' (some r)
/-- What the draw holds: the reader, the arm's box, the row of the angles. -/
structure JSt (w0 : World) (B M r : Nat) (u : World) (x y z v : Value) (js : List Int) : Prop where
  rd : Rd B M u r
  gr : w0.grownBy u (some r)
  arm : AtA u w0.heap.size x y z
  own : OwnI u (w0.heap.size + 1) v js
theorem JSt.drew {w0 u : World} {B M r : Nat} {x y z v : Value} {js : List Int} (h : JSt w0 B M r u x y z v js) : JSt w0 B M r u.drew x y z v js :=
  ⟨h.rd.drew, only_drew h.gr, h.arm.next (below_drew' u), h.own.next (below_drew' u)⟩
theorem JSt.alloc {w0 u : World} {B M r : Nat} {x y z v : Value} {js : List Int} (h : JSt w0 B M r u x y z v js) (o : Obj) : JSt w0 B M r (u.alloc o) x y z v js :=
  ⟨h.rd.alloc o, only_alloc h.gr o, h.arm.alloc o, h.own.next (below_box u o)⟩
theorem JSt.pick {w0 u u' : World} {B M r : Nat} {x y z v : Value} {js : List Int} (h : JSt w0 B M r u x y z v js) (hr : Rd B (M + 1) u' r) (hg : u.grownBy u' (some r)) (hlt : r < w0.heap.size) : JSt w0 B (M + 1) r u' x y z v js :=
  ⟨hr, h.gr.trans hg, h.arm.kept hg (by simp; omega), h.own.row hg (h.own.past (by omega))⟩
theorem JSt.app {w0 u w3 : World} {B M r g n cap : Nat} {x y z v : Value} {js js' : List Int} (h : JSt w0 B M r u x y z v js) (hlt : r < w0.heap.size) (hB : B ≤ w0.heap.size) (a : App u w3 (w0.heap.size + 1) v js' g n cap) :
    JSt w0 B M r w3 x y z (.slice (some ⟨g, 0, none⟩) n cap) js' := by
  have ho := fun k hk => a.old h.own k hk
  exact ⟨h.rd.kept a.grow (fun e => by have := ho r e.symm; omega) (fun k hk => by have := ho k hk; omega), only_row h.gr a.grow (fun k hk => by have := ho k hk; omega), h.arm.row h.own a.grow (by omega), a.owns.2⟩
theorem JSt.put {w0 u : World} {B M r g n cap p : Nat} {x y z : Value} {js : List Int} (h : JSt w0 B M r u x y z (.slice (some ⟨g, 0, none⟩) n cap) js) (hlt : r < w0.heap.size) (hB : B ≤ w0.heap.size) (t : Int) :
    JSt w0 B M r (u.setCell ⟨g, p, none⟩ (.int .i64 t)) x y z (.slice (some ⟨g, 0, none⟩) n cap) (js.set p t) := by
  have hg := (World.ownsRow.lt h.own g rfl).1
  have hn : n = js.length := h.own.ints.1
  subst hn
  have hs := World.ownsRow.stored h.own p (.int .i64 t)
  refine ⟨h.rd.set' (by omega) (by omega) _, only_set' h.gr (by omega) _, h.arm.far (by omega) _, ?_⟩
  unfold OwnI
  rw [List.length_set, ← vals_set]
  exact hs.1
theorem JSt.base {w0 u : World} {B M r : Nat} {x y z v : Value} {js : List Int} (h : JSt w0 B M r u x y z v js) : w0.heap.size + 1 ≤ u.heap.size := by have := h.arm.lt; omega
theorem JSt.start (w : World) (B M r : Nat) (hr : Rd B M w r) (x y z : Value) (t : Nat) :
    JSt w B M r ((w.alloc (.cells #[x, y, z] t)).alloc (.cells #[] 3)) x y z (.slice (some ⟨w.heap.size + 1, 0, none⟩) 0 0) [] := by
  refine ⟨(hr.alloc _).alloc _, only_alloc (only_alloc (World.grownBy.refl w (some r)) _) _, (AtA.box w x y z t).alloc _, ?_⟩
  have := World.ownsRow_lit (base := w.heap.size + 1) (e := 3) (size := 1) (w.alloc (.cells #[x, y, z] t)) #[] 0 (by simp) (Nat.zero_le _) rfl
  simpa [OwnI] using this
theorem JSt.done {w0 u : World} {B M M' r : Nat} {x y z v : Value} {js : List Int} (h : JSt w0 B M r u x y z v js) (hM : M ≤ M') (hl : js.length ≤ 5) (e : Ending) (he : e = .returned v) : DrawnJ B M' r w0 e u := by
  obtain ⟨s, rfl, e1, e2⟩ := OwnI.slv h.own
  exact ⟨s, js, he, h.own.from.down (by omega), by omega, e2, h.rd.mono hM, h.gr⟩
theorem JSt.cut {w0 u : World} {B M M' r g n cap c : Nat} {x y z : Value} {js : List Int} (h : JSt w0 B M r u x y z (.slice (some ⟨g, 0, none⟩) n cap) js) (hM : M ≤ M') (hn : 1 ≤ n) (a : Option Addr) (ha : n = 1 ∨ a = some ⟨g, 1, none⟩) (hc : n - 1 ≤ c) (hl : js.length ≤ 5) (e : Ending) (he : e = .returned (.slice a (n - 1) c)) : DrawnJ B M' r w0 e u := by
  have hz := h.own.ints.1
  exact ⟨⟨a, n - 1, c⟩, js.tail, he, (h.own.tail_from hn a ha).down (by omega), by simp only; omega, hc, h.rd.mono hM, h.gr⟩
theorem JSt.own' {w0 u : World} {B M r g n cap : Nat} {x y z : Value} {js : List Int} (h : JSt w0 B M r u x y z (.slice (some ⟨g, 0, none⟩) n cap) js) : u.ownsRow (w0.heap.size + 1) 3 1 (.slice (some ⟨g, 0, none⟩) n cap) n (vals js) := by
  have hn : n = js.length := h.own.ints.1
  subst hn
  exact h.own
/-- An element of a list that lies below the draw. -/
theorem IntsFrom.cellAt {w u : World} {base len r j : Nat} {a : Option Addr} {zs : List Int} (h : IntsFrom w base a len zs) (hg : w.grownBy u (some r)) (hr : r < base) (hj : j < len) : ∃ b off, a = some ⟨b, off, none⟩ ∧ base ≤ b ∧ b < w.heap.size ∧ u.cell? ⟨b, off + j, none⟩ = some (.int .i64 (zs.getD j 0)) := by
  have hk := h.kept hg (fun k hk => by injection hk with hk; omega)
  rcases h.2 with h2 | ⟨b, off, h1, h2, h3, h4⟩
  · have := h.1; rw [h2] at this; simp at this; omega
  · rcases hk.2 with k2 | ⟨b', off', k1, k2, k3, k4⟩
    · have := hk.1; rw [k2] at this; simp at this; omega
    · rw [h1] at k1; simp at k1
      obtain ⟨rfl, rfl⟩ := k1
      exact ⟨b, off, h1, h2, h3, k4 j (by rw [← h.1]; exact hj)⟩
set_option maxHeartbeats 4000000 in
set_option maxRecDepth 100000 in
theorem l20Joints (B M r : Nat) (n : Int) (x y z : Sl) (ls lo hi : List Int) (w : World) (hr : Rd B M w r) (hM : M ≤ 900000) (hn0 : 0 < n) (hn1 : n ≤ 1000000)
    (hx : IntsFrom w (r + 1) x.a x.len ls) (hy : IntsFrom w (r + 1) y.a y.len lo) (hz : IntsFrom w (r + 1) z.a z.len hi) (lx : x.len ≤ 5) (ly : y.len ≤ 4) (lz : z.len ≤ 4) (ty : Sm 2000 lo) (tz : Sm 2000 hi) :
    Calls Tryd.prog 55 #[.pointer (some ⟨r, 0, none⟩), av x y z, .int .i64 n] w (DrawnJ B (M + 16) r w) := by
  obtain ⟨i0, hi0, hz0, hz1, hz2⟩ := info_parts infoInt
  obtain ⟨xa, xl, xc⟩ := x
  obtain ⟨ya, yl, yc⟩ := y
  obtain ⟨za, zl, zc⟩ := z
  simp only at *
  have hrlt := hr.lt
  have hrge := hr.ge
  have S0 := JSt.start w B M r hr (.slice xa xl xc) (.slice ya yl yc) (.slice za zl zc) 25
  have HY := Lib.hid hy
  have HZ := Lib.hid hz
  have HT := Lib.hid (And.intro ty tz)
  clear hr hx hy hz ty tz
  go_enter Tryd.func55, Tryd.ntmps55
  go_upto_block 0 with fail
  generalize (w.alloc (.cells #[.slice xa xl xc, .slice ya yl yc, .slice za zl zc] 25)).alloc (.cells #[] 3) = u0 at *
  go_cut [7] (fun v wx => ∃ (k : Nat) (js : List Int), Hid (JSt w B (M + k) r wx (.slice xa xl xc) (.slice ya yl yc) (.slice za zl zc) v js) ∧ Hid (js.length = k) ∧ k ≤ yl ∧ k ≤ zl)
  case first =>
    go_wp2_with fail
    go_loopw [7, 8] (fun v i wr => ∃ (k : Nat) (js : List Int), i = .int .i64 (k : Int) ∧ Hid (JSt w B (M + k) r wr (.slice xa xl xc) (.slice ya yl yc) (.slice za zl zc) v js) ∧ Hid (js.length = k) ∧ k ≤ yl ∧ k ≤ zl) (fun _ i _ => yl - (intOf i).toNat)
    case atStart => exact ⟨0, [], rfl, Lib.hid S0, Lib.hid rfl, Nat.zero_le _, Nat.zero_le _⟩
    case round =>
      obtain ⟨k, js, rfl, HS, HL, ky, kz⟩ := hrel
      obtain ⟨_, c0, c1, c2, _, _, _⟩ := id HS.out.arm
      clear S0
      by_cases h1 : k < xl
      · by_cases h2 : k < yl
        · by_cases h3 : k < zl
          · obtain ⟨b2, o2, rfl, _, lt2, HC2⟩ : ∃ b off, ya = some ⟨b, off, none⟩ ∧ r + 1 ≤ b ∧ b < w.heap.size ∧ Hid (∀ u : World, w.grownBy u (some r) → u.cell? ⟨b, off + k, none⟩ = some (.int .i64 (lo.getD k 0))) := by
              obtain ⟨b, off, e1, e2, e3, _⟩ := HY.out.cellAt HS.out.gr (by omega) h2
              refine ⟨b, off, e1, e2, e3, Lib.hid fun u hu => ?_⟩
              obtain ⟨b', off', f1, f2, f3, f4⟩ := HY.out.cellAt hu (by omega) h2
              rw [e1] at f1; simp at f1
              obtain ⟨rfl, rfl⟩ := f1
              exact f4
            obtain ⟨b3, o3, rfl, _, lt3, HC3⟩ : ∃ b off, za = some ⟨b, off, none⟩ ∧ r + 1 ≤ b ∧ b < w.heap.size ∧ Hid (∀ u : World, w.grownBy u (some r) → u.cell? ⟨b, off + k, none⟩ = some (.int .i64 (hi.getD k 0))) := by
              obtain ⟨b, off, e1, e2, e3, _⟩ := HZ.out.cellAt HS.out.gr (by omega) h3
              refine ⟨b, off, e1, e2, e3, Lib.hid fun u hu => ?_⟩
              obtain ⟨b', off', f1, f2, f3, f4⟩ := HZ.out.cellAt hu (by omega) h3
              rw [e1] at f1; simp at f1
              obtain ⟨rfl, rfl⟩ := f1
              exact f4
            obtain ⟨t1, t2⟩ := HT.out.1 k
            obtain ⟨t3, t4⟩ := HT.out.2 k
            have HQ := Lib.hid (fun (u : World) (M' : Nat) (v : Value) (js' : List Int) (S : JSt w B M' r u (.slice xa xl xc) (.slice (some ⟨b2, o2, none⟩) yl yc) (.slice (some ⟨b3, o3, none⟩) zl zc) v js') => And.intro S.arm.c1 (And.intro S.arm.c2 (And.intro (HC2.out u S.gr) (HC3.out u S.gr))))
            generalize lo.getD k 0 = o at *
            generalize hi.getD k 0 = h at *
            have j1 : (0 : Int) ≤ (k : Int) := by omega
            have j2 : (k : Int) < (yl : Int) := by omega
            have j3 : (k : Int) < (zl : Int) := by omega
            have w1 : IntKind.i64.wrap (h - o) = h - o := IntWalk.i64_in _ (by omega)
            have w2 : IntKind.i64.wrap (h - o + 1) = h - o + 1 := IntWalk.i64_in _ (by omega)
            have Sd := HS.out.drew
            have k1 := HQ.out _ _ _ _ Sd
            have hMk : M + k ≤ 1000000 := by omega
            have hBw : B ≤ w.heap.size := by omega
            have HL1 := Lib.hid (show js.length + 1 ≤ maxLen by rw [HL.out]; unfold maxLen; omega)
            have HL2 := Lib.hid (show (js.length + 1) * 8 ≤ 140737488355328 by rw [HL.out]; omega)
            go_wp2
            obtain ⟨mx, hif, m1, m2⟩ : ∃ mx : Int, (if 1 < h - o + 1 then h - o + 1 else 1) = mx ∧ 1 ≤ mx ∧ mx ≤ 4500 := ⟨_, rfl, by split <;> omega, by split <;> omega⟩
            go_region_held3 (fun u => u.cell? ⟨w.heap.size, 1, none⟩ = some (.slice (some ⟨b2, o2, none⟩) yl yc) ∧ u.cell? ⟨w.heap.size, 2, none⟩ = some (.slice (some ⟨b3, o3, none⟩) zl zc) ∧ u.cell? ⟨b2, o2 + k, none⟩ = some (.int .i64 o) ∧ u.cell? ⟨b3, o3 + k, none⟩ = some (.int .i64 h)) (first | exact k1 | exact k2 | exact k3 | exact k4) (first
              | (go_at_call 54
                 (with_reducible refine (pick B (M + k) r mx _ Sd.rd hMk).mono ?_)
                 rintro e w1 ⟨p, a1, b1, rfl, hr1, hg1, hs1⟩
                 have b2' : p < 4500 := by have := b1 (by omega); omega
                 have S1 := Sd.pick hr1 hg1 hrlt
                 have HSa := Lib.hid (S1.alloc (.cells #[.int .i64 (o + p)] 3))
                 have k2 := HQ.out _ _ _ _ S1
                 have k3 := HQ.out _ _ _ _ HSa.out
                 have HN := Lib.hid (cell_one_new' w1 (.int .i64 (o + p)) 3)
                 have HH := Lib.hid HSa.out.base
                 have w3 : IntKind.i64.wrap (o + p) = o + p := IntWalk.i64_in _ (by omega)
                 clear b1 hs1 hr1 hg1)
              | (refine step_append_lies _ rfl (.tmp 32) (.tmp 54) 23 rfl (w.heap.size + 1) 3 i0 (.int .i64 0) 1 8 Tryd.underlying23 hi0 hz0 hz1 hz2 rfl (by decide) _ js.length (vals js) rfl HSa.out.own ⟨w1.heap.size, 0, none⟩ 1 1 [.int .i64 (o + p)] rfl rfl HN.out (by intro u hu; simp at hu; subst hu; rfl) Nat.one_pos HL1.out HL2.out HH.out _ rfl ?_
                 intro g cap w3 own3 grow3 at3 ltg
                 have HA3 : Hid (App (w1.alloc (.cells #[.int .i64 (o + p)] 3)) w3 (w.heap.size + 1) u7 (js ++ [o + p]) g (js.length + 1) cap) := Lib.hid ⟨by rw [vals_snoc]; exact own3, grow3, at3⟩
                 have HS3 := Lib.hid (HSa.out.app hrlt hBw HA3.out)
                 have k4 := HQ.out _ _ _ _ HS3.out
                 clear own3 grow3 at3 ltg)
              | fail)
            all_goals
              go_wp2
              go_roundw
              case rel => exact ⟨k + 1, js ++ [o + p], by congr 1, HS3, Lib.hid (by simp [HL.out]), by omega, by omega⟩
              case measure => simp [intOf]; omega
          · have hb : decide (k < zl) = false := decide_eq_false h3
            go_wp2
            go_meet
            exact ⟨k, js, HS, HL, ky, kz⟩
        · have hb : decide (k < yl) = false := decide_eq_false h2
          go_wp2
          go_meet
          exact ⟨k, js, HS, HL, ky, kz⟩
      · have hb : decide (k < xl) = false := decide_eq_false h1
        go_wp2
        go_meet
        exact ⟨k, js, HS, HL, ky, kz⟩
  case rest =>
    obtain ⟨k, js, HS, HL, ky, kz⟩ := hcut
    clear S0
    by_cases hk0 : 1 ≤ k
    · obtain ⟨g, cap, rfl, hg, hc⟩ := HS.out.own.at (by rw [HL.out]; exact hk0)
      have HS' : Hid (JSt w B (M + k) r wc (.slice xa xl xc) (.slice ya yl yc) (.slice za zl zc) (.slice (some ⟨g, 0, none⟩) k cap) js) := Lib.hid (by have h := HS.out; rw [HL.out] at h; exact h)
      have hc' : k ≤ cap := by rw [← HL.out]; exact hc
      rw [HL.out]
      clear HS hc
      have h0 : 0 < k := hk0
      go_wp2_with fail
      refine (oddA B (M + k) r n _ HS'.out.rd (by omega) hn0 hn1).mono ?_
      rintro e w1 ⟨b, rfl, hr1, hg1, hs1⟩
      have HS1 := Lib.hid (HS'.out.pick hr1 hg1 hrlt)
      clear hr1 hg1 hs1 HS'
      cases b
      · go_wp2
        go_ret
        exact HS1.out.done (by omega) (by rw [HL.out]; omega) _ rfl
      · go_wp2_with fail
        refine (pick B (M + k + 1) r (k : Int) _ HS1.out.rd (by omega)).mono ?_
        rintro e w2 ⟨p, p0, p1, rfl, hr2, hg2, hs2⟩
        have p2 := p1 (by omega)
        have HS2 := Lib.hid (HS1.out.pick hr2 hg2 hrlt)
        clear hr2 hg2 hs2 HS1 p1
        go_wp2_with fail
        refine (pick B (M + k + 1 + 1) r 3 _ HS2.out.rd (by omega)).mono ?_
        rintro e w3 ⟨q, q0, q1, rfl, hr3, hg3, hs3⟩
        have q2 := q1 (by omega)
        have HS3 := Lib.hid (HS2.out.pick hr3 hg3 hrlt)
        clear hr3 hg3 hs3 HS2 q1
        obtain ⟨j, hj⟩ : ∃ j : Nat, p = (j : Int) := ⟨p.toNat, by omega⟩
        subst hj
        have j1 : (0 : Int) ≤ (j : Int) := by omega
        have j2 : (j : Int) < (k : Int) := by omega
        have hq : q = 0 ∨ q = 1 ∨ q = 2 := by omega
        clear q0 q2
        obtain ⟨_, c0, c1, c2, _, _, _⟩ := id HS3.out.arm
        have d0 := World.ownsRow.cellAt HS3.out.own' j (by omega)
        rw [List.getElem?_eq_getElem (by simp [vals, HL.out]; omega)] at d0
        have d1 := World.ownsRow.frozenAt HS3.out.own' j
        rcases hq with rfl | rfl | rfl
        · obtain ⟨b3, o3, rfl, _, lt3, e3⟩ := HZ.out.cellAt HS3.out.gr (by omega) (show j < zl by omega)
          have j3 : (j : Int) < (zl : Int) := by omega
          obtain ⟨t3, t4⟩ := HT.out.2 j
          have HD := Lib.hid (fun t => (HS3.out.put (p := j) hrlt (by omega) t).done (M' := M + 16) (by omega) (by rw [List.length_set, HL.out]; omega))
          generalize hi.getD j 0 = h at *
          go_wp2
          go_ret
          exact HD.out _ _ rfl
        · obtain ⟨b3, o3, rfl, _, lt3, e3⟩ := HY.out.cellAt HS3.out.gr (by omega) (show j < yl by omega)
          have j3 : (j : Int) < (yl : Int) := by omega
          obtain ⟨t3, t4⟩ := HT.out.1 j
          have HD := Lib.hid (fun t => (HS3.out.put (p := j) hrlt (by omega) t).done (M' := M + 16) (by omega) (by rw [List.length_set, HL.out]; omega))
          generalize lo.getD j 0 = h at *
          go_wp2
          go_ret
          exact HD.out _ _ rfl
        · have HD := Lib.hid (fun a c ha hc => HS3.out.cut (M' := M + 16) (c := c) (by omega) hk0 a ha hc (by rw [HL.out]; omega))
          clear d0 d1
          go_wp2
          all_goals
            go_ret
            first
              | exact HD.out _ (cap - 1) (.inr rfl) (by omega) _ rfl
              | exact HD.out (some ⟨g, 0, none⟩) 0 (.inl (by omega)) (by omega) _ rfl
    · obtain rfl : k = 0 := by omega
      obtain ⟨⟨sa, sl, sc⟩, rfl, e1, e2⟩ := OwnI.slv HS.out.own
      simp only at e1 e2
      obtain rfl : sl = 0 := by rw [e1]; exact HL.out
      have HD := Lib.hid (HS.out.done (M' := M + 16) (by omega) (by rw [HL.out]; omega))
      clear e1 e2 HS hk0
      go_wp2
      go_ret
      exact HD.out _ rfl
end Go.Proofs.YtolkihibjabmhaaDoor
