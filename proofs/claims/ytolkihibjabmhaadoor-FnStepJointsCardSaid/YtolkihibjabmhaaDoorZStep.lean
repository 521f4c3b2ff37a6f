/- Several of my texts in one: DrawD, DrawE, DrawF, WStepJoints. -/
import Derived.Test.YtolkihibjabmhaaDoorDrawC
import Derived.Test.YtolkihibjabmhaaDoorArm3b
import Derived.Test.YtolkihibjabmhaaDoorDraw3j
import Derived.Test.YtolkihibjabmhaaDoorDraw2
import Derived.Test.YtolkihibjabmhaaDoorEArmValid
import Derived.Test.YtolkihibjabmhaaDoorSp6
import Derived.Deep.RegionHeld3
import Derived.Deep.CutBlock
import Derived.Outline
import Derived.Test.YtolkihibjabmhaaDoorZIm
namespace Go.Proofs.YtolkihibjabmhaaDoor
set_option maxRecDepth 100000
open Go.RowKit
attribute [local go_sem ↓] Go.wp_at_zero Go.wp_at_succ
theorem odd0 (r : Nat) (w : World) : Calls Tryd.prog 70 #[.pointer (some ⟨r, 0, none⟩), .int .i64 0] w fun e w' => e = .returned (.bool false) ∧ w = w' := by
  go_enter Tryd.func70, Tryd.ntmps70
  go_wp2
  go_ret
  exact ⟨rfl, rfl⟩
/-- The first k angles are within their ranges, where these are not empty. -/
def InJ (lo hi js : List Int) (k : Nat) : Prop := ∀ i, i < k → lo.getD i 0 ≤ hi.getD i 0 → lo.getD i 0 ≤ js.getD i 0 ∧ js.getD i 0 ≤ hi.getD i 0
theorem inJ_snoc {lo hi js : List Int} {k : Nat} {p : Int} (hl : js.length = k) (h : InJ lo hi js k) (p0 : 0 ≤ p) (p1 : p < if 1 < hi.getD k 0 - lo.getD k 0 + 1 then hi.getD k 0 - lo.getD k 0 + 1 else 1) : InJ lo hi (js ++ [lo.getD k 0 + p]) (k + 1) := by
  intro i hi' hlo
  by_cases he : i < k
  · have e : (js ++ [lo.getD k 0 + p]).getD i 0 = js.getD i 0 := by
      rw [List.getD_eq_getElem?_getD, List.getElem?_append_left (by omega), ← List.getD_eq_getElem?_getD]
    rw [e]
    exact h i he hlo
  · obtain rfl : i = k := by omega
    have e : (js ++ [lo.getD i 0 + p]).getD i 0 = lo.getD i 0 + p := by
      rw [List.getD_eq_getElem?_getD, List.getElem?_append_right (by omega), hl, Nat.sub_self]; rfl
    rw [e]
    split at p1 <;> omega
theorem joints_in {ls lo hi js : List Int} {xl yl zl k : Nat} (hx : xl = ls.length) (hy : yl = lo.length) (hz : zl = hi.length) (hl : js.length = k) (hj : InJ lo hi js k) (hk : k = xl ∨ k = yl ∨ k = zl) (hok : okArm ls lo hi) : okJoints ls lo hi js := by
  have e1 := hok.2.2.1
  have e2 := hok.2.2.2.1
  have e : js.length = ls.length := by omega
  refine ⟨hok, e, fun i hi' => ?_⟩
  have h := hok.2.2.2.2 i (by omega)
  unfold okLink at h
  exact hj i (by omega) (by omega)
/-- What a draw of angles within their ranges says. -/
def DrawnJ0 (ls lo hi : List Int) (B M r : Nat) (w : World) (e : Ending) (w' : World) : Prop :=
  ∃ (s : Sl) (js : List Int), e = .returned (.slice s.a s.len s.cap) ∧ IntsFrom w' w.heap.size s.a s.len js ∧ (okArm ls lo hi → okJoints ls lo hi js) ∧ Rd B M w' r ∧ w.grownBy w' (some r)
theorem JSt.done0 {w0 u : World} {ls lo hi : List Int} {B M M' r : Nat} {x y z v : Value} {js : List Int} (h : JSt w0 B M r u x y z v js) (hM : M ≤ M') (ho : okArm ls lo hi → okJoints ls lo hi js) (e : Ending) (he : e = .returned v) : DrawnJ0 ls lo hi B M' r w0 e u := by
  obtain ⟨s, rfl, e1, e2⟩ := OwnI.slv h.own
  exact ⟨s, js, he, h.own.from.down (by omega), ho, h.rd.mono hM, h.gr⟩
set_option maxHeartbeats 4000000 in
set_option maxRecDepth 100000 in
theorem l20Joints0 (B M r : Nat) (x y z : Sl) (ls lo hi : List Int) (w : World) (hr : Rd B M w r) (hM : M ≤ 900000)
    (hx : IntsFrom w (r + 1) x.a x.len ls) (hy : IntsFrom w (r + 1) y.a y.len lo) (hz : IntsFrom w (r + 1) z.a z.len hi) (lx : x.len ≤ 5) (ly : y.len ≤ 4) (lz : z.len ≤ 4) (ty : Sm 2000 lo) (tz : Sm 2000 hi) :
    Calls Tryd.prog 55 #[.pointer (some ⟨r, 0, none⟩), av x y z, .int .i64 0] w (DrawnJ0 ls lo hi B (M + 16) r w) := by
  obtain ⟨i0, hi0, hz0, hz1, hz2⟩ := info_parts infoInt
  obtain ⟨xa, xl, xc⟩ := x
  obtain ⟨ya, yl, yc⟩ := y
  obtain ⟨za, zl, zc⟩ := z
  simp only at *
  have hrlt := hr.lt
  have hrge := hr.ge
  have S0 := JSt.start w B M r hr (.slice xa xl xc) (.slice ya yl yc) (.slice za zl zc) 25
  have HY := Lib.hid hy
  have HZ := Lib.hid hz
  have HT := Lib.hid (And.intro ty tz)
  have HFIN := Lib.hid (fun (js : List Int) (k : Nat) (hl : js.length = k) (hj : InJ lo hi js k) (hk : k ≤ xl ∧ (k = xl ∨ k = yl ∨ k = zl)) => joints_in (ls := ls) hx.1 hy.1 hz.1 hl hj hk.2)
  clear hr hx hy hz ty tz
  go_enter Tryd.func55, Tryd.ntmps55
  go_upto_block 0 with fail
  generalize (w.alloc (.cells #[.slice xa xl xc, .slice ya yl yc, .slice za zl zc] 25)).alloc (.cells #[] 3) = u0 at *
  go_cut [7] (fun v wx => ∃ (k : Nat) (js : List Int), Hid (JSt w B (M + k) r wx (.slice xa xl xc) (.slice ya yl yc) (.slice za zl zc) v js) ∧ Hid (js.length = k) ∧ k ≤ yl ∧ k ≤ zl ∧ Hid (InJ lo hi js k) ∧ Hid (k ≤ xl ∧ (k = xl ∨ k = yl ∨ k = zl)))
  case first =>
    go_wp2_with fail
    go_loopw [7, 8] (fun v i wr => ∃ (k : Nat) (js : List Int), i = .int .i64 (k : Int) ∧ Hid (JSt w B (M + k) r wr (.slice xa xl xc) (.slice ya yl yc) (.slice za zl zc) v js) ∧ Hid (js.length = k) ∧ k ≤ yl ∧ k ≤ zl ∧ Hid (InJ lo hi js k) ∧ Hid (k ≤ xl)) (fun _ i _ => yl - (intOf i).toNat)
    case atStart => exact ⟨0, [], rfl, Lib.hid S0, Lib.hid rfl, Nat.zero_le _, Nat.zero_le _, Lib.hid (fun _ h => absurd h (Nat.not_lt_zero _)), Lib.hid (Nat.zero_le _)⟩
    case round =>
      obtain ⟨k, js, rfl, HS, HL, ky, kz, HIJ, HKX⟩ := hrel
      obtain ⟨_, c0, c1, c2, _, _, _⟩ := id HS.out.arm
      clear S0
      by_cases h1 : k < xl
      · by_cases h2 : k < yl
        · by_cases h3 : k < zl
          · obtain ⟨b2, o2, rfl, _, lt2, HC2⟩ : ∃ b off, ya = some ⟨b, off, none⟩ ∧ r + 1 ≤ b ∧ b < w.heap.size ∧ Hid (∀ u : World, w.grownBy u (some r) → u.cell? ⟨b, off + k, none⟩ = some (.int .i64 (lo.getD k 0))) := by
              obtain ⟨b, off, e1, e2, e3, _⟩ := HY.out.cellAt HS.out.gr (by omega) h2
              refine ⟨b, off, e1, e2, e3, Lib.hid fun u hu => ?_⟩
              obtain ⟨b', off', f1, f2, f3, f4⟩ := HY.out.cellAt hu (by omega) h2
              rw [e1] at f1; simp at f1
              obtain ⟨rfl, rfl⟩ := f1
              exact f4
            obtain ⟨b3, o3, rfl, _, lt3, HC3⟩ : ∃ b off, za = some ⟨b, off, none⟩ ∧ r + 1 ≤ b ∧ b < w.heap.size ∧ Hid (∀ u : World, w.grownBy u (some r) → u.cell? ⟨b, off + k, none⟩ = some (.int .i64 (hi.getD k 0))) := by
              obtain ⟨b, off, e1, e2, e3, _⟩ := HZ.out.cellAt HS.out.gr (by omega) h3
              refine ⟨b, off, e1, e2, e3, Lib.hid fun u hu => ?_⟩
              obtain ⟨b', off', f1, f2, f3, f4⟩ := HZ.out.cellAt hu (by omega) h3
              rw [e1] at f1; simp at f1
              obtain ⟨rfl, rfl⟩ := f1
              exact f4
            obtain ⟨t1, t2⟩ := HT.out.1 k
            obtain ⟨t3, t4⟩ := HT.out.2 k
            have HQ := Lib.hid (fun (u : World) (M' : Nat) (v : Value) (js' : List Int) (S : JSt w B M' r u (.slice xa xl xc) (.slice (some ⟨b2, o2, none⟩) yl yc) (.slice (some ⟨b3, o3, none⟩) zl zc) v js') => And.intro S.arm.c1 (And.intro S.arm.c2 (And.intro (HC2.out u S.gr) (HC3.out u S.gr))))
            have HJN := Lib.hid (fun (p : Int) (p0 : 0 ≤ p) (p1 : p < if 1 < hi.getD k 0 - lo.getD k 0 + 1 then hi.getD k 0 - lo.getD k 0 + 1 else 1) => inJ_snoc HL.out HIJ.out p0 p1)
            generalize lo.getD k 0 = o at *
            generalize hi.getD k 0 = h at *
            have j1 : (0 : Int) ≤ (k : Int) := by omega
            have j2 : (k : Int) < (yl : Int) := by omega
            have j3 : (k : Int) < (zl : Int) := by omega
            have w1 : IntKind.i64.wrap (h - o) = h - o := IntWalk.i64_in _ (by omega)
            have w2 : IntKind.i64.wrap (h - o + 1) = h - o + 1 := IntWalk.i64_in _ (by omega)
            have Sd := HS.out.drew
            have k1 := HQ.out _ _ _ _ Sd
            have hMk : M + k ≤ 1000000 := by omega
            have hBw : B ≤ w.heap.size := by omega
            have HL1 := Lib.hid (show js.length + 1 ≤ maxLen by rw [HL.out]; unfold maxLen; omega)
            have HL2 := Lib.hid (show (js.length + 1) * 8 ≤ 140737488355328 by rw [HL.out]; omega)
            go_wp2
            obtain ⟨mx, hif, m1, m2⟩ : ∃ mx : Int, (if 1 < h - o + 1 then h - o + 1 else 1) = mx ∧ 1 ≤ mx ∧ mx ≤ 4500 := ⟨_, rfl, by split <;> omega, by split <;> omega⟩
            go_region_held3 (fun u => u.cell? ⟨w.heap.size, 1, none⟩ = some (.slice (some ⟨b2, o2, none⟩) yl yc) ∧ u.cell? ⟨w.heap.size, 2, none⟩ = some (.slice (some ⟨b3, o3, none⟩) zl zc) ∧ u.cell? ⟨b2, o2 + k, none⟩ = some (.int .i64 o) ∧ u.cell? ⟨b3, o3 + k, none⟩ = some (.int .i64 h)) (first | exact k1 | exact k2 | exact k3 | exact k4) (first
              | (go_at_call 54
                 (with_reducible refine (pick B (M + k) r mx _ Sd.rd hMk).mono ?_)
                 rintro e w1 ⟨p, a1, b1, rfl, hr1, hg1, hs1⟩
                 have b2' : p < 4500 := by have := b1 (by omega); omega
                 have HIN := Lib.hid (HJN.out p a1 (by rw [hif]; exact b1 (by omega)))
                 have S1 := Sd.pick hr1 hg1 hrlt
                 have HSa := Lib.hid (S1.alloc (.cells #[.int .i64 (o + p)] 3))
                 have k2 := HQ.out _ _ _ _ S1
                 have k3 := HQ.out _ _ _ _ HSa.out
                 have HN := Lib.hid (cell_one_new' w1 (.int .i64 (o + p)) 3)
                 have HH := Lib.hid HSa.out.base
                 have w3 : IntKind.i64.wrap (o + p) = o + p := IntWalk.i64_in _ (by omega)
                 clear b1 hs1 hr1 hg1)
              | (refine step_append_lies _ rfl (.tmp 32) (.tmp 54) 23 rfl (w.heap.size + 1) 3 i0 (.int .i64 0) 1 8 Tryd.underlying23 hi0 hz0 hz1 hz2 rfl (by decide) _ js.length (vals js) rfl HSa.out.own ⟨w1.heap.size, 0, none⟩ 1 1 [.int .i64 (o + p)] rfl rfl HN.out (by intro u hu; simp at hu; subst hu; rfl) Nat.one_pos HL1.out HL2.out HH.out _ rfl ?_
                 intro g cap w3 own3 grow3 at3 ltg
                 have HA3 : Hid (App (w1.alloc (.cells #[.int .i64 (o + p)] 3)) w3 (w.heap.size + 1) u7 (js ++ [o + p]) g (js.length + 1) cap) := Lib.hid ⟨by rw [vals_snoc]; exact own3, grow3, at3⟩
                 have HS3 := Lib.hid (HSa.out.app hrlt hBw HA3.out)
                 have k4 := HQ.out _ _ _ _ HS3.out
                 clear own3 grow3 at3 ltg)
              | fail)
            all_goals
              go_wp2
              go_roundw
              case rel => exact ⟨k + 1, js ++ [o + p], by congr 1, HS3, Lib.hid (by simp [HL.out]), by omega, by omega, HIN, Lib.hid (by omega)⟩
              case measure => simp [intOf]; omega
          · have hb : decide (k < zl) = false := decide_eq_false h3
            go_wp2
            go_meet
            exact ⟨k, js, HS, HL, ky, kz, HIJ, Lib.hid ⟨HKX.out, .inr (.inr (by omega))⟩⟩
        · have hb : decide (k < yl) = false := decide_eq_false h2
          go_wp2
          go_meet
          exact ⟨k, js, HS, HL, ky, kz, HIJ, Lib.hid ⟨HKX.out, .inr (.inl (by omega))⟩⟩
      · have hb : decide (k < xl) = false := decide_eq_false h1
        go_wp2
        go_meet
        exact ⟨k, js, HS, HL, ky, kz, HIJ, Lib.hid ⟨HKX.out, .inl (by have := HKX.out; omega)⟩⟩
  case rest =>
    obtain ⟨k, js, HS, HL, ky, kz, HIJ, HKX⟩ := hcut
    have HOJ := Lib.hid (HFIN.out js k HL.out HIJ.out HKX.out)
    clear S0
    by_cases hk0 : 1 ≤ k
    · obtain ⟨g, cap, rfl, hg, hc⟩ := HS.out.own.at (by rw [HL.out]; exact hk0)
      have HD := Lib.hid (HS.out.done0 (M' := M + 16) (by omega) HOJ.out)
      rw [HL.out]
      rw [HL.out] at HD
      clear HS hc
      have h0 : 0 < k := hk0
      go_wp2_with fail
      refine (odd0 r _).mono ?_
      rintro e w' ⟨rfl, rfl⟩
      go_wp2
      go_ret
      exact HD.out _ rfl
    · obtain rfl : k = 0 := by omega
      obtain ⟨⟨sa, sl, sc⟩, rfl, e1, e2⟩ := OwnI.slv HS.out.own
      simp only at e1 e2
      obtain rfl : sl = 0 := by rw [e1]; exact HL.out
      have HD := Lib.hid (HS.out.done0 (M' := M + 16) (by omega) HOJ.out)
      clear e1 e2 HS hk0
      go_wp2
      go_ret
      exact HD.out _ rfl
end Go.Proofs.YtolkihibjabmhaaDoor
namespace Go.Proofs.YtolkihibjabmhaaDoor
open Go.RowKit
attribute [local go_sem ↓] Go.wp_at_zero Go.wp_at_succ
/-- What the draw of a target holds: the reader, the arm's box, the result's box. -/
structure TSt (w0 : World) (B M r : Nat) (u : World) (x y z : Sl) : Prop where
  rd : Rd B M u r
  gr : w0.grownBy u (some r)
  arm : AtA u w0.heap.size (.slice x.a x.len x.cap) (.slice y.a y.len y.cap) (.slice z.a z.len z.cap)
  res : OwnP u (w0.heap.size + 1) 0 0
theorem Rd.next {B M r : Nat} {u u' : World} (h : Rd B M u r) (hb : Below u.heap.size u u') : Rd B M u' r := h.kept (grown_of hb : u.grownBy u' none) (by simp) (fun k hk => by cases hk)
theorem TSt.next {w0 u : World} {B M r : Nat} {x y z : Sl} {u' : World} (h : TSt w0 B M r u x y z) (hb : Below u.heap.size u u') : TSt w0 B M r u' x y z :=
  ⟨h.rd.next hb, h.gr.trans (grown_of hb), h.arm.next hb, h.res.next hb⟩
theorem TSt.nextB {w0 u : World} {B M r : Nat} {x y z : Sl} {u' : World} (hb : Below u.heap.size u u') (h : TSt w0 B M r u x y z) : TSt w0 B M r u' x y z := h.next hb
theorem TSt.drew {w0 u : World} {B M r : Nat} {x y z : Sl} (h : TSt w0 B M r u x y z) : TSt w0 B M r u.drew x y z := h.next (below_drew' u)
theorem TSt.alloc {w0 u : World} {B M r : Nat} {x y z : Sl} (h : TSt w0 B M r u x y z) {o : Obj} : TSt w0 B M r (u.alloc o) x y z := h.next (below_box u o)
theorem TSt.grown {w0 u : World} {B M r : Nat} {x y z : Sl} {u' : World} {M' : Nat} (h : TSt w0 B M r u x y z) (hr : Rd B M' u' r) (hg : u.grownBy u' (some r)) (hlt : r < w0.heap.size) : TSt w0 B M' r u' x y z :=
  ⟨hr, h.gr.trans hg, h.arm.kept hg (by simp; omega), h.res.grown hg (by omega)⟩
theorem TSt.far {w0 u : World} {B M r : Nat} {x y z : Sl} {c o : Nat} (h : TSt w0 B M r u x y z) (hc : w0.heap.size + 1 < c) (hlt : r < w0.heap.size) (hB : B ≤ w0.heap.size) (v : Value) : TSt w0 B M r (u.setCell ⟨c, o, none⟩ v) x y z :=
  ⟨h.rd.set (by omega) (by omega) _, only_set h.gr (by omega) _, h.arm.far (by omega) _, h.res.far (by omega) _⟩
theorem TSt.cells {w0 u : World} {B M r : Nat} {x y z : Sl} (h : TSt w0 B M r u x y z) : u.cell? ⟨w0.heap.size, 0, none⟩ = some (.slice x.a x.len x.cap) ∧ u.cell? ⟨w0.heap.size, 1, none⟩ = some (.slice y.a y.len y.cap) ∧ u.cell? ⟨w0.heap.size, 2, none⟩ = some (.slice z.a z.len z.cap) := ⟨h.arm.c0, h.arm.c1, h.arm.c2⟩
/-- What a draw of a target says: its coordinates are small. -/
def DrawnT (B M r : Nat) (w : World) (e : Ending) (w' : World) : Prop :=
  ∃ x y : Int, -20000 ≤ x ∧ x ≤ 20000 ∧ -20000 ≤ y ∧ y ≤ 20000 ∧ e = .returned (pt x y) ∧ Rd B M w' r ∧ w.grownBy w' (some r)
theorem TSt.done {w0 u : World} {B M r : Nat} {x y z : Sl} {M' : Nat} (h : TSt w0 B M r u x y z) (hr : r < w0.heap.size) (hB : B ≤ w0.heap.size) (hM : M ≤ M') (a b : Value) :
    Rd B M' ((u.setCell ⟨w0.heap.size + 1, 0, none⟩ a).setCell ⟨w0.heap.size + 1, 1, none⟩ b) r ∧ w0.grownBy ((u.setCell ⟨w0.heap.size + 1, 0, none⟩ a).setCell ⟨w0.heap.size + 1, 1, none⟩ b) (some r) :=
  ⟨((h.rd.set (by omega) (by omega) _).set (by omega) (by omega) _).mono hM, only_set (only_set h.gr (by omega) _) (by omega) _⟩
set_option maxHeartbeats 4000000 in
theorem l20Target (B M r : Nat) (x y z : Sl) (ls lo hi : List Int) (w : World) (hr : Rd B M w r) (hM : M ≤ 800000)
    (hx : IntsFrom w (r + 1) x.a x.len ls) (hy : IntsFrom w (r + 1) y.a y.len lo) (hz : IntsFrom w (r + 1) z.a z.len hi) (lx : x.len ≤ 5) (ly : y.len ≤ 4) (lz : z.len ≤ 4) (ty : Sm 2000 lo) (tz : Sm 2000 hi) :
    Calls Tryd.prog 71 #[.pointer (some ⟨r, 0, none⟩), av x y z] w (DrawnT B (M + 20) r w) := by
  obtain ⟨xa, xl, xc⟩ := x
  obtain ⟨ya, yl, yc⟩ := y
  obtain ⟨za, zl, zc⟩ := z
  simp only at *
  have hrlt := hr.lt
  have hrge := hr.ge
  have hrge' : B ≤ w.heap.size := by omega
  have Rs := OwnP.box (w.alloc (.cells #[.slice xa xl xc, .slice ya yl yc, .slice za zl zc] 25)) 0 0 35
  rw [show (w.alloc (.cells #[.slice xa xl xc, .slice ya yl yc, .slice za zl zc] 25)).heap.size = w.heap.size + 1 by simp] at Rs
  have Bw := below_box2 w (.cells #[.slice xa xl xc, .slice ya yl yc, .slice za zl zc] 25) (.cells #[.int .i64 0, .int .i64 0] 35)
  have S0 : TSt w B M r ((w.alloc (.cells #[.slice xa xl xc, .slice ya yl yc, .slice za zl zc] 25)).alloc (.cells #[.int .i64 0, .int .i64 0] 35)) ⟨xa, xl, xc⟩ ⟨ya, yl, yc⟩ ⟨za, zl, zc⟩ := ⟨hr.next Bw, grown_of Bw, (AtA.box w _ _ _ _).alloc _, Rs⟩
  have HTY := Lib.hid (And.intro ty tz)
  have HL := Lib.hid (fun (u : World) (hg : w.grownBy u (some r)) => And.intro (hx.kept hg (fun k hk => by injection hk with hk; omega)) (And.intro (hy.kept hg (fun k hk => by injection hk with hk; omega)) (hz.kept hg (fun k hk => by injection hk with hk; omega))))
  clear hr hx hy hz ty tz Bw Rs
  go_enter Tryd.func71, Tryd.ntmps71
  go_wp2_with fail
  refine (pick B M r 3 _ S0.rd (by omega)).mono ?_
  generalize (w.alloc (.cells #[.slice xa xl xc, .slice ya yl yc, .slice za zl zc] 25)).alloc (.cells #[.int .i64 0, .int .i64 0] 35) = w0 at *
  rintro e w1 ⟨p, a1, b1, rfl, hr1, hg1, hs1⟩
  have S1 := S0.grown hr1 hg1 hrlt
  clear b1 hr1 hg1 hs1 S0
  obtain ⟨_, c0, c1, c2, _, _, _⟩ := id S1.arm
  by_cases hp : 0 < p
  · have t1 : decide (0 < p) = true := decide_eq_true hp
    go_wp2_with fail
    refine (specArmValid ⟨xa, xl, xc⟩ ⟨ya, yl, yc⟩ ⟨za, zl, zc⟩ ls lo hi _ (HL.out _ S1.gr).1.ints (HL.out _ S1.gr).2.1.ints (HL.out _ S1.gr).2.2.ints (by simp only; omega) (by simp only; omega) (by simp only; omega)).mono ?_
    by_cases hok : okArm ls lo hi
    · rw [decide_eq_true hok]
      rintro e w2 ⟨rfl, B2⟩
      have S2 := S1.next B2
      have hw2 : w.heap.size + 1 < w2.heap.size := S2.res.lt
      clear B2 S1 c0 c1 c2 t1 hp
      go_upto_region 2 with fail
      go_cut [5] from 13 to 18 (fun v wx => ∃ (b5 : Nat) (tx ty : Int), v = .pointer (some ⟨b5, 0, none⟩) ∧ Hid (TSt w B (M + 1 + 16) r wx ⟨xa, xl, xc⟩ ⟨ya, yl, yc⟩ ⟨za, zl, zc⟩) ∧ Hid (OwnP wx b5 tx ty) ∧ w.heap.size + 1 < b5 ∧ (-10000 ≤ tx ∧ tx ≤ 10000 ∧ -10000 ≤ ty ∧ ty ≤ 10000))
      case first =>
        have HJT := Lib.hid (fun (u : World) (h : TSt w B (M + 1) r u ⟨xa, xl, xc⟩ ⟨ya, yl, yc⟩ ⟨za, zl, zc⟩) => show Calls Tryd.prog 55 #[.pointer (some ⟨r, 0, none⟩), av ⟨xa, xl, xc⟩ ⟨ya, yl, yc⟩ ⟨za, zl, zc⟩, .int .i64 0] u fun e u' => ∃ (s : Sl) (js : List Int), e = .returned (.slice s.a s.len s.cap) ∧ Hid (IntsAt u' s.a s.len js ∧ okJoints ls lo hi js ∧ u.grownBy u' (some r)) ∧ TSt w B (M + 1 + 16) r u' ⟨xa, xl, xc⟩ ⟨ya, yl, yc⟩ ⟨za, zl, zc⟩ from
          (l20Joints0 B (M + 1) r ⟨xa, xl, xc⟩ ⟨ya, yl, yc⟩ ⟨za, zl, zc⟩ ls lo hi u h.rd (by omega) (HL.out _ h.gr).1 (HL.out _ h.gr).2.1 (HL.out _ h.gr).2.2 lx ly lz HTY.out.1 HTY.out.2).mono fun e u' ⟨s, js, he, hi', ho, hr, hg⟩ => ⟨s, js, he, Lib.hid ⟨hi'.ints, ho hok, hg⟩, h.grown hr hg hrlt⟩)
        have HTP := Lib.hid (fun (sa : Option Addr) (sl sc : Nat) (js : List Int) (u5 w5 : World) (H5 : Hid (IntsAt w5 sa sl js ∧ okJoints ls lo hi js ∧ u5.grownBy w5 (some r))) (T5 : TSt w B (M + 1 + 16) r w5 ⟨xa, xl, xc⟩ ⟨ya, yl, yc⟩ ⟨za, zl, zc⟩) (u : World) (hu : Below w5.heap.size w5 u) => show Calls Tryd.prog 68 #[av ⟨xa, xl, xc⟩ ⟨ya, yl, yc⟩ ⟨za, zl, zc⟩, .slice sa sl sc] u fun e u' => ∃ tx ty : Int, e = .returned (pt tx ty) ∧ Hid (-10000 ≤ tx ∧ tx ≤ 10000 ∧ -10000 ≤ ty ∧ ty ≤ 10000) ∧ Below u.heap.size u u' from
          (l3Tip ⟨xa, xl, xc⟩ ⟨ya, yl, yc⟩ ⟨za, zl, zc⟩ ⟨sa, sl, sc⟩ ls lo hi js u ((HL.out _ T5.gr).1.ints.next hu) (H5.out.1.next hu) H5.out.2.1).mono fun e u' ⟨he, hb⟩ => ⟨_, _, he, Lib.hid (tip_ok H5.out.2.1), hb⟩)
        clear hok HTY
        have k1 := S2.drew.cells
        go_wp2
        go_region_held3 (fun u => u.cell? ⟨w.heap.size, 0, none⟩ = some (.slice xa xl xc) ∧ u.cell? ⟨w.heap.size, 1, none⟩ = some (.slice ya yl yc) ∧ u.cell? ⟨w.heap.size, 2, none⟩ = some (.slice za zl zc)) (exact TSt.cells (B := B) (r := r) (x := ⟨xa, xl, xc⟩) (y := ⟨ya, yl, yc⟩) (z := ⟨za, zl, zc⟩) (by repeat (first | (with_reducible assumption) | (with_reducible apply TSt.drew) | (with_reducible apply TSt.alloc)))) (first
          | (go_at_call 55
             (with_reducible refine (HJT.out _ (by repeat (first | (with_reducible assumption) | (with_reducible apply TSt.drew) | (with_reducible apply TSt.alloc)))).mono ?_)
             rintro e w5 ⟨⟨sa, sl, sc⟩, js, rfl, H5, T5⟩)
          | (go_at_call 68
             (with_reducible refine (HTP.out _ _ _ js _ w5 H5 T5 _ (by first | exact Below.refl _ _ | exact below_box _ _)).mono ?_)
             rintro e w6 ⟨tx, ty, rfl, HBD, B6⟩
             have T6 := TSt.nextB (B := B) (M := M + 1 + 16) (r := r) (x := ⟨xa, xl, xc⟩) (y := ⟨ya, yl, yc⟩) (z := ⟨za, zl, zc⟩) (w0 := w) B6 (by repeat (first | (with_reducible assumption) | (with_reducible apply TSt.drew) | (with_reducible apply TSt.alloc)))
             first
               | (have q6 : OwnP w6 w5.heap.size 0 0 := OwnP.next (OwnP.box w5 0 0 35) B6
                  have T7 := (T6.far (c := w5.heap.size) (o := 0) T5.res.lt hrlt hrge' (.int .i64 tx)).far (c := w5.heap.size) (o := 1) T5.res.lt hrlt hrge' (.int .i64 ty)
                  have HQ7 := Lib.hid ((q6.put0 tx).put1 ty)
                  have hb7 : w.heap.size + 1 < w5.heap.size := T5.res.lt
                  obtain ⟨⟨_, v0, v1⟩, y0, y1⟩ := id q6)
               | (have q6 : OwnP w6 w2.heap.size 0 0 := OwnP.next ((OwnP.box w2.drew 0 0 35).grown H5.out.2.2 (show w2.heap.size ≠ r by omega)) B6
                  have T7 := (T6.far (c := w2.heap.size) (o := 0) hw2 hrlt hrge' (.int .i64 tx)).far (c := w2.heap.size) (o := 1) hw2 hrlt hrge' (.int .i64 ty)
                  have HQ7 := Lib.hid ((q6.put0 tx).put1 ty)
                  have hb7 : w.heap.size + 1 < w2.heap.size := hw2
                  obtain ⟨⟨_, v0, v1⟩, y0, y1⟩ := id q6)
               | skip)
          | fail)
        all_goals
          go_wp2_with fail
          go_meet
          first
            | exact ⟨_, tx, ty, rfl, Lib.hid T7, HQ7, hb7, HBD.out⟩
            | exact ⟨_, tx, ty, rfl, Lib.hid T6.alloc, Lib.hid (OwnP.box w6 tx ty _), T6.res.lt, HBD.out⟩
      case rest =>
        obtain ⟨b5, tx, ty, rfl, HT5, HO5, hb5, hx1, hx2, hy1, hy2⟩ := hcut
        clear S2 hok HTY HL
        have PK := Lib.hid (fun (m : Nat) (hm : m ≤ 900000) (u : World) (h : TSt w B m r u ⟨xa, xl, xc⟩ ⟨ya, yl, yc⟩ ⟨za, zl, zc⟩) (ho : OwnP u b5 tx ty) => show Calls Tryd.prog 54 #[.pointer (some ⟨r, 0, none⟩), .int .i64 9] u fun e u' => ∃ p : Int, 0 ≤ p ∧ p < 9 ∧ e = .returned (.int .i64 p) ∧ TSt w B (m + 1) r u' ⟨xa, xl, xc⟩ ⟨ya, yl, yc⟩ ⟨za, zl, zc⟩ ∧ OwnP u' b5 tx ty from
          (pick B m r 9 u h.rd (by omega)).mono fun e u' ⟨p, p0, p1, he, hr, hg, _⟩ => ⟨p, p0, p1 (by omega), he, h.grown hr hg hrlt, ho.grown hg (by omega)⟩)
        have T0 := HT5.out.drew
        have O0 := HO5.out.next (below_drew' wc)
        have k0 := And.intro O0.c0 O0.c1
        clear HT5 HO5
        go_wp2
        go_region_held3 (fun u => u.cell? ⟨b5, 0, none⟩ = some (.int .i64 tx) ∧ u.cell? ⟨b5, 1, none⟩ = some (.int .i64 ty)) (first | exact k0 | exact k1 | exact k2 | exact k3) (first
          | (go_at_call 54
             (with_reducible refine (PK.out (M + 1 + 16) (by omega) _ T0 O0).mono ?_)
             rintro e w7 ⟨p7, p70, p71, rfl, T7, O7⟩
             have k1 := And.intro O7.c0 O7.c1
             have o1 : IntKind.i64.wrap (tx + p7) = tx + p7 := IntWalk.i64_in _ (by omega)
             have o2 : IntKind.i64.wrap (tx + p7 - 4) = tx + p7 - 4 := IntWalk.i64_in _ (by omega))
          | (go_at_call 54
             (with_reducible refine (PK.out (M + 1 + 16 + 1) (by omega) _ T7 O7).mono ?_)
             rintro e w8 ⟨p8, p80, p81, rfl, T8, O8⟩
             have k2 := And.intro O8.c0 O8.c1
             have o3 : IntKind.i64.wrap (ty + p8) = ty + p8 := IntWalk.i64_in _ (by omega)
             have o4 : IntKind.i64.wrap (ty + p8 - 4) = ty + p8 - 4 := IntWalk.i64_in _ (by omega)
             have hbr : b5 ≠ w.heap.size + 1 := by omega
             have O9 := (O8.far (c := w.heap.size + 1) (o := 0) hbr.symm (.int .i64 (tx + p7 - 4))).far (c := w.heap.size + 1) (o := 1) hbr.symm (.int .i64 (ty + p8 - 4))
             have k3 := And.intro O9.c0 O9.c1
             have HD := Lib.hid (T8.done (M' := M + 20) hrlt hrge' (by omega) (.int .i64 (tx + p7 - 4)) (.int .i64 (ty + p8 - 4)))
             obtain ⟨⟨_, g0, g1⟩, z0, z1⟩ := id T8.res)
          | fail)
        clear T0 O0 T7 O7 T8 O8 k0 k1 k2 k3 O9
        go_wp2
        exact bodyPost_ret (v := pt (tx + p7 - 4) (ty + p8 - 4)) (by simp [results, Tryd.results71, go_sem, g0, g1]) rfl ⟨tx + p7 - 4, ty + p8 - 4, by omega, by omega, by omega, by omega, rfl, HD.out⟩
    · rw [decide_eq_false hok]
      rintro e w2 ⟨rfl, B2⟩
      have S2 := S1.next B2
      clear B2 S1 c0 c1 c2 hp hok
      go_wp2_with fail
      refine (l20Point B (M + 1) r 9 _ S2.rd (by omega) (by omega) (by omega)).mono ?_
      rintro e w3 ⟨tx, ty, x1, x2, y1, y2, rfl, hr9, hg9⟩
      have S9 := S2.grown hr9 hg9 hrlt
      have HD := Lib.hid (S9.done (M' := M + 20) hrlt hrge' (by omega) (.int .i64 tx) (.int .i64 ty))
      obtain ⟨⟨_, g0, g1⟩, z0, z1⟩ := id S9.res
      clear hr9 hg9 S2 S9
      go_wp2
      exact bodyPost_ret (v := pt tx ty) (by simp [results, Tryd.results71, go_sem, g0, g1]) rfl ⟨tx, ty, by omega, by omega, by omega, by omega, rfl, HD.out⟩
  · have t1 : decide (0 < p) = false := decide_eq_false hp
    clear c0 c1 c2 hp
    go_wp2_with fail
    refine (l20Point B (M + 1) r 9 _ S1.rd (by omega) (by omega) (by omega)).mono ?_
    rintro e w3 ⟨tx, ty, x1, x2, y1, y2, rfl, hr9, hg9⟩
    have S9 := S1.grown hr9 hg9 hrlt
    have HD := Lib.hid (S9.done (M' := M + 20) hrlt hrge' (by omega) (.int .i64 tx) (.int .i64 ty))
    obtain ⟨⟨_, g0, g1⟩, z0, z1⟩ := id S9.res
    clear hr9 hg9 S1 S9
    go_wp2
    exact bodyPost_ret (v := pt tx ty) (by simp [results, Tryd.results71, go_sem, g0, g1]) rfl ⟨tx, ty, by omega, by omega, by omega, by omega, rfl, HD.out⟩
end Go.Proofs.YtolkihibjabmhaaDoor
namespace Go.Proofs.YtolkihibjabmhaaDoor
open Go.RowKit
attribute [local go_sem ↓] Go.wp_at_zero Go.wp_at_succ
/-- A drawn arm, angles and a point: the lists are short; nothing that was there has changed. -/
def GotArmJT (w : World) (e : Ending) (w' : World) : Prop :=
  ∃ (x y z s : Sl) (ls lo hi js : List Int) (tx ty : Int), e = .returned (.tuple #[av x y z, .slice s.a s.len s.cap, pt tx ty]) ∧ IntsAt w' x.a x.len ls ∧ IntsAt w' y.a y.len lo ∧ IntsAt w' z.a z.len hi ∧ IntsAt w' s.a s.len js ∧ (x.len ≤ 5 ∧ y.len ≤ 4 ∧ z.len ≤ 4 ∧ s.len ≤ 6) ∧ (-20000 ≤ tx ∧ tx ≤ 20000 ∧ -20000 ≤ ty ∧ ty ≤ 20000) ∧ Below w.heap.size w w'
/-- What is there around the draw of the target: the reader, the results' boxes, the variable's, the lists. -/
structure FSt (w0 : World) (B M r V : Nat) (u : World) (rx ry rz : Value) (px py : Int) (x y z s : Sl) (ls lo hi js : List Int) : Prop where
  rd : Rd B M u r
  old : Below w0.heap.size w0 u
  res : AtA u w0.heap.size rx ry rz
  rp : OwnP u (w0.heap.size + 1) px py
  var : AtA u V (.slice x.a x.len x.cap) (.slice y.a y.len y.cap) (.slice z.a z.len z.cap)
  ix : IntsFrom u (r + 1) x.a x.len ls
  iy : IntsFrom u (r + 1) y.a y.len lo
  iz : IntsFrom u (r + 1) z.a z.len hi
  js : IntsFrom u (r + 1) s.a s.len js
theorem FSt.next {w0 u : World} {B M r V : Nat} {rx ry rz : Value} {px py : Int} {x y z s : Sl} {ls lo hi js : List Int} {u' : World} (h : FSt w0 B M r V u rx ry rz px py x y z s ls lo hi js) (hb : Below u.heap.size u u') : FSt w0 B M r V u' rx ry rz px py x y z s ls lo hi js :=
  ⟨h.rd.next hb, below_call h.old hb, h.res.next hb, h.rp.next hb, h.var.next hb, h.ix.next hb, h.iy.next hb, h.iz.next hb, h.js.next hb⟩
theorem FSt.drew {w0 u : World} {B M r V : Nat} {rx ry rz : Value} {px py : Int} {x y z s : Sl} {ls lo hi js : List Int} (h : FSt w0 B M r V u rx ry rz px py x y z s ls lo hi js) : FSt w0 B M r V u.drew rx ry rz px py x y z s ls lo hi js := h.next (below_drew' u)
theorem FSt.grown {w0 u : World} {B M r V : Nat} {rx ry rz : Value} {px py : Int} {x y z s : Sl} {ls lo hi js : List Int} {u' : World} {M' : Nat} (h : FSt w0 B M r V u rx ry rz px py x y z s ls lo hi js) (hr : Rd B M' u' r) (hg : u.grownBy u' (some r)) (h1 : w0.heap.size + 1 < r) (h2 : r < V) : FSt w0 B M' r V u' rx ry rz px py x y z s ls lo hi js :=
  ⟨hr, below_of' h.old hg (by omega), h.res.kept hg (by simp; omega), h.rp.grown hg (by omega), h.var.kept hg (by simp; omega), h.ix.kept hg (fun k hk => by injection hk with hk; omega), h.iy.kept hg (fun k hk => by injection hk with hk; omega), h.iz.kept hg (fun k hk => by injection hk with hk; omega), h.js.kept hg (fun k hk => by injection hk with hk; omega)⟩
theorem FSt.putA {w0 u : World} {B M r V : Nat} {rx ry rz : Value} {px py : Int} {x y z s : Sl} {ls lo hi js : List Int} (h : FSt w0 B M r V u rx ry rz px py x y z s ls lo hi js) (h1 : w0.heap.size + 1 < r) (h2 : r < V) (hB : B ≤ w0.heap.size) (a b c : Value) : FSt w0 B M r V (((u.setCell ⟨w0.heap.size, 0, none⟩ a).setCell ⟨w0.heap.size, 1, none⟩ b).setCell ⟨w0.heap.size, 2, none⟩ c) a b c px py x y z s ls lo hi js :=
  ⟨((h.rd.set (by omega) hB _).set (by omega) hB _).set (by omega) hB _, ((h.old.setCell (p := ⟨w0.heap.size, 0, none⟩) (Nat.le_refl _) _).setCell (p := ⟨w0.heap.size, 1, none⟩) (Nat.le_refl _) _).setCell (p := ⟨w0.heap.size, 2, none⟩) (Nat.le_refl _) _, ((h.res.put0 _).put1 _).put2 _, ((h.rp.far (by omega) _).far (by omega) _).far (by omega) _, ((h.var.far (by omega) _).far (by omega) _).far (by omega) _,
    ((h.ix.off (by omega) _).off (by omega) _).off (by omega) _, ((h.iy.off (by omega) _).off (by omega) _).off (by omega) _, ((h.iz.off (by omega) _).off (by omega) _).off (by omega) _, ((h.js.off (by omega) _).off (by omega) _).off (by omega) _⟩
theorem FSt.putP {w0 u : World} {B M r V : Nat} {rx ry rz : Value} {px py : Int} {x y z s : Sl} {ls lo hi js : List Int} (h : FSt w0 B M r V u rx ry rz px py x y z s ls lo hi js) (h1 : w0.heap.size + 1 < r) (h2 : r < V) (hB : B ≤ w0.heap.size) (a b : Int) : FSt w0 B M r V ((u.setCell ⟨w0.heap.size + 1, 0, none⟩ (.int .i64 a)).setCell ⟨w0.heap.size + 1, 1, none⟩ (.int .i64 b)) rx ry rz a b x y z s ls lo hi js :=
  ⟨(h.rd.set (by omega) (by omega) _).set (by omega) (by omega) _, (h.old.setCell (p := ⟨w0.heap.size + 1, 0, none⟩) (by simp) _).setCell (p := ⟨w0.heap.size + 1, 1, none⟩) (by simp) _, (h.res.far (by omega) _).far (by omega) _, (h.rp.put0 _).put1 _, (h.var.far (by omega) _).far (by omega) _,
    (h.ix.off (by omega) _).off (by omega) _, (h.iy.off (by omega) _).off (by omega) _, (h.iz.off (by omega) _).off (by omega) _, (h.js.off (by omega) _).off (by omega) _⟩
theorem FSt.cells {w0 u : World} {B M r V : Nat} {rx ry rz : Value} {px py : Int} {x y z s : Sl} {ls lo hi js : List Int} (h : FSt w0 B M r V u rx ry rz px py x y z s ls lo hi js) : u.cell? ⟨V, 0, none⟩ = some (.slice x.a x.len x.cap) ∧ u.cell? ⟨V, 1, none⟩ = some (.slice y.a y.len y.cap) ∧ u.cell? ⟨V, 2, none⟩ = some (.slice z.a z.len z.cap) := ⟨h.var.c0, h.var.c1, h.var.c2⟩
set_option maxHeartbeats 4000000 in
theorem drawStepJoints (w : World) (a : Option Addr) (len cap : Nat) (zs : List Int) (h : Bytes w a len cap zs) :
    Calls Tryd.prog 44 #[.slice a len cap] w (GotArmJT w) := by
  have hle := h.len_le
  have HB := Lib.hid (below_box2 w (.cells #[.slice none 0 0, .slice none 0 0, .slice none 0 0] 25) (.cells #[.int .i64 0, .int .i64 0] 35))
  have R := (AtA.box w (.slice none 0 0) (.slice none 0 0) (.slice none 0 0) 25).alloc (.cells #[.int .i64 0, .int .i64 0] 35)
  have RP := OwnP.box (w.alloc (.cells #[.slice none 0 0, .slice none 0 0, .slice none 0 0] 25)) 0 0 35
  rw [show (w.alloc (.cells #[.slice none 0 0, .slice none 0 0, .slice none 0 0] 25)).heap.size = w.heap.size + 1 by simp] at RP
  go_enter Tryd.func44, Tryd.ntmps44
  go_wp2_with fail
  refine (open_codeB w.heap.size _ a len cap HB.out.size hle.1 (by have := hle.2; unfold maxLen at this; omega) (fun k hk => (h.code k hk).below fun x hx => HB.out.cell hx)).mono ?_
  generalize (w.alloc (.cells #[.slice none 0 0, .slice none 0 0, .slice none 0 0] 25)).alloc (.cells #[.int .i64 0, .int .i64 0] 35) = w0 at *
  rintro e w1 ⟨rfl, hr1, hb1⟩
  have hR := RP.lt
  have R1 := R.next hb1
  have RP1 := RP.next hb1
  have HB1 := Lib.hid (below_call HB.out hb1)
  clear hb1 R RP h hle
  go_wp2_with fail
  refine (pick _ _ _ 4 _ hr1 (by omega)).mono ?_
  rintro e w2 ⟨x, a1, b1, rfl, hr2, hg2, hs2⟩
  have b2 := b1 (by omega)
  have R2 := R1.kept hg2 (by simp; omega)
  have RP2 := RP1.grown hg2 (by omega)
  have HB2 := Lib.hid (below_of' HB1.out hg2 (by omega))
  obtain ⟨m, hm⟩ : ∃ m : Nat, 1 + x = (m : Int) := ⟨(1 + x).toNat, by omega⟩
  have hrlt := hr2.lt
  clear b1 hs2 hg2 hr1 R1 RP1
  go_wp2_with fail
  refine (l20Arm _ _ _ m 14 _ hr2 (by omega) (by omega) (by omega) (by omega) (by omega)).mono ?_
  rintro e w3 ⟨⟨xa, xl, xc⟩, ⟨ya, yl, yc⟩, ⟨za, zl, zc⟩, ls, lo, hi, rfl, i1, i2, i3, lx, ly, lz, kx, ky, kz, sx, sy, sz, hr3, hg3⟩
  simp only at i1 i2 i3 lx ly lz kx ky kz
  have R3 := R2.kept hg3 (by simp; omega)
  have RP3 := RP2.grown hg3 (by omega)
  have HB3 := Lib.hid (below_of' HB2.out hg3 (by omega))
  have Bv := below_box w3 (.cells #[.slice xa xl xc, .slice ya yl yc, .slice za zl zc] 25)
  have HB4 := Lib.hid (below_call HB3.out Bv)
  have V4 := AtA.box w3 (.slice xa xl xc) (.slice ya yl yc) (.slice za zl zc) 25
  have hv : w0.heap.size < w3.heap.size := hr3.lt
  have R4 := R3.next Bv
  have RP4 := RP3.next Bv
  have hr4 := hr3.next Bv
  replace i1 := (i1.down (show w0.heap.size + 1 ≤ _ by omega)).next Bv
  replace i2 := (i2.down (show w0.heap.size + 1 ≤ _ by omega)).next Bv
  replace i3 := (i3.down (show w0.heap.size + 1 ≤ _ by omega)).next Bv
  have HS := Lib.hid (And.intro sy sz)
  clear hr3 hg3 hr2 R2 RP2 hm Bv R3 RP3 sx sy sz
  obtain ⟨_, c0, c1, c2, _, _, _⟩ := id V4
  go_wp2_with fail
  refine (l20Joints _ _ _ 12 ⟨xa, xl, xc⟩ ⟨ya, yl, yc⟩ ⟨za, zl, zc⟩ ls lo hi _ hr4 (by omega) (by omega) (by omega) i1 i2 i3 (by simp only; omega) (by simp only; omega) (by simp only; omega) HS.out.1 HS.out.2).mono ?_
  generalize w3.alloc (.cells #[.slice xa xl xc, .slice ya yl yc, .slice za zl zc] 25) = w4 at *
  rintro e w5 ⟨⟨sa, sl, sc⟩, js, rfl, ij, hs, _, hr5, hg5⟩
  simp only at ij hs
  have h4 : w0.heap.size + 1 ≤ w4.heap.size := by have := V4.lt; omega
  have F5 : FSt w w.heap.size (0 + 1 + 16 + 16) w0.heap.size w3.heap.size w5 (.slice none 0 0) (.slice none 0 0) (.slice none 0 0) 0 0 ⟨xa, xl, xc⟩ ⟨ya, yl, yc⟩ ⟨za, zl, zc⟩ ⟨sa, sl, sc⟩ ls lo hi js :=
    ⟨hr5, below_of' HB4.out hg5 (by omega), R4.kept hg5 (by simp; omega), RP4.grown hg5 (by omega), V4.kept hg5 (by simp; omega), i1.kept hg5 (fun k hk => by injection hk with hk; omega), i2.kept hg5 (fun k hk => by injection hk with hk; omega), i3.kept hg5 (fun k hk => by injection hk with hk; omega), ij.down (by omega)⟩
  clear hr4 hr5 hg5 R4 RP4 V4 i1 i2 i3 ij c0 c1 c2 HB HB1 HB2 HB3 HB4
  have HTG := Lib.hid (fun (u : World) (h : FSt w w.heap.size (0 + 1 + 16 + 16) w0.heap.size w3.heap.size u (.slice none 0 0) (.slice none 0 0) (.slice none 0 0) 0 0 ⟨xa, xl, xc⟩ ⟨ya, yl, yc⟩ ⟨za, zl, zc⟩ ⟨sa, sl, sc⟩ ls lo hi js) => show Calls Tryd.prog 71 #[.pointer (some ⟨w0.heap.size, 0, none⟩), av ⟨xa, xl, xc⟩ ⟨ya, yl, yc⟩ ⟨za, zl, zc⟩] u fun e u' => ∃ tx ty : Int, e = .returned (pt tx ty) ∧ Hid (-20000 ≤ tx ∧ tx ≤ 20000 ∧ -20000 ≤ ty ∧ ty ≤ 20000) ∧ FSt w w.heap.size (0 + 1 + 16 + 16 + 20) w0.heap.size w3.heap.size u' (.slice none 0 0) (.slice none 0 0) (.slice none 0 0) 0 0 ⟨xa, xl, xc⟩ ⟨ya, yl, yc⟩ ⟨za, zl, zc⟩ ⟨sa, sl, sc⟩ ls lo hi js from
    (l20Target _ _ _ ⟨xa, xl, xc⟩ ⟨ya, yl, yc⟩ ⟨za, zl, zc⟩ ls lo hi u h.rd (by omega) h.ix h.iy h.iz (by simp only; omega) (by simp only; omega) (by simp only; omega) HS.out.1 HS.out.2).mono fun e u' ⟨tx, ty, t1, t2, t3, t4, he, hr, hg⟩ => ⟨tx, ty, he, Lib.hid ⟨t1, t2, t3, t4⟩, h.grown hr hg (by omega) hv⟩)
  have F6 := F5.drew
  have k6 := F6.cells
  obtain ⟨_, s0, s1, s2, y0, y1, y2⟩ := id F6.res
  go_wp2
  go_region_held3 (fun u => u.cell? ⟨w3.heap.size, 0, none⟩ = some (.slice xa xl xc) ∧ u.cell? ⟨w3.heap.size, 1, none⟩ = some (.slice ya yl yc) ∧ u.cell? ⟨w3.heap.size, 2, none⟩ = some (.slice za zl zc)) (first | (with_reducible exact k6) | (with_reducible exact k7) | (with_reducible exact k8) | (with_reducible exact k9)) (first
    | (go_at_call 71
       (with_reducible refine (HTG.out _ F6).mono ?_)
       rintro e w7 ⟨tx, ty, rfl, HTB, F7⟩
       have F8 := F7.putA hR hv (Nat.le_refl _) (.slice xa xl xc) (.slice ya yl yc) (.slice za zl zc)
       have F9 := F8.putP hR hv (Nat.le_refl _) tx ty
       have k7 := F7.cells
       have k8 := F8.cells
       have k9 := F9.cells
       obtain ⟨_, t0, t1, t2, u0, u1, u2⟩ := id F7.res
       obtain ⟨⟨_, p0, p1⟩, q0, q1⟩ := id F7.rp
       have HF := Lib.hid F9
       obtain ⟨⟨_, _, _⟩, q2, q3⟩ := id F8.rp
       clear F7 F8 F9)
    | fail)
  obtain ⟨_, x0, x1, x2, _, _, _⟩ := id HF.out.res
  obtain ⟨⟨_, n0, n1⟩, _, _⟩ := id HF.out.rp
  clear F5 F6 k6 k7 k8 k9
  go_wp2
  exact bodyPost_ret (v := .tuple #[av ⟨xa, xl, xc⟩ ⟨ya, yl, yc⟩ ⟨za, zl, zc⟩, .slice sa sl sc, pt tx ty]) (by simp [results, Tryd.results44, go_sem, x0, x1, x2, n0, n1]) rfl ⟨⟨xa, xl, xc⟩, ⟨ya, yl, yc⟩, ⟨za, zl, zc⟩, ⟨sa, sl, sc⟩, ls, lo, hi, js, tx, ty, rfl, HF.out.ix.ints, HF.out.iy.ints, HF.out.iz.ints, HF.out.js.ints, ⟨by simp only; omega, by simp only; omega, by simp only; omega, by simp only; omega⟩, HTB.out, HF.out.old⟩
end Go.Proofs.YtolkihibjabmhaaDoor
namespace Go.Proofs.YtolkihibjabmhaaDoor
open Go.RowKit
attribute [local go_sem ↓] Go.wp_at_zero Go.wp_at_succ
theorem stepsV_four (ls lo hi js : List Int) (tx ty : Int) : (stepsV ls lo hi js tx ty).length ≤ 4 := by
  unfold stepsV
  split
  · rename_i h
    rw [stepV_len, h.1.2.1]
    exact h.1.1.2.1
  · simp
/-- The absolute value, as the laws' helper finds it. -/
theorem absS (n : Int) (w : World) (h0 : -1000000 ≤ n) (h1 : n ≤ 1000000) : Calls Tryd.prog 47 #[.int .i64 n] w fun e w' => e = .returned (.int .i64 (absV n)) ∧ Below w.heap.size w w' := by
  by_cases h : n < 0
  · have HE := Lib.hid (show absV n = -n by unfold absV; omega)
    go_enter Tryd.func47, Tryd.ntmps47
    go_wp2
    go_ret
    exact ⟨ret_int HE.out.symm, Below.refl _ _⟩
  · have HE := Lib.hid (show absV n = n by unfold absV; omega)
    go_enter Tryd.func47, Tryd.ntmps47
    go_wp2
    go_ret
    exact ⟨ret_int HE.out.symm, Below.refl _ _⟩
/-- How much two postures differ in their first angles. -/
def dsum (us vs : List Int) : Nat → Int
  | 0 => 0
  | k + 1 => dsum us vs k + absV (us.getD k 0 - vs.getD k 0)
theorem dsum_self (us : List Int) (k : Nat) : dsum us us k = 0 := by
  induction k with
  | zero => rfl
  | succ k ih => simp only [dsum, ih, Int.sub_self]; rfl
theorem dsum_try (js : List Int) (m : Nat) (d : Int) (hm : m < js.length) (k : Nat) : dsum (tryL js m d) js k = if m < k then absV d else 0 := by
  induction k with
  | zero => rfl
  | succ k ih =>
    simp only [dsum, ih, tryL_at js m k d hm]
    by_cases h : k = m
    · subst h
      rw [if_neg (by omega), if_pos rfl, if_pos (by omega), show js.getD k 0 + d - js.getD k 0 = d by omega]; omega
    · rw [if_neg h, Int.sub_self, show absV 0 = 0 from rfl]
      by_cases h2 : m < k
      · rw [if_pos h2, if_pos (by omega)]; omega
      · rw [if_neg h2, if_neg (by omega)]; omega
theorem dsum_step (ok : List Int → Prop) [DecidablePred ok] (D : List Int → Int) (js : List Int) (k : Nat) : 0 ≤ dsum (stepV ok D js) js k ∧ dsum (stepV ok D js) js k ≤ 1 := by
  rcases stepM_or ok D js (2 * js.length) with h | ⟨i, hi, h, _⟩
  · rw [show stepV ok D js = js from h, dsum_self]; omega
  · rw [show stepV ok D js = candM js i from h]
    unfold candM
    rw [dsum_try js (i / 2) (turnOf i) (by omega) k]
    have h1 : absV (turnOf i) = 1 := by unfold turnOf; split <;> rfl
    split
    · omega
    · omega
set_option maxHeartbeats 8000000 in
set_option maxRecDepth 100000 in
theorem walkFnStepJoints (w : World) (ht : TabAt w) (a : Option Addr) (len cap : Nat) (zs : List Int) (h : Bytes w a len cap zs) :
    Calls Tryd.prog 9 #[.slice a len cap] w fun e w' => e = .returned (.bool true) ∧ Below w.heap.size w w' := by
  have hle := h.len_le
  obtain ⟨hl, hm⟩ := hle
  unfold maxLen at hm
  have HT := Lib.hid ht
  clear ht
  by_cases hlen : len ≤ 1048576
  · go_enter Tryd.func9, Tryd.ntmps9
    go_wp2_with fail
    refine (drawStepJoints w a len cap zs h).mono ?_
    rintro e w1 ⟨⟨xa, xl, xc⟩, ⟨ya, yl, yc⟩, ⟨za, zl, zc⟩, ⟨sa, sl, sc⟩, ls, lo, hi, js, tx, ty, rfl, i1, i2, i3, i4, ⟨lx, ly, lz, ls4⟩, HTB, B1⟩
    simp only at i1 i2 i3 i4 lx ly lz ls4
    replace HTB := Lib.hid HTB
    have P := (AtA.box w1 (.slice xa xl xc) (.slice ya yl yc) (.slice za zl zc) 25).alloc (.cells #[.int .i64 tx, .int .i64 ty] 35)
    have Q := AtP.box (w1.alloc (.cells #[.slice xa xl xc, .slice ya yl yc, .slice za zl zc] 25)) tx ty 35
    rw [show (w1.alloc (.cells #[.slice xa xl xc, .slice ya yl yc, .slice za zl zc] 25)).heap.size = w1.heap.size + 1 by simp] at Q
    have Bx := below_box2 w1 (.cells #[.slice xa xl xc, .slice ya yl yc, .slice za zl zc] 25) (.cells #[.int .i64 tx, .int .i64 ty] 35)
    replace i1 := i1.next Bx
    replace i2 := i2.next Bx
    replace i3 := i3.next Bx
    replace i4 := i4.next Bx
    have HB := Lib.hid (below_call B1 Bx)
    clear B1 Bx h
    go_wp2_with fail
    refine (implStepJoints ⟨xa, xl, xc⟩ ⟨ya, yl, yc⟩ ⟨za, zl, zc⟩ ⟨sa, sl, sc⟩ ls lo hi js tx ty _ (HT.out.below HB.out HT.out.lt) i1 i2 i3 i4 (by simp only; omega) (by simp only; omega) (by simp only; omega) (by simp only; omega)).mono ?_
    generalize (w1.alloc (.cells #[.slice xa xl xc, .slice ya yl yc, .slice za zl zc] 25)).alloc (.cells #[.int .i64 tx, .int .i64 ty] 35) = w2 at *
    rintro e w3 ⟨⟨ca, cl, cc⟩, rfl, O3, e3, B3⟩
    replace i1 := i1.next B3
    replace i2 := i2.next B3
    replace i3 := i3.next B3
    replace i4 := i4.next B3
    replace P := P.next B3
    replace Q := Q.next B3
    replace HB := Lib.hid (below_call HB.out B3)
    simp only at O3 e3
    have i5 := O3.ints
    replace e3 := Lib.hid e3
    clear O3 B3
    obtain ⟨_, p1, p2, p3, _, _, _⟩ := id P
    obtain ⟨_, q1, q2⟩ := id Q
    go_wp2_with fail
    refine (specStepJoints ⟨xa, xl, xc⟩ ⟨ya, yl, yc⟩ ⟨za, zl, zc⟩ ⟨sa, sl, sc⟩ ls lo hi js tx ty _ i1 i2 i3 i4 (by simp only; omega) (by simp only; omega) (by simp only; omega) (by simp only; omega)).mono ?_
    rintro e w4 ⟨⟨da, dl, dc⟩, rfl, O4, e4, B4⟩
    replace i1 := i1.next B4
    replace i2 := i2.next B4
    replace i3 := i3.next B4
    replace i4 := i4.next B4
    replace P := P.next B4
    replace Q := Q.next B4
    replace i5 := i5.next B4
    replace HB := Lib.hid (below_call HB.out B4)
    simp only at O4 e4
    obtain rfl : cl = dl := by rw [e3.out, e4]
    have i6 := O4.ints
    clear O4 e4 B4 p1 p2 p3 q1 q2
    have hcl : cl ≤ 4 := by rw [e3.out]; exact stepsV_four ls lo hi js tx ty
    go_wp2_with fail
    refine (sameInts ca da cl cl cc dc (stepsV ls lo hi js tx ty) _ i5 i6 (by omega)).mono ?_
    rintro e w5 ⟨rfl, B5⟩
    replace i1 := i1.next B5
    replace i2 := i2.next B5
    replace i3 := i3.next B5
    replace i4 := i4.next B5
    replace P := P.next B5
    replace Q := Q.next B5
    replace i5 := i5.next B5
    replace HB := Lib.hid (below_call HB.out B5)
    clear B5 i6
    by_cases hv : okJoints ls lo hi js ∧ okP tx ty
    · rw [stepsV_in hv] at i5 e3
      have HV := Lib.hid hv
      have HOV := Lib.hid (stepV_ok (okJoints ls lo hi) (distV ls tx ty) hv.1)
      have HDS := Lib.hid (fun k => dsum_step (okJoints ls lo hi) (distV ls tx ty) js k)
      have HLE := Lib.hid (stepV_le (okJoints ls lo hi) (distV ls tx ty) js)
      have HSL := Lib.hid (show cl = js.length by rw [e3.out, stepV_len])
      have HJL := Lib.hid (show sl = js.length from i4.1)
      generalize hvs : stepV (okJoints ls lo hi) (distV ls tx ty) js = vs at *
      clear hvs
      have n1 : 1 ≤ cl := by rw [HSL.out, hv.1.2.1]; exact hv.1.1.1
      have ec : ((cl : Int) == 0) = false := by simp; omega
      have HBV := Lib.hid (fun k (hk : k < cl) => joint_bd HOV.out k (by rw [HOV.out.2.1, ← hv.1.2.1, ← HSL.out]; exact hk))
      have HBJ := Lib.hid (fun k (hk : k < cl) => joint_bd hv.1 k (by rw [← HSL.out]; exact hk))
      obtain ⟨cb, co, rfl, clt, c5⟩ := i5.some n1
      obtain ⟨sb, so, rfl, slt, s5⟩ := i4.some (by rw [HJL.out, ← HSL.out]; exact n1)
      have HC5 := Lib.hid (fun k (hk : k < cl) => And.intro (c5 k hk) (s5 k (by rw [HJL.out, ← HSL.out]; exact hk)))
      have hsl : cl ≤ sl := by rw [HJL.out, ← HSL.out]; exact Nat.le_refl _
      clear hv c5 s5 HSL HJL
      go_wp2_with fail
      go_loopw [7, 8] (fun n i wr => ∃ k : Nat, k ≤ cl ∧ i = .int .i64 (k : Int) ∧ n = .int .i64 (dsum vs js k) ∧ Hid (Below w5.heap.size w5 wr)) (fun _ i _ => cl - (intOf i).toNat)
      case atStart => exact ⟨0, Nat.zero_le _, rfl, rfl, Lib.hid (Below.refl _ _)⟩
      case round =>
        obtain ⟨k, hk, rfl, rfl, HW⟩ := hrel
        by_cases hlt : k < cl
        · obtain ⟨d1, d2⟩ := HDS.out k
          obtain ⟨v1, v2⟩ := HBV.out k hlt
          obtain ⟨j1, j2⟩ := HBJ.out k hlt
          have k1 := keptCell (o := co + k) (Nat.lt_of_lt_of_le clt HW.out.size) ((HW.out.cell (p := ⟨cb, co + k, none⟩) clt).trans (HC5.out k hlt).1)
          have k2 := keptCell (o := so + k) (Nat.lt_of_lt_of_le slt HW.out.size) ((HW.out.cell (p := ⟨sb, so + k, none⟩) slt).trans (HC5.out k hlt).2)
          have HSU := Lib.hid (show dsum vs js (k + 1) = dsum vs js k + absV (vs.getD k 0 - js.getD k 0) from rfl)
          generalize vs.getD k 0 = vk at *
          generalize js.getD k 0 = jk at *
          have x1 : (0 : Int) ≤ (k : Int) := by omega
          have x2 : (k : Int) < (cl : Int) := by omega
          have x3 : (k : Int) < (sl : Int) := by omega
          have o1 : IntKind.i64.wrap (vk - jk) = vk - jk := IntWalk.i64_in _ (by omega)
          have ab : 0 ≤ absV (vk - jk) ∧ absV (vk - jk) ≤ 1000 := by unfold absV; omega
          have HAB := Lib.hid (fun (n : Kept wr) => keptCall (absS (vk - jk) n.u (by omega) (by omega)))
          generalize absV (vk - jk) = av' at *
          generalize dsum vs js k = dk at *
          have o2 : IntKind.i64.wrap (dk + av') = dk + av' := IntWalk.i64_in _ (by omega)
          go_wp2
          refine wp_region_kept (by kernel_rfl) (by kernel_rfl) ?_
          repeat (go_big_quiet_step ((first | (go_at_call 47; with_reducible exact HAB.out _))))
          refine wpQuiet_nil ?_
          rintro wq ⟨⟨_, Bq⟩, rfl⟩
          have HW2 := Lib.hid (below_call HW.out Bq)
          clear k1 k2 HAB Bq
          go_wp2
          go_roundw
          case rel => exact ⟨k + 1, by omega, by congr 1, by rw [HSU.out], HW2⟩
          case measure => simp [intOf]; omega
        · obtain rfl : k = cl := by omega
          have hk2 : ¬ ((k : Int) < (k : Int)) := by omega
          obtain ⟨d1, d2⟩ := HDS.out k
          have hd : decide (dsum vs js k ≤ 1) = true := decide_eq_true d2
          generalize dsum vs js k = dk at *
          replace i1 := i1.next HW.out
          replace i2 := i2.next HW.out
          replace i3 := i3.next HW.out
          replace i4 := i4.next HW.out
          replace i5 := i5.next HW.out
          replace P := P.next HW.out
          replace Q := Q.next HW.out
          replace HB := Lib.hid (below_call HB.out HW.out)
          have HTB2 := Lib.hid (HT.out.below HB.out HT.out.lt)
          have HJV := Lib.hid (fun (n : Kept wr) => keptCall (implJointsValid ⟨xa, xl, xc⟩ ⟨ya, yl, yc⟩ ⟨za, zl, zc⟩ ⟨some ⟨cb, co, none⟩, k, cc⟩ ls lo hi vs n.u (i1.next n.b) (i2.next n.b) (i3.next n.b) (i5.next n.b) (by simp only; omega) (by simp only; omega) (by simp only; omega) (by simp only; omega)))
          rw [decide_eq_true HOV.out] at HJV
          have HT1 := Lib.hid (fun (n : Kept wr) => keptCall (implTipOf ⟨xa, xl, xc⟩ ⟨ya, yl, yc⟩ ⟨za, zl, zc⟩ ⟨some ⟨cb, co, none⟩, k, cc⟩ ls lo hi vs n.u (HTB2.out.below n.b HTB2.out.lt) (i1.next n.b) (i2.next n.b) (i3.next n.b) (i5.next n.b) (by simp only; omega) (by simp only; omega) (by simp only; omega) (by simp only; omega)))
          have HT2 := Lib.hid (fun (n : Kept wr) => keptCall (implTipOf ⟨xa, xl, xc⟩ ⟨ya, yl, yc⟩ ⟨za, zl, zc⟩ ⟨some ⟨sb, so, none⟩, sl, sc⟩ ls lo hi js n.u (HTB2.out.below n.b HTB2.out.lt) (i1.next n.b) (i2.next n.b) (i3.next n.b) (i4.next n.b) (by simp only; omega) (by simp only; omega) (by simp only; omega) (by simp only; omega)))
          have HS1 := Lib.hid (fun (n : Kept wr) => keptCall (implSquaredDistance (tipX ls lo hi vs) (tipY ls lo hi vs) tx ty n.u))
          have HS2 := Lib.hid (fun (n : Kept wr) => keptCall (implSquaredDistance (tipX ls lo hi js) (tipY ls lo hi js) tx ty n.u))
          rw [tip_dist tx ty HOV.out] at HS1
          rw [tip_dist tx ty HV.out.1] at HS2
          have he : decide (distV ls tx ty vs ≤ distV ls tx ty js) = true := decide_eq_true HLE.out
          generalize distV ls tx ty vs = dv at *
          generalize distV ls tx ty js = dj at *
          generalize tipX ls lo hi vs = ax at *
          generalize tipY ls lo hi vs = ay at *
          generalize tipX ls lo hi js = bx at *
          generalize tipY ls lo hi js = by' at *
          obtain ⟨a0, a1, a2⟩ := P.kepts
          obtain ⟨q0, q1⟩ := Q.kepts
          clear i1 i2 i3 i4 i5 P Q d1 d2
          go_wp2
          refine wp_region_kept (by kernel_rfl) (by kernel_rfl) ?_
          repeat (go_big_quiet_step ((first | (go_at_call 36; with_reducible exact HJV.out _) | (go_at_call 33; with_reducible exact HT1.out _) | (go_at_call 33; with_reducible exact HT2.out _) | (go_at_call 21; with_reducible exact HS1.out _) | (go_at_call 21; with_reducible exact HS2.out _))))
          refine wpQuiet_nil ?_
          rintro wq ⟨⟨_, Bq⟩, rfl⟩
          have HE := Lib.hid (below_call HB.out Bq)
          clear Bq
          go_wp2
          go_ret
          exact ⟨rfl, HE.out⟩
    · obtain rfl : cl = 0 := by
        have h1 := e3.out
        unfold stepsV at h1
        rw [if_neg hv] at h1
        exact h1
      clear i1 i2 i3 i4 i5 P Q hv
      go_wp2_with fail
      refine (alive _).mono ?_
      rintro e w' ⟨rfl, rfl⟩
      go_wp2
      go_ret
      exact ⟨rfl, HB.out⟩
  · clear h
    go_enter Tryd.func9, Tryd.ntmps9
    go_wp2
    go_ret
    exact ⟨rfl, Below.refl _ _⟩
end Go.Proofs.YtolkihibjabmhaaDoor
