/- Several of my texts in one: DrawD, DrawE, DrawF, DrawP, DrawQ, DrawS. -/
import Derived.Test.YtolkihibjabmhaaDoorDrawC
import Derived.Test.YtolkihibjabmhaaDoorArm3b
import Derived.Test.YtolkihibjabmhaaDoorDraw3j
import Derived.Test.YtolkihibjabmhaaDoorDraw2
import Derived.Test.YtolkihibjabmhaaDoorEArmValid
import Derived.Test.YtolkihibjabmhaaDoorSp6
import Derived.Deep.RegionHeld3
import Derived.Deep.CutBlock
import Derived.Outline
import Derived.Test.YtolkihibjabmhaaDoorDrawA
import Derived.Test.YtolkihibjabmhaaDoorDrawO
import Derived.Deep.LoopGhost
import Derived.Test.YtolkihibjabmhaaDoorKept
namespace Go.Proofs.YtolkihibjabmhaaDoor
set_option maxRecDepth 100000
open Go.RowKit
attribute [local go_sem ↓] Go.wp_at_zero Go.wp_at_succ
theorem odd0 (r : Nat) (w : World) : Calls Tryd.prog 70 #[.pointer (some ⟨r, 0, none⟩), .int .i64 0] w fun e w' => e = .returned (.bool false) ∧ w = w' := by
  go_enter Tryd.func70, Tryd.ntmps70
  go_wp2
  go_ret
  exact ⟨rfl, rfl⟩
/-- The first k angles are within their ranges, where these are not empty. -/
def InJ (lo hi js : List Int) (k : Nat) : Prop := ∀ i, i < k → lo.getD i 0 ≤ hi.getD i 0 → lo.getD i 0 ≤ js.getD i 0 ∧ js.getD i 0 ≤ hi.getD i 0
theorem inJ_snoc {lo hi js : List Int} {k : Nat} {p : Int} (hl : js.length = k) (h : InJ lo hi js k) (p0 : 0 ≤ p) (p1 : p < if 1 < hi.getD k 0 - lo.getD k 0 + 1 then hi.getD k 0 - lo.getD k 0 + 1 else 1) : InJ lo hi (js ++ [lo.getD k 0 + p]) (k + 1) := by
  intro i hi' hlo
  by_cases he : i < k
  · have e : (js ++ [lo.getD k 0 + p]).getD i 0 = js.getD i 0 := by
      rw [List.getD_eq_getElem?_getD, List.getElem?_append_left (by omega), ← List.getD_eq_getElem?_getD]
    rw [e]
    exact h i he hlo
  · obtain rfl : i = k := by omega
    have e : (js ++ [lo.getD i 0 + p]).getD i 0 = lo.getD i 0 + p := by
      rw [List.getD_eq_getElem?_getD, List.getElem?_append_right (by omega), hl, Nat.sub_self]; rfl
    rw [e]
    split at p1 <;> omega
theorem joints_in {ls lo hi js : List Int} {xl yl zl k : Nat} (hx : xl = ls.length) (hy : yl = lo.length) (hz : zl = hi.length) (hl : js.length = k) (hj : InJ lo hi js k) (hk : k = xl ∨ k = yl ∨ k = zl) (hok : okArm ls lo hi) : okJoints ls lo hi js := by
  have e1 := hok.2.2.1
  have e2 := hok.2.2.2.1
  have e : js.length = ls.length := by omega
  refine ⟨hok, e, fun i hi' => ?_⟩
  have h := hok.2.2.2.2 i (by omega)
  unfold okLink at h
  exact hj i (by omega) (by omega)
/-- What a draw of angles within their ranges says. -/
def DrawnJ0 (ls lo hi : List Int) (B M r : Nat) (w : World) (e : Ending) (w' : World) : Prop :=
  ∃ (s : Sl) (js : List Int), e = .returned (.slice s.a s.len s.cap) ∧ IntsFrom w' w.heap.size s.a s.len js ∧ (okArm ls lo hi → okJoints ls lo hi js) ∧ Rd B M w' r ∧ w.grownBy w' (some r)
theorem JSt.done0 {w0 u : World} {ls lo hi : List Int} {B M M' r : Nat} {x y z v : Value} {js : List Int} (h : JSt w0 B M r u x y z v js) (hM : M ≤ M') (ho : okArm ls lo hi → okJoints ls lo hi js) (e : Ending) (he : e = .returned v) : DrawnJ0 ls lo hi B M' r w0 e u := by
  obtain ⟨s, rfl, e1, e2⟩ := OwnI.slv h.own
  exact ⟨s, js, he, h.own.from.down (by omega), ho, h.rd.mono hM, h.gr⟩
set_option maxHeartbeats 4000000 in
set_option maxRecDepth 100000 in
theorem l20Joints0 (B M r : Nat) (x y z : Sl) (ls lo hi : List Int) (w : World) (hr : Rd B M w r) (hM : M ≤ 900000)
    (hx : IntsFrom w (r + 1) x.a x.len ls) (hy : IntsFrom w (r + 1) y.a y.len lo) (hz : IntsFrom w (r + 1) z.a z.len hi) (lx : x.len ≤ 5) (ly : y.len ≤ 4) (lz : z.len ≤ 4) (ty : Sm 2000 lo) (tz : Sm 2000 hi) :
    Calls Tryd.prog 55 #[.pointer (some ⟨r, 0, none⟩), av x y z, .int .i64 0] w (DrawnJ0 ls lo hi B (M + 16) r w) := by
  obtain ⟨i0, hi0, hz0, hz1, hz2⟩ := info_parts infoInt
  obtain ⟨xa, xl, xc⟩ := x
  obtain ⟨ya, yl, yc⟩ := y
  obtain ⟨za, zl, zc⟩ := z
  simp only at *
  have hrlt := hr.lt
  have hrge := hr.ge
  have S0 := JSt.start w B M r hr (.slice xa xl xc) (.slice ya yl yc) (.slice za zl zc) 25
  have HY := Lib.hid hy
  have HZ := Lib.hid hz
  have HT := Lib.hid (And.intro ty tz)
  have HFIN := Lib.hid (fun (js : List Int) (k : Nat) (hl : js.length = k) (hj : InJ lo hi js k) (hk : k ≤ xl ∧ (k = xl ∨ k = yl ∨ k = zl)) => joints_in (ls := ls) hx.1 hy.1 hz.1 hl hj hk.2)
  clear hr hx hy hz ty tz
  go_enter Tryd.func55, Tryd.ntmps55
  go_upto_block 0 with fail
  generalize (w.alloc (.cells #[.slice xa xl xc, .slice ya yl yc, .slice za zl zc] 25)).alloc (.cells #[] 3) = u0 at *
  go_cut [7] (fun v wx => ∃ (k : Nat) (js : List Int), Hid (JSt w B (M + k) r wx (.slice xa xl xc) (.slice ya yl yc) (.slice za zl zc) v js) ∧ Hid (js.length = k) ∧ k ≤ yl ∧ k ≤ zl ∧ Hid (InJ lo hi js k) ∧ Hid (k ≤ xl ∧ (k = xl ∨ k = yl ∨ k = zl)))
  case first =>
    go_wp2_with fail
    go_loopw [7, 8] (fun v i wr => ∃ (k : Nat) (js : List Int), i = .int .i64 (k : Int) ∧ Hid (JSt w B (M + k) r wr (.slice xa xl xc) (.slice ya yl yc) (.slice za zl zc) v js) ∧ Hid (js.length = k) ∧ k ≤ yl ∧ k ≤ zl ∧ Hid (InJ lo hi js k) ∧ Hid (k ≤ xl)) (fun _ i _ => yl - (intOf i).toNat)
    case atStart => exact ⟨0, [], rfl, Lib.hid S0, Lib.hid rfl, Nat.zero_le _, Nat.zero_le _, Lib.hid (fun _ h => absurd h (Nat.not_lt_zero _)), Lib.hid (Nat.zero_le _)⟩
    case round =>
      obtain ⟨k, js, rfl, HS, HL, ky, kz, HIJ, HKX⟩ := hrel
      obtain ⟨_, c0, c1, c2, _, _, _⟩ := id HS.out.arm
      clear S0
      by_cases h1 : k < xl
      · by_cases h2 : k < yl
        · by_cases h3 : k < zl
          · obtain ⟨b2, o2, rfl, _, lt2, HC2⟩ : ∃ b off, ya = some ⟨b, off, none⟩ ∧ r + 1 ≤ b ∧ b < w.heap.size ∧ Hid (∀ u : World, w.grownBy u (some r) → u.cell? ⟨b, off + k, none⟩ = some (.int .i64 (lo.getD k 0))) := by
              obtain ⟨b, off, e1, e2, e3, _⟩ := HY.out.cellAt HS.out.gr (by omega) h2
              refine ⟨b, off, e1, e2, e3, Lib.hid fun u hu => ?_⟩
              obtain ⟨b', off', f1, f2, f3, f4⟩ := HY.out.cellAt hu (by omega) h2
              rw [e1] at f1; simp at f1
              obtain ⟨rfl, rfl⟩ := f1
              exact f4
            obtain ⟨b3, o3, rfl, _, lt3, HC3⟩ : ∃ b off, za = some ⟨b, off, none⟩ ∧ r + 1 ≤ b ∧ b < w.heap.size ∧ Hid (∀ u : World, w.grownBy u (some r) → u.cell? ⟨b, off + k, none⟩ = some (.int .i64 (hi.getD k 0))) := by
              obtain ⟨b, off, e1, e2, e3, _⟩ := HZ.out.cellAt HS.out.gr (by omega) h3
              refine ⟨b, off, e1, e2, e3, Lib.hid fun u hu => ?_⟩
              obtain ⟨b', off', f1, f2, f3, f4⟩ := HZ.out.cellAt hu (by omega) h3
              rw [e1] at f1; simp at f1
              obtain ⟨rfl, rfl⟩ := f1
              exact f4
            obtain ⟨t1, t2⟩ := HT.out.1 k
            obtain ⟨t3, t4⟩ := HT.out.2 k
            have HQ := Lib.hid (fun (u : World) (M' : Nat) (v : Value) (js' : List Int) (S : JSt w B M' r u (.slice xa xl xc) (.slice (some ⟨b2, o2, none⟩) yl yc) (.slice (some ⟨b3, o3, none⟩) zl zc) v js') => And.intro S.arm.c1 (And.intro S.arm.c2 (And.intro (HC2.out u S.gr) (HC3.out u S.gr))))
            have HJN := Lib.hid (fun (p : Int) (p0 : 0 ≤ p) (p1 : p < if 1 < hi.getD k 0 - lo.getD k 0 + 1 then hi.getD k 0 - lo.getD k 0 + 1 else 1) => inJ_snoc HL.out HIJ.out p0 p1)
            generalize lo.getD k 0 = o at *
            generalize hi.getD k 0 = h at *
            have j1 : (0 : Int) ≤ (k : Int) := by omega
            have j2 : (k : Int) < (yl : Int) := by omega
            have j3 : (k : Int) < (zl : Int) := by omega
            have w1 : IntKind.i64.wrap (h - o) = h - o := IntWalk.i64_in _ (by omega)
            have w2 : IntKind.i64.wrap (h - o + 1) = h - o + 1 := IntWalk.i64_in _ (by omega)
            have Sd := HS.out.drew
            have k1 := HQ.out _ _ _ _ Sd
            have hMk : M + k ≤ 1000000 := by omega
            have hBw : B ≤ w.heap.size := by omega
            have HL1 := Lib.hid (show js.length + 1 ≤ maxLen by rw [HL.out]; unfold maxLen; omega)
            have HL2 := Lib.hid (show (js.length + 1) * 8 ≤ 140737488355328 by rw [HL.out]; omega)
            go_wp2
            obtain ⟨mx, hif, m1, m2⟩ : ∃ mx : Int, (if 1 < h - o + 1 then h - o + 1 else 1) = mx ∧ 1 ≤ mx ∧ mx ≤ 4500 := ⟨_, rfl, by split <;> omega, by split <;> omega⟩
            go_region_held3 (fun u => u.cell? ⟨w.heap.size, 1, none⟩ = some (.slice (some ⟨b2, o2, none⟩) yl yc) ∧ u.cell? ⟨w.heap.size, 2, none⟩ = some (.slice (some ⟨b3, o3, none⟩) zl zc) ∧ u.cell? ⟨b2, o2 + k, none⟩ = some (.int .i64 o) ∧ u.cell? ⟨b3, o3 + k, none⟩ = some (.int .i64 h)) (first | exact k1 | exact k2 | exact k3 | exact k4) (first
              | (go_at_call 54
                 (with_reducible refine (pick B (M + k) r mx _ Sd.rd hMk).mono ?_)
                 rintro e w1 ⟨p, a1, b1, rfl, hr1, hg1, hs1⟩
                 have b2' : p < 4500 := by have := b1 (by omega); omega
                 have HIN := Lib.hid (HJN.out p a1 (by rw [hif]; exact b1 (by omega)))
                 have S1 := Sd.pick hr1 hg1 hrlt
                 have HSa := Lib.hid (S1.alloc (.cells #[.int .i64 (o + p)] 3))
                 have k2 := HQ.out _ _ _ _ S1
                 have k3 := HQ.out _ _ _ _ HSa.out
                 have HN := Lib.hid (cell_one_new' w1 (.int .i64 (o + p)) 3)
                 have HH := Lib.hid HSa.out.base
                 have w3 : IntKind.i64.wrap (o + p) = o + p := IntWalk.i64_in _ (by omega)
                 clear b1 hs1 hr1 hg1)
              | (refine step_append_lies _ rfl (.tmp 32) (.tmp 54) 23 rfl (w.heap.size + 1) 3 i0 (.int .i64 0) 1 8 Tryd.underlying23 hi0 hz0 hz1 hz2 rfl (by decide) _ js.length (vals js) rfl HSa.out.own ⟨w1.heap.size, 0, none⟩ 1 1 [.int .i64 (o + p)] rfl rfl HN.out (by intro u hu; simp at hu; subst hu; rfl) Nat.one_pos HL1.out HL2.out HH.out _ rfl ?_
                 intro g cap w3 own3 grow3 at3 ltg
                 have HA3 : Hid (App (w1.alloc (.cells #[.int .i64 (o + p)] 3)) w3 (w.heap.size + 1) u7 (js ++ [o + p]) g (js.length + 1) cap) := Lib.hid ⟨by rw [vals_snoc]; exact own3, grow3, at3⟩
                 have HS3 := Lib.hid (HSa.out.app hrlt hBw HA3.out)
                 have k4 := HQ.out _ _ _ _ HS3.out
                 clear own3 grow3 at3 ltg)
              | fail)
            all_goals
              go_wp2
              go_roundw
              case rel => exact ⟨k + 1, js ++ [o + p], by congr 1, HS3, Lib.hid (by simp [HL.out]), by omega, by omega, HIN, Lib.hid (by omega)⟩
              case measure => simp [intOf]; omega
          · have hb : decide (k < zl) = false := decide_eq_false h3
            go_wp2
            go_meet
            exact ⟨k, js, HS, HL, ky, kz, HIJ, Lib.hid ⟨HKX.out, .inr (.inr (by omega))⟩⟩
        · have hb : decide (k < yl) = false := decide_eq_false h2
          go_wp2
          go_meet
          exact ⟨k, js, HS, HL, ky, kz, HIJ, Lib.hid ⟨HKX.out, .inr (.inl (by omega))⟩⟩
      · have hb : decide (k < xl) = false := decide_eq_false h1
        go_wp2
        go_meet
        exact ⟨k, js, HS, HL, ky, kz, HIJ, Lib.hid ⟨HKX.out, .inl (by have := HKX.out; omega)⟩⟩
  case rest =>
    obtain ⟨k, js, HS, HL, ky, kz, HIJ, HKX⟩ := hcut
    have HOJ := Lib.hid (HFIN.out js k HL.out HIJ.out HKX.out)
    clear S0
    by_cases hk0 : 1 ≤ k
    · obtain ⟨g, cap, rfl, hg, hc⟩ := HS.out.own.at (by rw [HL.out]; exact hk0)
      have HD := Lib.hid (HS.out.done0 (M' := M + 16) (by omega) HOJ.out)
      rw [HL.out]
      rw [HL.out] at HD
      clear HS hc
      have h0 : 0 < k := hk0
      go_wp2_with fail
      refine (odd0 r _).mono ?_
      rintro e w' ⟨rfl, rfl⟩
      go_wp2
      go_ret
      exact HD.out _ rfl
    · obtain rfl : k = 0 := by omega
      obtain ⟨⟨sa, sl, sc⟩, rfl, e1, e2⟩ := OwnI.slv HS.out.own
      simp only at e1 e2
      obtain rfl : sl = 0 := by rw [e1]; exact HL.out
      have HD := Lib.hid (HS.out.done0 (M' := M + 16) (by omega) HOJ.out)
      clear e1 e2 HS hk0
      go_wp2
      go_ret
      exact HD.out _ rfl
end Go.Proofs.YtolkihibjabmhaaDoor
namespace Go.Proofs.YtolkihibjabmhaaDoor
open Go.RowKit
attribute [local go_sem ↓] Go.wp_at_zero Go.wp_at_succ
/-- What the draw of a target holds: the reader, the arm's box, the result's box. -/
structure TSt (w0 : World) (B M r : Nat) (u : World) (x y z : Sl) : Prop where
  rd : Rd B M u r
  gr : w0.grownBy u (some r)
  arm : AtA u w0.heap.size (.slice x.a x.len x.cap) (.slice y.a y.len y.cap) (.slice z.a z.len z.cap)
  res : OwnP u (w0.heap.size + 1) 0 0
theorem Rd.next {B M r : Nat} {u u' : World} (h : Rd B M u r) (hb : Below u.heap.size u u') : Rd B M u' r := h.kept (grown_of hb : u.grownBy u' none) (by simp) (fun k hk => by cases hk)
theorem TSt.next {w0 u : World} {B M r : Nat} {x y z : Sl} {u' : World} (h : TSt w0 B M r u x y z) (hb : Below u.heap.size u u') : TSt w0 B M r u' x y z :=
  ⟨h.rd.next hb, h.gr.trans (grown_of hb), h.arm.next hb, h.res.next hb⟩
theorem TSt.nextB {w0 u : World} {B M r : Nat} {x y z : Sl} {u' : World} (hb : Below u.heap.size u u') (h : TSt w0 B M r u x y z) : TSt w0 B M r u' x y z := h.next hb
theorem TSt.drew {w0 u : World} {B M r : Nat} {x y z : Sl} (h : TSt w0 B M r u x y z) : TSt w0 B M r u.drew x y z := h.next (below_drew' u)
theorem TSt.alloc {w0 u : World} {B M r : Nat} {x y z : Sl} (h : TSt w0 B M r u x y z) {o : Obj} : TSt w0 B M r (u.alloc o) x y z := h.next (below_box u o)
theorem TSt.grown {w0 u : World} {B M r : Nat} {x y z : Sl} {u' : World} {M' : Nat} (h : TSt w0 B M r u x y z) (hr : Rd B M' u' r) (hg : u.grownBy u' (some r)) (hlt : r < w0.heap.size) : TSt w0 B M' r u' x y z :=
  ⟨hr, h.gr.trans hg, h.arm.kept hg (by simp; omega), h.res.grown hg (by omega)⟩
theorem TSt.far {w0 u : World} {B M r : Nat} {x y z : Sl} {c o : Nat} (h : TSt w0 B M r u x y z) (hc : w0.heap.size + 1 < c) (hlt : r < w0.heap.size) (hB : B ≤ w0.heap.size) (v : Value) : TSt w0 B M r (u.setCell ⟨c, o, none⟩ v) x y z :=
  ⟨h.rd.set (by omega) (by omega) _, only_set h.gr (by omega) _, h.arm.far (by omega) _, h.res.far (by omega) _⟩
theorem TSt.cells {w0 u : World} {B M r : Nat} {x y z : Sl} (h : TSt w0 B M r u x y z) : u.cell? ⟨w0.heap.size, 0, none⟩ = some (.slice x.a x.len x.cap) ∧ u.cell? ⟨w0.heap.size, 1, none⟩ = some (.slice y.a y.len y.cap) ∧ u.cell? ⟨w0.heap.size, 2, none⟩ = some (.slice z.a z.len z.cap) := ⟨h.arm.c0, h.arm.c1, h.arm.c2⟩
/-- What a draw of a target says: its coordinates are small. -/
def DrawnT (B M r : Nat) (w : World) (e : Ending) (w' : World) : Prop :=
  ∃ x y : Int, -20000 ≤ x ∧ x ≤ 20000 ∧ -20000 ≤ y ∧ y ≤ 20000 ∧ e = .returned (pt x y) ∧ Rd B M w' r ∧ w.grownBy w' (some r)
theorem TSt.done {w0 u : World} {B M r : Nat} {x y z : Sl} {M' : Nat} (h : TSt w0 B M r u x y z) (hr : r < w0.heap.size) (hB : B ≤ w0.heap.size) (hM : M ≤ M') (a b : Value) :
    Rd B M' ((u.setCell ⟨w0.heap.size + 1, 0, none⟩ a).setCell ⟨w0.heap.size + 1, 1, none⟩ b) r ∧ w0.grownBy ((u.setCell ⟨w0.heap.size + 1, 0, none⟩ a).setCell ⟨w0.heap.size + 1, 1, none⟩ b) (some r) :=
  ⟨((h.rd.set (by omega) (by omega) _).set (by omega) (by omega) _).mono hM, only_set (only_set h.gr (by omega) _) (by omega) _⟩
set_option maxHeartbeats 4000000 in
theorem l20Target (B M r : Nat) (x y z : Sl) (ls lo hi : List Int) (w : World) (hr : Rd B M w r) (hM : M ≤ 800000)
    (hx : IntsFrom w (r + 1) x.a x.len ls) (hy : IntsFrom w (r + 1) y.a y.len lo) (hz : IntsFrom w (r + 1) z.a z.len hi) (lx : x.len ≤ 5) (ly : y.len ≤ 4) (lz : z.len ≤ 4) (ty : Sm 2000 lo) (tz : Sm 2000 hi) :
    Calls Tryd.prog 71 #[.pointer (some ⟨r, 0, none⟩), av x y z] w (DrawnT B (M + 20) r w) := by
  obtain ⟨xa, xl, xc⟩ := x
  obtain ⟨ya, yl, yc⟩ := y
  obtain ⟨za, zl, zc⟩ := z
  simp only at *
  have hrlt := hr.lt
  have hrge := hr.ge
  have hrge' : B ≤ w.heap.size := by omega
  have Rs := OwnP.box (w.alloc (.cells #[.slice xa xl xc, .slice ya yl yc, .slice za zl zc] 25)) 0 0 35
  rw [show (w.alloc (.cells #[.slice xa xl xc, .slice ya yl yc, .slice za zl zc] 25)).heap.size = w.heap.size + 1 by simp] at Rs
  have Bw := below_box2 w (.cells #[.slice xa xl xc, .slice ya yl yc, .slice za zl zc] 25) (.cells #[.int .i64 0, .int .i64 0] 35)
  have S0 : TSt w B M r ((w.alloc (.cells #[.slice xa xl xc, .slice ya yl yc, .slice za zl zc] 25)).alloc (.cells #[.int .i64 0, .int .i64 0] 35)) ⟨xa, xl, xc⟩ ⟨ya, yl, yc⟩ ⟨za, zl, zc⟩ := ⟨hr.next Bw, grown_of Bw, (AtA.box w _ _ _ _).alloc _, Rs⟩
  have HTY := Lib.hid (And.intro ty tz)
  have HL := Lib.hid (fun (u : World) (hg : w.grownBy u (some r)) => And.intro (hx.kept hg (fun k hk => by injection hk with hk; omega)) (And.intro (hy.kept hg (fun k hk => by injection hk with hk; omega)) (hz.kept hg (fun k hk => by injection hk with hk; omega))))
  clear hr hx hy hz ty tz Bw Rs
  go_enter Tryd.func71, Tryd.ntmps71
  go_wp2_with fail
  refine (pick B M r 3 _ S0.rd (by omega)).mono ?_
  generalize (w.alloc (.cells #[.slice xa xl xc, .slice ya yl yc, .slice za zl zc] 25)).alloc (.cells #[.int .i64 0, .int .i64 0] 35) = w0 at *
  rintro e w1 ⟨p, a1, b1, rfl, hr1, hg1, hs1⟩
  have S1 := S0.grown hr1 hg1 hrlt
  clear b1 hr1 hg1 hs1 S0
  obtain ⟨_, c0, c1, c2, _, _, _⟩ := id S1.arm
  by_cases hp : 0 < p
  · have t1 : decide (0 < p) = true := decide_eq_true hp
    go_wp2_with fail
    refine (specArmValid ⟨xa, xl, xc⟩ ⟨ya, yl, yc⟩ ⟨za, zl, zc⟩ ls lo hi _ (HL.out _ S1.gr).1.ints (HL.out _ S1.gr).2.1.ints (HL.out _ S1.gr).2.2.ints (by simp only; omega) (by simp only; omega) (by simp only; omega)).mono ?_
    by_cases hok : okArm ls lo hi
    · rw [decide_eq_true hok]
      rintro e w2 ⟨rfl, B2⟩
      have S2 := S1.next B2
      have hw2 : w.heap.size + 1 < w2.heap.size := S2.res.lt
      clear B2 S1 c0 c1 c2 t1 hp
      go_upto_region 2 with fail
      go_cut [5] from 13 to 18 (fun v wx => ∃ (b5 : Nat) (tx ty : Int), v = .pointer (some ⟨b5, 0, none⟩) ∧ Hid (TSt w B (M + 1 + 16) r wx ⟨xa, xl, xc⟩ ⟨ya, yl, yc⟩ ⟨za, zl, zc⟩) ∧ Hid (OwnP wx b5 tx ty) ∧ w.heap.size + 1 < b5 ∧ (-10000 ≤ tx ∧ tx ≤ 10000 ∧ -10000 ≤ ty ∧ ty ≤ 10000))
      case first =>
        have HJT := Lib.hid (fun (u : World) (h : TSt w B (M + 1) r u ⟨xa, xl, xc⟩ ⟨ya, yl, yc⟩ ⟨za, zl, zc⟩) => show Calls Tryd.prog 55 #[.pointer (some ⟨r, 0, none⟩), av ⟨xa, xl, xc⟩ ⟨ya, yl, yc⟩ ⟨za, zl, zc⟩, .int .i64 0] u fun e u' => ∃ (s : Sl) (js : List Int), e = .returned (.slice s.a s.len s.cap) ∧ Hid (IntsAt u' s.a s.len js ∧ okJoints ls lo hi js ∧ u.grownBy u' (some r)) ∧ TSt w B (M + 1 + 16) r u' ⟨xa, xl, xc⟩ ⟨ya, yl, yc⟩ ⟨za, zl, zc⟩ from
          (l20Joints0 B (M + 1) r ⟨xa, xl, xc⟩ ⟨ya, yl, yc⟩ ⟨za, zl, zc⟩ ls lo hi u h.rd (by omega) (HL.out _ h.gr).1 (HL.out _ h.gr).2.1 (HL.out _ h.gr).2.2 lx ly lz HTY.out.1 HTY.out.2).mono fun e u' ⟨s, js, he, hi', ho, hr, hg⟩ => ⟨s, js, he, Lib.hid ⟨hi'.ints, ho hok, hg⟩, h.grown hr hg hrlt⟩)
        have HTP := Lib.hid (fun (sa : Option Addr) (sl sc : Nat) (js : List Int) (u5 w5 : World) (H5 : Hid (IntsAt w5 sa sl js ∧ okJoints ls lo hi js ∧ u5.grownBy w5 (some r))) (T5 : TSt w B (M + 1 + 16) r w5 ⟨xa, xl, xc⟩ ⟨ya, yl, yc⟩ ⟨za, zl, zc⟩) (u : World) (hu : Below w5.heap.size w5 u) => show Calls Tryd.prog 68 #[av ⟨xa, xl, xc⟩ ⟨ya, yl, yc⟩ ⟨za, zl, zc⟩, .slice sa sl sc] u fun e u' => ∃ tx ty : Int, e = .returned (pt tx ty) ∧ Hid (-10000 ≤ tx ∧ tx ≤ 10000 ∧ -10000 ≤ ty ∧ ty ≤ 10000) ∧ Below u.heap.size u u' from
          (l3Tip ⟨xa, xl, xc⟩ ⟨ya, yl, yc⟩ ⟨za, zl, zc⟩ ⟨sa, sl, sc⟩ ls lo hi js u ((HL.out _ T5.gr).1.ints.next hu) (H5.out.1.next hu) H5.out.2.1).mono fun e u' ⟨he, hb⟩ => ⟨_, _, he, Lib.hid (tip_ok H5.out.2.1), hb⟩)
        clear hok HTY
        have k1 := S2.drew.cells
        go_wp2
        go_region_held3 (fun u => u.cell? ⟨w.heap.size, 0, none⟩ = some (.slice xa xl xc) ∧ u.cell? ⟨w.heap.size, 1, none⟩ = some (.slice ya yl yc) ∧ u.cell? ⟨w.heap.size, 2, none⟩ = some (.slice za zl zc)) (exact TSt.cells (B := B) (r := r) (x := ⟨xa, xl, xc⟩) (y := ⟨ya, yl, yc⟩) (z := ⟨za, zl, zc⟩) (by repeat (first | (with_reducible assumption) | (with_reducible apply TSt.drew) | (with_reducible apply TSt.alloc)))) (first
          | (go_at_call 55
             (with_reducible refine (HJT.out _ (by repeat (first | (with_reducible assumption) | (with_reducible apply TSt.drew) | (with_reducible apply TSt.alloc)))).mono ?_)
             rintro e w5 ⟨⟨sa, sl, sc⟩, js, rfl, H5, T5⟩)
          | (go_at_call 68
             (with_reducible refine (HTP.out _ _ _ js _ w5 H5 T5 _ (by first | exact Below.refl _ _ | exact below_box _ _)).mono ?_)
             rintro e w6 ⟨tx, ty, rfl, HBD, B6⟩
             have T6 := TSt.nextB (B := B) (M := M + 1 + 16) (r := r) (x := ⟨xa, xl, xc⟩) (y := ⟨ya, yl, yc⟩) (z := ⟨za, zl, zc⟩) (w0 := w) B6 (by repeat (first | (with_reducible assumption) | (with_reducible apply TSt.drew) | (with_reducible apply TSt.alloc)))
             first
               | (have q6 : OwnP w6 w5.heap.size 0 0 := OwnP.next (OwnP.box w5 0 0 35) B6
                  have T7 := (T6.far (c := w5.heap.size) (o := 0) T5.res.lt hrlt hrge' (.int .i64 tx)).far (c := w5.heap.size) (o := 1) T5.res.lt hrlt hrge' (.int .i64 ty)
                  have HQ7 := Lib.hid ((q6.put0 tx).put1 ty)
                  have hb7 : w.heap.size + 1 < w5.heap.size := T5.res.lt
                  obtain ⟨⟨_, v0, v1⟩, y0, y1⟩ := id q6)
               | (have q6 : OwnP w6 w2.heap.size 0 0 := OwnP.next ((OwnP.box w2.drew 0 0 35).grown H5.out.2.2 (show w2.heap.size ≠ r by omega)) B6
                  have T7 := (T6.far (c := w2.heap.size) (o := 0) hw2 hrlt hrge' (.int .i64 tx)).far (c := w2.heap.size) (o := 1) hw2 hrlt hrge' (.int .i64 ty)
                  have HQ7 := Lib.hid ((q6.put0 tx).put1 ty)
                  have hb7 : w.heap.size + 1 < w2.heap.size := hw2
                  obtain ⟨⟨_, v0, v1⟩, y0, y1⟩ := id q6)
               | skip)
          | fail)
        all_goals
          go_wp2_with fail
          go_meet
          first
            | exact ⟨_, tx, ty, rfl, Lib.hid T7, HQ7, hb7, HBD.out⟩
            | exact ⟨_, tx, ty, rfl, Lib.hid T6.alloc, Lib.hid (OwnP.box w6 tx ty _), T6.res.lt, HBD.out⟩
      case rest =>
        obtain ⟨b5, tx, ty, rfl, HT5, HO5, hb5, hx1, hx2, hy1, hy2⟩ := hcut
        clear S2 hok HTY HL
        have PK := Lib.hid (fun (m : Nat) (hm : m ≤ 900000) (u : World) (h : TSt w B m r u ⟨xa, xl, xc⟩ ⟨ya, yl, yc⟩ ⟨za, zl, zc⟩) (ho : OwnP u b5 tx ty) => show Calls Tryd.prog 54 #[.pointer (some ⟨r, 0, none⟩), .int .i64 9] u fun e u' => ∃ p : Int, 0 ≤ p ∧ p < 9 ∧ e = .returned (.int .i64 p) ∧ TSt w B (m + 1) r u' ⟨xa, xl, xc⟩ ⟨ya, yl, yc⟩ ⟨za, zl, zc⟩ ∧ OwnP u' b5 tx ty from
          (pick B m r 9 u h.rd (by omega)).mono fun e u' ⟨p, p0, p1, he, hr, hg, _⟩ => ⟨p, p0, p1 (by omega), he, h.grown hr hg hrlt, ho.grown hg (by omega)⟩)
        have T0 := HT5.out.drew
        have O0 := HO5.out.next (below_drew' wc)
        have k0 := And.intro O0.c0 O0.c1
        clear HT5 HO5
        go_wp2
        go_region_held3 (fun u => u.cell? ⟨b5, 0, none⟩ = some (.int .i64 tx) ∧ u.cell? ⟨b5, 1, none⟩ = some (.int .i64 ty)) (first | exact k0 | exact k1 | exact k2 | exact k3) (first
          | (go_at_call 54
             (with_reducible refine (PK.out (M + 1 + 16) (by omega) _ T0 O0).mono ?_)
             rintro e w7 ⟨p7, p70, p71, rfl, T7, O7⟩
             have k1 := And.intro O7.c0 O7.c1
             have o1 : IntKind.i64.wrap (tx + p7) = tx + p7 := IntWalk.i64_in _ (by omega)
             have o2 : IntKind.i64.wrap (tx + p7 - 4) = tx + p7 - 4 := IntWalk.i64_in _ (by omega))
          | (go_at_call 54
             (with_reducible refine (PK.out (M + 1 + 16 + 1) (by omega) _ T7 O7).mono ?_)
             rintro e w8 ⟨p8, p80, p81, rfl, T8, O8⟩
             have k2 := And.intro O8.c0 O8.c1
             have o3 : IntKind.i64.wrap (ty + p8) = ty + p8 := IntWalk.i64_in _ (by omega)
             have o4 : IntKind.i64.wrap (ty + p8 - 4) = ty + p8 - 4 := IntWalk.i64_in _ (by omega)
             have hbr : b5 ≠ w.heap.size + 1 := by omega
             have O9 := (O8.far (c := w.heap.size + 1) (o := 0) hbr.symm (.int .i64 (tx + p7 - 4))).far (c := w.heap.size + 1) (o := 1) hbr.symm (.int .i64 (ty + p8 - 4))
             have k3 := And.intro O9.c0 O9.c1
             have HD := Lib.hid (T8.done (M' := M + 20) hrlt hrge' (by omega) (.int .i64 (tx + p7 - 4)) (.int .i64 (ty + p8 - 4)))
             obtain ⟨⟨_, g0, g1⟩, z0, z1⟩ := id T8.res)
          | fail)
        clear T0 O0 T7 O7 T8 O8 k0 k1 k2 k3 O9
        go_wp2
        exact bodyPost_ret (v := pt (tx + p7 - 4) (ty + p8 - 4)) (by simp [results, Tryd.results71, go_sem, g0, g1]) rfl ⟨tx + p7 - 4, ty + p8 - 4, by omega, by omega, by omega, by omega, rfl, HD.out⟩
    · rw [decide_eq_false hok]
      rintro e w2 ⟨rfl, B2⟩
      have S2 := S1.next B2
      clear B2 S1 c0 c1 c2 hp hok
      go_wp2_with fail
      refine (l20Point B (M + 1) r 9 _ S2.rd (by omega) (by omega) (by omega)).mono ?_
      rintro e w3 ⟨tx, ty, x1, x2, y1, y2, rfl, hr9, hg9⟩
      have S9 := S2.grown hr9 hg9 hrlt
      have HD := Lib.hid (S9.done (M' := M + 20) hrlt hrge' (by omega) (.int .i64 tx) (.int .i64 ty))
      obtain ⟨⟨_, g0, g1⟩, z0, z1⟩ := id S9.res
      clear hr9 hg9 S2 S9
      go_wp2
      exact bodyPost_ret (v := pt tx ty) (by simp [results, Tryd.results71, go_sem, g0, g1]) rfl ⟨tx, ty, by omega, by omega, by omega, by omega, rfl, HD.out⟩
  · have t1 : decide (0 < p) = false := decide_eq_false hp
    clear c0 c1 c2 hp
    go_wp2_with fail
    refine (l20Point B (M + 1) r 9 _ S1.rd (by omega) (by omega) (by omega)).mono ?_
    rintro e w3 ⟨tx, ty, x1, x2, y1, y2, rfl, hr9, hg9⟩
    have S9 := S1.grown hr9 hg9 hrlt
    have HD := Lib.hid (S9.done (M' := M + 20) hrlt hrge' (by omega) (.int .i64 tx) (.int .i64 ty))
    obtain ⟨⟨_, g0, g1⟩, z0, z1⟩ := id S9.res
    clear hr9 hg9 S1 S9
    go_wp2
    exact bodyPost_ret (v := pt tx ty) (by simp [results, Tryd.results71, go_sem, g0, g1]) rfl ⟨tx, ty, by omega, by omega, by omega, by omega, rfl, HD.out⟩
end Go.Proofs.YtolkihibjabmhaaDoor
namespace Go.Proofs.YtolkihibjabmhaaDoor
open Go.RowKit
attribute [local go_sem ↓] Go.wp_at_zero Go.wp_at_succ
/-- A drawn arm, angles and a point: the lists are short; nothing that was there has changed. -/
def GotArmJT (w : World) (e : Ending) (w' : World) : Prop :=
  ∃ (x y z s : Sl) (ls lo hi js : List Int) (tx ty : Int), e = .returned (.tuple #[av x y z, .slice s.a s.len s.cap, pt tx ty]) ∧ IntsAt w' x.a x.len ls ∧ IntsAt w' y.a y.len lo ∧ IntsAt w' z.a z.len hi ∧ IntsAt w' s.a s.len js ∧ (x.len ≤ 5 ∧ y.len ≤ 4 ∧ z.len ≤ 4 ∧ s.len ≤ 6) ∧ (-20000 ≤ tx ∧ tx ≤ 20000 ∧ -20000 ≤ ty ∧ ty ≤ 20000) ∧ Below w.heap.size w w'
/-- What is there around the draw of the target: the reader, the results' boxes, the variable's, the lists. -/
structure FSt (w0 : World) (B M r V : Nat) (u : World) (rx ry rz : Value) (px py : Int) (x y z s : Sl) (ls lo hi js : List Int) : Prop where
  rd : Rd B M u r
  old : Below w0.heap.size w0 u
  res : AtA u w0.heap.size rx ry rz
  rp : OwnP u (w0.heap.size + 1) px py
  var : AtA u V (.slice x.a x.len x.cap) (.slice y.a y.len y.cap) (.slice z.a z.len z.cap)
  ix : IntsFrom u (r + 1) x.a x.len ls
  iy : IntsFrom u (r + 1) y.a y.len lo
  iz : IntsFrom u (r + 1) z.a z.len hi
  js : IntsFrom u (r + 1) s.a s.len js
theorem FSt.next {w0 u : World} {B M r V : Nat} {rx ry rz : Value} {px py : Int} {x y z s : Sl} {ls lo hi js : List Int} {u' : World} (h : FSt w0 B M r V u rx ry rz px py x y z s ls lo hi js) (hb : Below u.heap.size u u') : FSt w0 B M r V u' rx ry rz px py x y z s ls lo hi js :=
  ⟨h.rd.next hb, below_call h.old hb, h.res.next hb, h.rp.next hb, h.var.next hb, h.ix.next hb, h.iy.next hb, h.iz.next hb, h.js.next hb⟩
theorem FSt.drew {w0 u : World} {B M r V : Nat} {rx ry rz : Value} {px py : Int} {x y z s : Sl} {ls lo hi js : List Int} (h : FSt w0 B M r V u rx ry rz px py x y z s ls lo hi js) : FSt w0 B M r V u.drew rx ry rz px py x y z s ls lo hi js := h.next (below_drew' u)
theorem FSt.grown {w0 u : World} {B M r V : Nat} {rx ry rz : Value} {px py : Int} {x y z s : Sl} {ls lo hi js : List Int} {u' : World} {M' : Nat} (h : FSt w0 B M r V u rx ry rz px py x y z s ls lo hi js) (hr : Rd B M' u' r) (hg : u.grownBy u' (some r)) (h1 : w0.heap.size + 1 < r) (h2 : r < V) : FSt w0 B M' r V u' rx ry rz px py x y z s ls lo hi js :=
  ⟨hr, below_of' h.old hg (by omega), h.res.kept hg (by simp; omega), h.rp.grown hg (by omega), h.var.kept hg (by simp; omega), h.ix.kept hg (fun k hk => by injection hk with hk; omega), h.iy.kept hg (fun k hk => by injection hk with hk; omega), h.iz.kept hg (fun k hk => by injection hk with hk; omega), h.js.kept hg (fun k hk => by injection hk with hk; omega)⟩
theorem FSt.putA {w0 u : World} {B M r V : Nat} {rx ry rz : Value} {px py : Int} {x y z s : Sl} {ls lo hi js : List Int} (h : FSt w0 B M r V u rx ry rz px py x y z s ls lo hi js) (h1 : w0.heap.size + 1 < r) (h2 : r < V) (hB : B ≤ w0.heap.size) (a b c : Value) : FSt w0 B M r V (((u.setCell ⟨w0.heap.size, 0, none⟩ a).setCell ⟨w0.heap.size, 1, none⟩ b).setCell ⟨w0.heap.size, 2, none⟩ c) a b c px py x y z s ls lo hi js :=
  ⟨((h.rd.set (by omega) hB _).set (by omega) hB _).set (by omega) hB _, ((h.old.setCell (p := ⟨w0.heap.size, 0, none⟩) (Nat.le_refl _) _).setCell (p := ⟨w0.heap.size, 1, none⟩) (Nat.le_refl _) _).setCell (p := ⟨w0.heap.size, 2, none⟩) (Nat.le_refl _) _, ((h.res.put0 _).put1 _).put2 _, ((h.rp.far (by omega) _).far (by omega) _).far (by omega) _, ((h.var.far (by omega) _).far (by omega) _).far (by omega) _,
    ((h.ix.off (by omega) _).off (by omega) _).off (by omega) _, ((h.iy.off (by omega) _).off (by omega) _).off (by omega) _, ((h.iz.off (by omega) _).off (by omega) _).off (by omega) _, ((h.js.off (by omega) _).off (by omega) _).off (by omega) _⟩
theorem FSt.putP {w0 u : World} {B M r V : Nat} {rx ry rz : Value} {px py : Int} {x y z s : Sl} {ls lo hi js : List Int} (h : FSt w0 B M r V u rx ry rz px py x y z s ls lo hi js) (h1 : w0.heap.size + 1 < r) (h2 : r < V) (hB : B ≤ w0.heap.size) (a b : Int) : FSt w0 B M r V ((u.setCell ⟨w0.heap.size + 1, 0, none⟩ (.int .i64 a)).setCell ⟨w0.heap.size + 1, 1, none⟩ (.int .i64 b)) rx ry rz a b x y z s ls lo hi js :=
  ⟨(h.rd.set (by omega) (by omega) _).set (by omega) (by omega) _, (h.old.setCell (p := ⟨w0.heap.size + 1, 0, none⟩) (by simp) _).setCell (p := ⟨w0.heap.size + 1, 1, none⟩) (by simp) _, (h.res.far (by omega) _).far (by omega) _, (h.rp.put0 _).put1 _, (h.var.far (by omega) _).far (by omega) _,
    (h.ix.off (by omega) _).off (by omega) _, (h.iy.off (by omega) _).off (by omega) _, (h.iz.off (by omega) _).off (by omega) _, (h.js.off (by omega) _).off (by omega) _⟩
theorem FSt.cells {w0 u : World} {B M r V : Nat} {rx ry rz : Value} {px py : Int} {x y z s : Sl} {ls lo hi js : List Int} (h : FSt w0 B M r V u rx ry rz px py x y z s ls lo hi js) : u.cell? ⟨V, 0, none⟩ = some (.slice x.a x.len x.cap) ∧ u.cell? ⟨V, 1, none⟩ = some (.slice y.a y.len y.cap) ∧ u.cell? ⟨V, 2, none⟩ = some (.slice z.a z.len z.cap) := ⟨h.var.c0, h.var.c1, h.var.c2⟩
set_option maxHeartbeats 4000000 in
theorem drawStepJoints (w : World) (a : Option Addr) (len cap : Nat) (zs : List Int) (h : Bytes w a len cap zs) :
    Calls Tryd.prog 44 #[.slice a len cap] w (GotArmJT w) := by
  have hle := h.len_le
  have HB := Lib.hid (below_box2 w (.cells #[.slice none 0 0, .slice none 0 0, .slice none 0 0] 25) (.cells #[.int .i64 0, .int .i64 0] 35))
  have R := (AtA.box w (.slice none 0 0) (.slice none 0 0) (.slice none 0 0) 25).alloc (.cells #[.int .i64 0, .int .i64 0] 35)
  have RP := OwnP.box (w.alloc (.cells #[.slice none 0 0, .slice none 0 0, .slice none 0 0] 25)) 0 0 35
  rw [show (w.alloc (.cells #[.slice none 0 0, .slice none 0 0, .slice none 0 0] 25)).heap.size = w.heap.size + 1 by simp] at RP
  go_enter Tryd.func44, Tryd.ntmps44
  go_wp2_with fail
  refine (open_codeB w.heap.size _ a len cap HB.out.size hle.1 (by have := hle.2; unfold maxLen at this; omega) (fun k hk => (h.code k hk).below fun x hx => HB.out.cell hx)).mono ?_
  generalize (w.alloc (.cells #[.slice none 0 0, .slice none 0 0, .slice none 0 0] 25)).alloc (.cells #[.int .i64 0, .int .i64 0] 35) = w0 at *
  rintro e w1 ⟨rfl, hr1, hb1⟩
  have hR := RP.lt
  have R1 := R.next hb1
  have RP1 := RP.next hb1
  have HB1 := Lib.hid (below_call HB.out hb1)
  clear hb1 R RP h hle
  go_wp2_with fail
  refine (pick _ _ _ 4 _ hr1 (by omega)).mono ?_
  rintro e w2 ⟨x, a1, b1, rfl, hr2, hg2, hs2⟩
  have b2 := b1 (by omega)
  have R2 := R1.kept hg2 (by simp; omega)
  have RP2 := RP1.grown hg2 (by omega)
  have HB2 := Lib.hid (below_of' HB1.out hg2 (by omega))
  obtain ⟨m, hm⟩ : ∃ m : Nat, 1 + x = (m : Int) := ⟨(1 + x).toNat, by omega⟩
  have hrlt := hr2.lt
  clear b1 hs2 hg2 hr1 R1 RP1
  go_wp2_with fail
  refine (l20Arm _ _ _ m 14 _ hr2 (by omega) (by omega) (by omega) (by omega) (by omega)).mono ?_
  rintro e w3 ⟨⟨xa, xl, xc⟩, ⟨ya, yl, yc⟩, ⟨za, zl, zc⟩, ls, lo, hi, rfl, i1, i2, i3, lx, ly, lz, kx, ky, kz, sx, sy, sz, hr3, hg3⟩
  simp only at i1 i2 i3 lx ly lz kx ky kz
  have R3 := R2.kept hg3 (by simp; omega)
  have RP3 := RP2.grown hg3 (by omega)
  have HB3 := Lib.hid (below_of' HB2.out hg3 (by omega))
  have Bv := below_box w3 (.cells #[.slice xa xl xc, .slice ya yl yc, .slice za zl zc] 25)
  have HB4 := Lib.hid (below_call HB3.out Bv)
  have V4 := AtA.box w3 (.slice xa xl xc) (.slice ya yl yc) (.slice za zl zc) 25
  have hv : w0.heap.size < w3.heap.size := hr3.lt
  have R4 := R3.next Bv
  have RP4 := RP3.next Bv
  have hr4 := hr3.next Bv
  replace i1 := (i1.down (show w0.heap.size + 1 ≤ _ by omega)).next Bv
  replace i2 := (i2.down (show w0.heap.size + 1 ≤ _ by omega)).next Bv
  replace i3 := (i3.down (show w0.heap.size + 1 ≤ _ by omega)).next Bv
  have HS := Lib.hid (And.intro sy sz)
  clear hr3 hg3 hr2 R2 RP2 hm Bv R3 RP3 sx sy sz
  obtain ⟨_, c0, c1, c2, _, _, _⟩ := id V4
  go_wp2_with fail
  refine (l20Joints _ _ _ 12 ⟨xa, xl, xc⟩ ⟨ya, yl, yc⟩ ⟨za, zl, zc⟩ ls lo hi _ hr4 (by omega) (by omega) (by omega) i1 i2 i3 (by simp only; omega) (by simp only; omega) (by simp only; omega) HS.out.1 HS.out.2).mono ?_
  generalize w3.alloc (.cells #[.slice xa xl xc, .slice ya yl yc, .slice za zl zc] 25) = w4 at *
  rintro e w5 ⟨⟨sa, sl, sc⟩, js, rfl, ij, hs, _, hr5, hg5⟩
  simp only at ij hs
  have h4 : w0.heap.size + 1 ≤ w4.heap.size := by have := V4.lt; omega
  have F5 : FSt w w.heap.size (0 + 1 + 16 + 16) w0.heap.size w3.heap.size w5 (.slice none 0 0) (.slice none 0 0) (.slice none 0 0) 0 0 ⟨xa, xl, xc⟩ ⟨ya, yl, yc⟩ ⟨za, zl, zc⟩ ⟨sa, sl, sc⟩ ls lo hi js :=
    ⟨hr5, below_of' HB4.out hg5 (by omega), R4.kept hg5 (by simp; omega), RP4.grown hg5 (by omega), V4.kept hg5 (by simp; omega), i1.kept hg5 (fun k hk => by injection hk with hk; omega), i2.kept hg5 (fun k hk => by injection hk with hk; omega), i3.kept hg5 (fun k hk => by injection hk with hk; omega), ij.down (by omega)⟩
  clear hr4 hr5 hg5 R4 RP4 V4 i1 i2 i3 ij c0 c1 c2 HB HB1 HB2 HB3 HB4
  have HTG := Lib.hid (fun (u : World) (h : FSt w w.heap.size (0 + 1 + 16 + 16) w0.heap.size w3.heap.size u (.slice none 0 0) (.slice none 0 0) (.slice none 0 0) 0 0 ⟨xa, xl, xc⟩ ⟨ya, yl, yc⟩ ⟨za, zl, zc⟩ ⟨sa, sl, sc⟩ ls lo hi js) => show Calls Tryd.prog 71 #[.pointer (some ⟨w0.heap.size, 0, none⟩), av ⟨xa, xl, xc⟩ ⟨ya, yl, yc⟩ ⟨za, zl, zc⟩] u fun e u' => ∃ tx ty : Int, e = .returned (pt tx ty) ∧ Hid (-20000 ≤ tx ∧ tx ≤ 20000 ∧ -20000 ≤ ty ∧ ty ≤ 20000) ∧ FSt w w.heap.size (0 + 1 + 16 + 16 + 20) w0.heap.size w3.heap.size u' (.slice none 0 0) (.slice none 0 0) (.slice none 0 0) 0 0 ⟨xa, xl, xc⟩ ⟨ya, yl, yc⟩ ⟨za, zl, zc⟩ ⟨sa, sl, sc⟩ ls lo hi js from
    (l20Target _ _ _ ⟨xa, xl, xc⟩ ⟨ya, yl, yc⟩ ⟨za, zl, zc⟩ ls lo hi u h.rd (by omega) h.ix h.iy h.iz (by simp only; omega) (by simp only; omega) (by simp only; omega) HS.out.1 HS.out.2).mono fun e u' ⟨tx, ty, t1, t2, t3, t4, he, hr, hg⟩ => ⟨tx, ty, he, Lib.hid ⟨t1, t2, t3, t4⟩, h.grown hr hg (by omega) hv⟩)
  have F6 := F5.drew
  have k6 := F6.cells
  obtain ⟨_, s0, s1, s2, y0, y1, y2⟩ := id F6.res
  go_wp2
  go_region_held3 (fun u => u.cell? ⟨w3.heap.size, 0, none⟩ = some (.slice xa xl xc) ∧ u.cell? ⟨w3.heap.size, 1, none⟩ = some (.slice ya yl yc) ∧ u.cell? ⟨w3.heap.size, 2, none⟩ = some (.slice za zl zc)) (first | (with_reducible exact k6) | (with_reducible exact k7) | (with_reducible exact k8) | (with_reducible exact k9)) (first
    | (go_at_call 71
       (with_reducible refine (HTG.out _ F6).mono ?_)
       rintro e w7 ⟨tx, ty, rfl, HTB, F7⟩
       have F8 := F7.putA hR hv (Nat.le_refl _) (.slice xa xl xc) (.slice ya yl yc) (.slice za zl zc)
       have F9 := F8.putP hR hv (Nat.le_refl _) tx ty
       have k7 := F7.cells
       have k8 := F8.cells
       have k9 := F9.cells
       obtain ⟨_, t0, t1, t2, u0, u1, u2⟩ := id F7.res
       obtain ⟨⟨_, p0, p1⟩, q0, q1⟩ := id F7.rp
       have HF := Lib.hid F9
       obtain ⟨⟨_, _, _⟩, q2, q3⟩ := id F8.rp
       clear F7 F8 F9)
    | fail)
  obtain ⟨_, x0, x1, x2, _, _, _⟩ := id HF.out.res
  obtain ⟨⟨_, n0, n1⟩, _, _⟩ := id HF.out.rp
  clear F5 F6 k6 k7 k8 k9
  go_wp2
  exact bodyPost_ret (v := .tuple #[av ⟨xa, xl, xc⟩ ⟨ya, yl, yc⟩ ⟨za, zl, zc⟩, .slice sa sl sc, pt tx ty]) (by simp [results, Tryd.results44, go_sem, x0, x1, x2, n0, n1]) rfl ⟨⟨xa, xl, xc⟩, ⟨ya, yl, yc⟩, ⟨za, zl, zc⟩, ⟨sa, sl, sc⟩, ls, lo, hi, js, tx, ty, rfl, HF.out.ix.ints, HF.out.iy.ints, HF.out.iz.ints, HF.out.js.ints, ⟨by simp only; omega, by simp only; omega, by simp only; omega, by simp only; omega⟩, HTB.out, HF.out.old⟩
end Go.Proofs.YtolkihibjabmhaaDoor
namespace Go.Proofs.YtolkihibjabmhaaDoor
open Go.RowKit
attribute [local go_sem ↓] Go.wp_at_zero Go.wp_at_succ
/-- The numbers of z may be written, and those of x and y lie elsewhere. -/
def Wr (u : World) (x y z : Sl) : Prop :=
  z.len = 0 ∨ ∃ g off, z.a = some ⟨g, off, none⟩ ∧ (∀ j, u.frozen? ⟨g, j, none⟩ = false) ∧ (x.len = 0 ∨ ∃ b o, x.a = some ⟨b, o, none⟩ ∧ b ≠ g) ∧ (y.len = 0 ∨ ∃ b o, y.a = some ⟨b, o, none⟩ ∧ b ≠ g)
theorem OwnI.slot {w : World} {base : Nat} {s : Sl} {zs : List Int} (h : OwnI w base (.slice s.a s.len s.cap) zs) : s.len = 0 ∨ ∃ g, s.a = some ⟨g, 0, none⟩ ∧ (Value.slice s.a s.len s.cap).ownBlock = some g ∧ ∀ j, w.frozen? ⟨g, j, none⟩ = false := by
  by_cases h0 : s.len = 0
  · exact .inl h0
  · have e : s.len = zs.length := h.ints.1
    obtain ⟨g, cap, hs, _, _⟩ := h.at (by omega)
    obtain ⟨a, n, c⟩ := s
    simp only [Value.slice.injEq] at hs e ⊢
    obtain ⟨rfl, rfl, rfl⟩ := hs
    refine .inr ⟨g, rfl, rfl, fun j => World.ownsRow.frozenAt h j⟩
theorem ArmSt.wr {w0 u : World} {B M r : Nat} {x y z : Sl} {xs ys zs : List Int} (h : ArmSt w0 B M r u (.slice x.a x.len x.cap) (.slice y.a y.len y.cap) (.slice z.a z.len z.cap) xs ys zs) : Wr u x y z := by
  rcases h.oz.slot with h1 | ⟨g, e1, e2, e3⟩
  · exact .inl h1
  · refine .inr ⟨g, 0, e1, e3, ?_, ?_⟩
    · rcases h.ox.slot with k1 | ⟨b, k1, k2, _⟩
      · exact .inl k1
      · refine .inr ⟨b, 0, k1, ?_⟩
        rcases h.xz with q | q | q
        · rw [k2] at q; cases q
        · rw [e2] at q; cases q
        · rw [k2, e2] at q; intro e; exact q (by rw [e])
    · rcases h.oy.slot with k1 | ⟨b, k1, k2, _⟩
      · exact .inl k1
      · refine .inr ⟨b, 0, k1, ?_⟩
        rcases h.yz with q | q | q
        · rw [k2] at q; cases q
        · rw [e2] at q; cases q
        · rw [k2, e2] at q; intro e; exact q (by rw [e])
theorem Wr.set {u : World} {x y z : Sl} {b o : Nat} (h : Wr u x y z) (v : Value) : Wr (u.setCell ⟨b, o, none⟩ v) x y z := by
  rcases h with h | ⟨g, off, h1, h2, h3, h4⟩
  · exact .inl h
  · exact .inr ⟨g, off, h1, fun j => (World.frozen?_setCell _ _ _ _).trans (h2 j), h3, h4⟩
/-- What a draw of an arm says, with what may be written. -/
def DrawnS (B M r : Nat) (w : World) (e : Ending) (w' : World) : Prop :=
  ∃ (x y z : Sl) (ls lo hi : List Int), e = .returned (av x y z) ∧ IntsFrom w' w.heap.size x.a x.len ls ∧ IntsFrom w' w.heap.size y.a y.len lo ∧ IntsFrom w' w.heap.size z.a z.len hi ∧ x.len ≤ 5 ∧ y.len ≤ 4 ∧ z.len ≤ 4 ∧ Wr w' x y z ∧ Sm 2000 ls ∧ Sm 2000 lo ∧ Sm 2000 hi ∧ Rd B M w' r ∧ w.grownBy w' (some r)
structure FinS (w0 : World) (B M r : Nat) (u : World) (x y z : Sl) (ls lo hi : List Int) : Prop extends FinA w0 B M r u x y z ls lo hi where
  wr : Wr u x y z
theorem ArmSt.finS {w0 u : World} {B M M' r : Nat} {sx sy sz : Value} {xs ys zs : List Int} (h : ArmSt w0 B M r u sx sy sz xs ys zs) (hM : M ≤ M') (l1 : xs.length ≤ 5) (l2 : ys.length ≤ 4) (l3 : zs.length ≤ 4) (t1 : Sm 2000 xs) (t2 : Sm 2000 ys) (t3 : Sm 2000 zs) : ∃ x y z : Sl, FinS w0 B M' r u x y z xs ys zs := by
  obtain ⟨x, rfl, ex, kx⟩ := OwnI.slv h.ox
  obtain ⟨y, rfl, ey, ky⟩ := OwnI.slv h.oy
  obtain ⟨z, rfl, ez, kz⟩ := OwnI.slv h.oz
  exact ⟨x, y, z, ⟨h.rd.mono hM, h.gr, h.res, h.var, h.ox.from, h.oy.from, h.oz.from, by omega, by omega, by omega, kx, ky, kz, t1, t2, t3⟩, h.wr⟩
theorem FinS.done {w0 u : World} {B M r : Nat} {x y z : Sl} {ls lo hi : List Int} (h : FinS w0 B M r u x y z ls lo hi) (hlt : r < w0.heap.size) (hB : B ≤ w0.heap.size) (a b c : Value) (e : Ending) (he : e = .returned (av x y z)) :
    DrawnS B M r w0 e (((u.setCell ⟨w0.heap.size, 0, none⟩ a).setCell ⟨w0.heap.size, 1, none⟩ b).setCell ⟨w0.heap.size, 2, none⟩ c) :=
  ⟨x, y, z, ls, lo, hi, he, (((h.ix.off (by omega) _).off (by omega) _).off (by omega) _).down (by omega), (((h.iy.off (by omega) _).off (by omega) _).off (by omega) _).down (by omega), (((h.iz.off (by omega) _).off (by omega) _).off (by omega) _).down (by omega), h.lx, h.ly, h.lz, ((h.wr.set _).set _).set _, h.sx, h.sy, h.sz,
    ((h.rd.set' (by omega) hB _).set' (by omega) hB _).set' (by omega) hB _, only_set' (only_set' (only_set' h.gr (Nat.le_refl _) _) (Nat.le_refl _) _) (Nat.le_refl _) _⟩
/-- What the cut behind the branches says. -/
def DrewS (w0 : World) (B M r : Nat) (u : World) : Prop := ∃ (x y z : Sl) (ls lo hi : List Int), FinS w0 B M r u x y z ls lo hi
theorem ArmSt.cut2S {w0 u : World} {B M M' r g n cap c : Nat} {sx sy : Value} {xs ys zs : List Int} (h : ArmSt w0 B M r u sx sy (.slice (some ⟨g, 0, none⟩) n cap) xs ys zs) (hlt : r < w0.heap.size) (hB : B ≤ w0.heap.size) (hM : M ≤ M') (hn : 1 ≤ n) (a : Option Addr) (ha : n = 1 ∨ a = some ⟨g, 1, none⟩) (hc : n - 1 ≤ c) (l1 : xs.length ≤ 5) (l2 : ys.length ≤ 4) (l3 : zs.length ≤ 4) (t1 : Sm 2000 xs) (t2 : Sm 2000 ys) (t3 : Sm 2000 zs) :
    ∃ x y z : Sl, FinS w0 B M' r (u.setCell ⟨w0.heap.size + 1, 2, none⟩ (.slice a (n - 1) c)) x y z xs ys zs.tail := by
  obtain ⟨x, rfl, ex, kx⟩ := OwnI.slv h.ox
  obtain ⟨y, rfl, ey, ky⟩ := OwnI.slv h.oy
  have hz := h.oz.ints.1
  have hw : Wr u x y ⟨some ⟨g, 0, none⟩, n, cap⟩ := ArmSt.wr (z := ⟨some ⟨g, 0, none⟩, n, cap⟩) h
  refine ⟨x, y, ⟨a, n - 1, c⟩, ⟨(h.rd.set' (by omega) (by omega) _).mono hM, only_set' h.gr (by omega) _, h.res.far (by omega) _, h.var.put2 _, h.ox.from.off (by omega) _, h.oy.from.off (by omega) _, (h.oz.tail_from hn a ha).off (by omega) _, by omega, by omega, by simp only; omega, kx, ky, hc, t1, t2, t3.tail⟩, Wr.set ?_ _⟩
  rcases ha with ha | rfl
  · exact .inl (by simp only; omega)
  · rcases hw with hw | ⟨g', off, h1, h2, h3, h4⟩
    · simp only at hw; omega
    · simp only at h1
      injection h1 with h1
      injection h1 with h1 _ _
      subst h1
      exact .inr ⟨g, 1, rfl, h2, h3, h4⟩
/-- 'odd' for every n that is not negative. -/
theorem oddG (B M r : Nat) (n : Int) (w : World) (hr : Rd B M w r) (hM : M ≤ 1000000) (h0 : 0 ≤ n) (h1 : n ≤ 1000000) :
    Calls Tryd.prog 70 #[.pointer (some ⟨r, 0, none⟩), .int .i64 n] w (OddA B M r w) := by
  by_cases h : 0 < n
  · exact oddA B M r n w hr hM h h1
  · obtain rfl : n = 0 := by omega
    exact (odd0 r w).mono fun e w' ⟨he, hw⟩ => ⟨false, he, by rw [← hw]; exact hr.mono (by omega), by rw [← hw]; exact World.grownBy.refl w (some r), by rw [hw]⟩
end Go.Proofs.YtolkihibjabmhaaDoor
namespace Go.Proofs.YtolkihibjabmhaaDoor
open Go.RowKit
attribute [local go_sem ↓] Go.wp_at_zero Go.wp_at_succ
set_option maxHeartbeats 4000000 in
set_option maxRecDepth 100000 in
theorem l20ArmS (B M r : Nat) (many : Nat) (n : Int) (w : World) (hr : Rd B M w r) (hM : M ≤ 900000) (hm1 : 1 ≤ many) (hm2 : many ≤ 4) (hn0 : 0 ≤ n) (hn1 : n ≤ 1000000) :
    Calls Tryd.prog 53 #[.pointer (some ⟨r, 0, none⟩), .int .i64 (many : Int), .int .i64 n] w (DrawnS B (M + 16) r w) := by
  obtain ⟨i0, hi0, hz0, hz1, hz2⟩ := info_parts infoInt
  have hrlt := hr.lt
  have hrge := hr.ge
  have S0 := ArmSt.start w B M r hr 25
  clear hr
  go_enter Tryd.func53, Tryd.ntmps53
  go_wp2
  generalize (w.alloc (.cells #[.slice none 0 0, .slice none 0 0, .slice none 0 0] 25)).alloc (.cells #[.slice none 0 0, .slice none 0 0, .slice none 0 0] 25) = u0 at *
  go_loopw [8] (fun i wr => LoopA w B M r many i wr) (fun i _ => many - (intOf i).toNat)
  case atStart => exact ⟨0, Nat.zero_le _, rfl, _, _, _, [], [], [], S0, rfl, rfl, rfl, Sm.nil (by omega), Sm.nil (by omega), Sm.nil (by omega)⟩
  case round =>
    obtain ⟨k, hk, rfl, sx, sy, sz, xs, ys, zs, S, l1, l2, l3, t1, t2, t3⟩ := hrel
    by_cases hlt : k < many
    · have HL := Lib.hid (And.intro l1 (And.intro l2 l3))
      clear l1 l2 l3 S0
      go_upto_region 5 with fail
      go_cut [] from 12 to 45 (fun wx => ∃ sx' xs', Hid (ArmSt w B (M + 3 * k + 1) r wx sx' sy sz xs' ys zs ∧ xs'.length = k + 1 ∧ Small xs'))
      case first =>
        have Sd := S.drew
        obtain ⟨_, c0, c1, c2, _, _, _⟩ := id Sd.var
        go_region_law (first
          | (refine step_append_lies _ rfl (.tmp 18) (.tmp 22) 23 rfl (w.heap.size + 2) 3 i0 (.int .i64 0) 1 8 Tryd.underlying23 hi0 hz0 hz1 hz2 rfl (by decide) sx xs.length (vals xs) rfl HSa.out.ox ⟨w1.heap.size, 0, none⟩ 1 1 [.int .i64 (1 + x1)] rfl rfl HN.out (by intro u hu; simp at hu; subst hu; rfl) (by omega) (by rw [HL.out.1]; unfold maxLen; omega) (by rw [HL.out.1]; omega) HH.out _ rfl ?_
             intro g cap w3 own3 grow3 at3 ltg
             have HA3 : Hid (App (w1.alloc (.cells #[.int .i64 (1 + x1)] 3)) w3 (w.heap.size + 2) sx (xs ++ [1 + x1]) g (xs.length + 1) cap) := Lib.hid ⟨by rw [vals_snoc]; exact own3, grow3, at3⟩
             obtain ⟨_, f0, f1, f2, z0, z1, z2⟩ := HSa.out.var.row HSa.out.ox HA3.out.grow (by omega)
             have HS3 := Lib.hid (HSa.out.app0 hrlt (by omega) HA3.out)
             have g1 := HS3.out.var.c1
             clear own3 grow3 at3 ltg)
          | (go_simp
             go_at_call 54
             refine (pick B (M + 3 * k) r 120 _ Sd.rd (by omega)).mono ?_
             rintro e w1 ⟨x1, a1, b1, rfl, hr1, hg1, hs1⟩
             have b2 := b1 (by omega)
             have S1 := Sd.pick hr1 hg1 hrlt
             have HSa := Lib.hid (S1.alloc (.cells #[.int .i64 (1 + x1)] 3))
             have d0 := S1.var.c0
             have d1 := S1.var.c1
             have e0 := HSa.out.var.c0
             have e1 := HSa.out.var.c1
             have HN := Lib.hid (cell_one_new' w1 (.int .i64 (1 + x1)) 3)
             have HH := Lib.hid (HSa.out.base)
             have o1 : IntKind.i64.wrap (1 + x1) = 1 + x1 := IntWalk.i64_in _ (by omega)
             clear b1 hs1 hr1 hg1))
        all_goals
          go_wp2_with fail
          go_meet
          exact ⟨_, _, Lib.hid ⟨HS3.out, by simp [HL.out.1], t1.snoc (by omega) (by omega)⟩⟩
      case rest =>
        obtain ⟨sx', xs', HS⟩ := hcut
        go_wp2_with fail
        refine (pick B (M + 3 * k + 1) r 300 _ HS.out.1.rd (by omega)).mono ?_
        rintro e w4 ⟨x2, a2, b2, rfl, hr2, hg2, hs2⟩
        have b3 := b2 (by omega)
        have HS4 := Lib.hid (HS.out.1.pick hr2 hg2 hrlt)
        clear b2 hr2 hg2 hs2
        obtain ⟨low, hlow⟩ : ∃ low : Int, low = x2 - 180 := ⟨_, rfl⟩
        have l1 : -180 ≤ low := by omega
        have l2 : low ≤ 119 := by omega
        replace hlow := Lib.hid hlow
        have HS5 := Lib.hid (HS4.out.alloc (.cells #[.int .i64 (x2 - 180)] 3))
        obtain ⟨_, c0, c1, c2, _, _, _⟩ := id HS4.out.var
        have HN := Lib.hid (cell_one_new' w4 (.int .i64 (x2 - 180)) 3)
        have HH := Lib.hid (HS5.out.base)
        go_upto_region 8 with (at_builtin; refine wpList_append_lies _ rfl (.tmp 29) (.tmp 31) 23 rfl (w.heap.size + 2) 3 i0 (.int .i64 0) 1 8 Tryd.underlying23 hi0 hz0 hz1 hz2 rfl (by decide) sy ys.length (vals ys) rfl HS5.out.oy ⟨w4.heap.size, 0, none⟩ 1 1 [.int .i64 (x2 - 180)] rfl rfl HN.out (by intro u hu; simp at hu; subst hu; rfl) (by omega) (by rw [HL.out.2.1]; unfold maxLen; omega) (by rw [HL.out.2.1]; omega) HH.out _ rfl ?_; intro g cap w6 own6 grow6 at6 ltg6; have HA6 : Hid (App (w4.alloc (.cells #[.int .i64 (x2 - 180)] 3)) w6 (w.heap.size + 2) sy (ys ++ [x2 - 180]) g (ys.length + 1) cap) := Lib.hid ⟨by rw [vals_snoc]; exact own6, grow6, at6⟩; obtain ⟨_, f0, f1, f2, z0, z1, z2⟩ := HS5.out.var.row HS5.out.oy HA6.out.grow (by omega); clear own6 grow6 at6 ltg6)
        have HS6 := Lib.hid (HS5.out.app1 hrlt (by omega) HA6.out)
        have HY := Lib.hid (And.intro (show (ys ++ [x2 - 180]).length = k + 1 by simp [HL.out.2.1]) (t2.snoc (z := x2 - 180) (by omega) (by omega)))
        generalize ys ++ [x2 - 180] = ys' at *
        generalize hsy : Value.slice (some ⟨g, 0, none⟩) (ys.length + 1) cap = sy' at *
        generalize w6.setCell ⟨w.heap.size + 1, 1, none⟩ sy' = w7 at *
        clear hsy HS5 HS4 HN HH HA6 f0 f1 f2 z0 z1 z2 c0 c1 c2
        rw [← hlow.out]
        clear hlow
        have Sd := HS6.out.drew
        obtain ⟨_, c0, c1, c2, _, _, _⟩ := id Sd.var
        have o1 : IntKind.i64.wrap (181 - low) = 181 - low := IntWalk.i64_in _ (by omega)
        have o2 : ¬ (181 - low < 60) := by omega
        go_region_law (first
          | (refine step_append_lies _ rfl (.tmp 35) (.tmp 43) 23 rfl (w.heap.size + 2) 3 i0 (.int .i64 0) 1 8 Tryd.underlying23 hi0 hz0 hz1 hz2 rfl (by decide) sz zs.length (vals zs) rfl HSa.out.oz ⟨w8.heap.size, 0, none⟩ 1 1 [.int .i64 (low + x3)] rfl rfl HN.out (by intro u hu; simp at hu; subst hu; rfl) (by omega) (by rw [HL.out.2.2]; unfold maxLen; omega) (by rw [HL.out.2.2]; omega) HH.out _ rfl ?_
             intro g cap w9 own9 grow9 at9 ltg
             have HA9 : Hid (App (w8.alloc (.cells #[.int .i64 (low + x3)] 3)) w9 (w.heap.size + 2) sz (zs ++ [low + x3]) g (zs.length + 1) cap) := Lib.hid ⟨by rw [vals_snoc]; exact own9, grow9, at9⟩
             obtain ⟨_, f0, f1, f2, z0, z1, z2⟩ := HSa.out.var.row HSa.out.oz HA9.out.grow (by omega)
             have HS9 := Lib.hid (HSa.out.app2 hrlt (by omega) HA9.out)
             clear own9 grow9 at9 ltg)
          | (go_simp
             go_at_call 54
             refine (pick B (M + 3 * k + 1 + 1) r 60 _ Sd.rd (by omega)).mono ?_
             rintro e w8 ⟨x3, a3, b3', rfl, hr3, hg3, hs3⟩
             have b4 := b3' (by omega)
             have S8 := Sd.pick hr3 hg3 hrlt
             have HSa := Lib.hid (S8.alloc (.cells #[.int .i64 (low + x3)] 3))
             have d2 := S8.var.c2
             have e2 := HSa.out.var.c2
             have HN := Lib.hid (cell_one_new' w8 (.int .i64 (low + x3)) 3)
             have HH := Lib.hid (HSa.out.base)
             have o3 : IntKind.i64.wrap (low + x3) = low + x3 := IntWalk.i64_in _ (by omega)
             clear b3' hs3 hr3 hg3))
        all_goals
          have HX := Lib.hid HS.out.2
          clear HS6 HS S Sd
          go_wp2
          go_roundw
          case rel => exact ⟨k + 1, by omega, by congr 1, _, _, _, _, _, _, HS9.out, HX.out.1, HY.out.1, by simp [HL.out.2.2], HX.out.2, HY.out.2, t3.snoc (by omega) (by omega)⟩
          case measure => simp [intOf]; omega
    · obtain rfl : k = many := by omega
      have HL := Lib.hid (And.intro l1 (And.intro l2 l3))
      clear l1 l2 l3 S0
      have HT := Lib.hid (And.intro t1 (And.intro t2 t3))
      clear t1 t2 t3
      go_wp2_with fail
      refine (oddG B (M + 3 * k) r n _ S.rd (by omega) hn0 hn1).mono ?_
      rintro e w1 ⟨b, rfl, hr1, hg1, hs1⟩
      have S1 := S.pick hr1 hg1 hrlt
      clear hr1 hg1 hs1 S
      go_upto_if 48 with fail
      go_cut [] (fun wx => Hid (DrewS w B (M + 16) r wx))
      case first =>
        cases b
        · go_wp2_with fail
          go_meet
          obtain ⟨x, y, z, F⟩ := S1.finS (M' := M + 16) (by omega) (by rw [HL.out.1]; omega) (by rw [HL.out.2.1]; omega) (by rw [HL.out.2.2]; omega) (HT.out.1.mono (by omega)) (HT.out.2.1.mono (by omega)) (HT.out.2.2.mono (by omega))
          exact Lib.hid ⟨x, y, z, _, _, _, F⟩
        · go_wp2_with fail
          refine (pickS w B (M + 3 * k + 1) r (k : Int) sx sy sz xs ys zs _ S1 hrlt (by omega)).mono ?_
          rintro e w2 ⟨p, p0, p1, rfl, S2, s2, f2⟩
          have p2 := p1 (by omega)
          clear p1 S1 s2 f2
          go_wp2_with fail
          refine (pickS w B (M + 3 * k + 1 + 1) r 4 sx sy sz xs ys zs _ S2 hrlt (by omega)).mono ?_
          rintro e w3 ⟨q, q0, q1, rfl, S3, s3, f3⟩
          have q2 := q1 (by omega)
          clear q1 S2 s3 f3
          obtain ⟨g1, cx, rfl, hg1, hc1⟩ := S3.ox.at (by rw [HL.out.1]; exact hm1)
          obtain ⟨g2, cy, rfl, hg2, hc2⟩ := S3.oy.at (by rw [HL.out.2.1]; exact hm1)
          obtain ⟨g3, cz, rfl, hg3, hc3⟩ := S3.oz.at (by rw [HL.out.2.2]; exact hm1)
          obtain ⟨j, hj⟩ : ∃ j : Nat, p = (j : Int) := ⟨p.toNat, by omega⟩
          subst hj
          have hq : q = 0 ∨ q = 1 ∨ q = 2 ∨ q = 3 := by omega
          clear q0 q2
          rcases hq with rfl | rfl | rfl | rfl
          · have jn : j < xs.length := by rw [HL.out.1]; omega
            have j1 : (0 : Int) ≤ (j : Int) := by omega
            have j2 : (j : Int) < (xs.length : Int) := by omega
            have k1 := S3.drew.var.c0
            have k2 := (S3.alloc (.cells #[.int .i64 0, .int .i64 501] 3)).drew.var.c0
            have rne : w3.heap.size ≠ r := by have := S3.rd.lt; omega
            have HF := Lib.hid (fun (u : World) (t : Int) (S : ArmSt w B (M + 3 * k + 1 + 1 + 1 + 1) r u (.slice (some ⟨g1, 0, none⟩) xs.length cx) (.slice (some ⟨g2, 0, none⟩) ys.length cy) (.slice (some ⟨g3, 0, none⟩) zs.length cz) (xs.set j t) ys zs) (h0 : -2000 ≤ t) (h1 : t ≤ 2000) => S.finS (M' := M + 16) (by omega) (by rw [List.length_set, HL.out.1]; omega) (by rw [HL.out.2.1]; omega) (by rw [HL.out.2.2]; omega) ((HT.out.1.mono (by omega)).set j h0 h1) (HT.out.2.1.mono (by omega)) (HT.out.2.2.mono (by omega)))
            go_wp2
            go_region_with (first
              | (go_at_call 54
                 refine (pickS w B (M + 3 * k + 1 + 1 + 1) r 2 _ _ _ xs ys zs _ (by repeat (first | (with_reducible assumption) | (with_reducible apply ArmSt.drew) | (with_reducible apply ArmSt.alloc))) hrlt (by omega)).mono ?_
                 rintro e w4 ⟨q, t0, t1, rfl, S4, s4, f4⟩
                 have t2 := t1 (by omega)
                 obtain ⟨t, v0, v1, hT⟩ := tabA 0 501 q (by omega) (by omega) (by omega) (by omega) t0 t2
                 have k3 := S4.var.c0
                 have k4 := (S4.alloc (.cells #[.int .i64 0, .int .i64 501] 3)).var.c0
                 have HS5 := Lib.hid (S4.put0 (p := j) hrlt (by omega) t)
                 have HS6 := Lib.hid ((S4.alloc (.cells #[.int .i64 0, .int .i64 501] 3)).put0 (p := j) hrlt (by omega) t)
                 have k5 := HS5.out.var.c0
                 have k6 := HS6.out.var.c0
                 have c4 := World.ownsRow.cellAt S4.ox j (by omega)
                 rw [List.getElem?_eq_getElem (by simpa [vals] using jn)] at c4
                 have z4 := World.ownsRow.frozenAt S4.ox j
                 have c5 := World.ownsRow.cellAt (S4.alloc (.cells #[.int .i64 0, .int .i64 501] 3)).ox j (by omega)
                 rw [List.getElem?_eq_getElem (by simpa [vals] using jn)] at c5
                 have z5 := World.ownsRow.frozenAt (S4.alloc (.cells #[.int .i64 0, .int .i64 501] 3)).ox j
                 clear t1))
            all_goals
              go_wp2_with fail
              go_meet
              first
                | (obtain ⟨x, y, z, F⟩ := HF.out _ t HS5.out v0 v1; exact Lib.hid ⟨x, y, z, _, _, _, F⟩)
                | (obtain ⟨x, y, z, F⟩ := HF.out _ t HS6.out v0 v1; exact Lib.hid ⟨x, y, z, _, _, _, F⟩)
          · have jn : j < ys.length := by rw [HL.out.2.1]; omega
            have jm : j < zs.length := by rw [HL.out.2.2]; omega
            have j1 : (0 : Int) ≤ (j : Int) := by omega
            have j2 : (j : Int) < (ys.length : Int) := by omega
            have j3 : (j : Int) < (zs.length : Int) := by omega
            have hs := HT.out.2.2 j
            have HC := Lib.hid (fun (u : World) (M' : Nat) (S : ArmSt w B M' r u (.slice (some ⟨g1, 0, none⟩) xs.length cx) (.slice (some ⟨g2, 0, none⟩) ys.length cy) (.slice (some ⟨g3, 0, none⟩) zs.length cz) xs ys zs) => S.at2 j jm)
            generalize hhz : zs.getD j 0 = hh at *
            replace hhz := Lib.hid hhz
            obtain ⟨h1, h2⟩ := hs
            have o1 : IntKind.i64.wrap (hh + 1) = hh + 1 := IntWalk.i64_in _ (by omega)
            have k1 := HC.out _ _ S3.drew
            have k2 := HC.out _ _ (S3.alloc (.cells #[.int .i64 (-181), .int .i64 (hh + 1)] 3)).drew
            obtain ⟨k11, k12, k13⟩ := k1
            obtain ⟨k21, k22, k23⟩ := k2
            have rne : w3.heap.size ≠ r := by have := S3.rd.lt; omega
            have HF := Lib.hid (fun (u : World) (t : Int) (S : ArmSt w B (M + 3 * k + 1 + 1 + 1 + 1) r u (.slice (some ⟨g1, 0, none⟩) xs.length cx) (.slice (some ⟨g2, 0, none⟩) ys.length cy) (.slice (some ⟨g3, 0, none⟩) zs.length cz) xs (ys.set j t) zs) (h0 : -2000 ≤ t) (h1 : t ≤ 2000) => S.finS (M' := M + 16) (by omega) (by rw [HL.out.1]; omega) (by rw [List.length_set, HL.out.2.1]; omega) (by rw [HL.out.2.2]; omega) (HT.out.1.mono (by omega)) ((HT.out.2.1.mono (by omega)).set j h0 h1) (HT.out.2.2.mono (by omega)))
            go_wp2
            go_region_with (first
              | (go_at_call 54
                 refine (pickS w B (M + 3 * k + 1 + 1 + 1) r 2 _ _ _ xs ys zs _ (by repeat (first | (with_reducible assumption) | (with_reducible apply ArmSt.drew) | (with_reducible apply ArmSt.alloc))) hrlt (by omega)).mono ?_
                 rintro e w4 ⟨q, t0, t1, rfl, S4, s4, f4⟩
                 have t2 := t1 (by omega)
                 obtain ⟨t, v0, v1, hT⟩ := tabA (-181) (hh + 1) q (by omega) (by omega) (by omega) (by omega) t0 t2
                 obtain ⟨k31, k32, k33⟩ := HC.out _ _ S4
                 obtain ⟨k41, k42, k43⟩ := HC.out _ _ (S4.alloc (.cells #[.int .i64 (-181), .int .i64 (hh + 1)] 3))
                 have HS5 := Lib.hid (S4.put1 (p := j) hrlt (by omega) t)
                 have HS6 := Lib.hid ((S4.alloc (.cells #[.int .i64 (-181), .int .i64 (hh + 1)] 3)).put1 (p := j) hrlt (by omega) t)
                 have c4 := World.ownsRow.cellAt S4.oy j (by omega)
                 rw [List.getElem?_eq_getElem (by simpa [vals] using jn)] at c4
                 have z4 := World.ownsRow.frozenAt S4.oy j
                 have c5 := World.ownsRow.cellAt (S4.alloc (.cells #[.int .i64 (-181), .int .i64 (hh + 1)] 3)).oy j (by omega)
                 rw [List.getElem?_eq_getElem (by simpa [vals] using jn)] at c5
                 have z5 := World.ownsRow.frozenAt (S4.alloc (.cells #[.int .i64 (-181), .int .i64 (hh + 1)] 3)).oy j
                 clear t1))
            all_goals
              go_wp2_with fail
              go_meet
              first
                | (obtain ⟨x, y, z, F⟩ := HF.out _ t HS5.out (by omega) (by omega); exact Lib.hid ⟨x, y, z, _, _, _, F⟩)
                | (obtain ⟨x, y, z, F⟩ := HF.out _ t HS6.out (by omega) (by omega); exact Lib.hid ⟨x, y, z, _, _, _, F⟩)
          · obtain ⟨_, c0, c1, c2, _, _, x2⟩ := id S3.var
            have z1 : 1 ≤ zs.length := by rw [HL.out.2.2]; exact hm1
            have HF := Lib.hid (fun (a : Option Addr) (c : Nat) (ha : zs.length = 1 ∨ a = some ⟨g3, 1, none⟩) (hc : zs.length - 1 ≤ c) => S3.cut2S (M' := M + 16) (c := c) hrlt (by omega) (by omega) z1 a ha hc (by rw [HL.out.1]; omega) (by rw [HL.out.2.1]; omega) (by rw [HL.out.2.2]; omega) (HT.out.1.mono (by omega)) (HT.out.2.1.mono (by omega)) (HT.out.2.2.mono (by omega)))
            go_wp2
            all_goals
              go_meet
              first
                | (obtain ⟨x, y, z, F⟩ := HF.out _ (cz - 1) (.inr rfl) (by omega); exact Lib.hid ⟨x, y, z, _, _, _, F⟩)
                | (obtain ⟨x, y, z, F⟩ := HF.out (some ⟨g3, 0, none⟩) 0 (.inl (by omega)) (by omega); exact Lib.hid ⟨x, y, z, _, _, _, F⟩)
          · go_wp2
            go_loopg [] (5 - k) (fun gk wr => ∃ (m c : Nat) (a : Option Addr) (xs' : List Int), Hid (ArmSt w B (M + 3 * k + 1 + 1 + 1) r wr (.slice a m c) (.slice (some ⟨g2, 0, none⟩) ys.length cy) (.slice (some ⟨g3, 0, none⟩) zs.length cz) xs' ys zs) ∧ Hid (xs'.length = m) ∧ m ≤ 5 ∧ gk = 5 - m ∧ Hid (Small xs'))
            case atStart => exact ⟨k, cx, some ⟨g1, 0, none⟩, xs, Lib.hid (by have h := S3; rw [HL.out.1] at h; exact h), Lib.hid HL.out.1, by omega, rfl, Lib.hid HT.out.1⟩
            case round =>
              obtain ⟨m, c, a, xs', HS, HM, hm, rfl, HX⟩ := hrel
              obtain ⟨_, c0, c1, c2, _, _, _⟩ := id HS.out.var
              by_cases hm4 : m ≤ 4
              · have HSa := Lib.hid (HS.out.alloc (.cells #[.int .i64 5] 3))
                have HO : Hid ((wr.alloc (.cells #[.int .i64 5] 3)).ownsRow (w.heap.size + 2) 3 1 (.slice a m c) m (vals xs')) := Lib.hid (by have := HSa.out.ox; unfold OwnI at this; rw [HM.out] at this; exact this)
                have HN := Lib.hid (cell_one_new' wr (.int .i64 5) 3)
                have HH := Lib.hid (HSa.out.base)
                go_wp2_with (at_builtin; refine wpList_append_lies _ rfl (.tmp 59) (.tmp 60) 23 rfl (w.heap.size + 2) 3 i0 (.int .i64 0) 1 8 Tryd.underlying23 hi0 hz0 hz1 hz2 rfl (by decide) (.slice a m c) m (vals xs') rfl HO.out ⟨wr.heap.size, 0, none⟩ 1 1 [.int .i64 5] rfl rfl HN.out (by intro u hu; simp at hu; subst hu; rfl) (by omega) (by unfold maxLen; omega) (by omega) HH.out _ rfl ?_; intro g cap w6 own6 grow6 at6 ltg6; have HA6 : Hid (App (wr.alloc (.cells #[.int .i64 5] 3)) w6 (w.heap.size + 2) (.slice a m c) (xs' ++ [5]) g (m + 1) cap) := Lib.hid ⟨by rw [vals_snoc]; exact own6, grow6, at6⟩; obtain ⟨_, f0, f1, f2, z0, z1, z2⟩ := HSa.out.var.row HSa.out.ox HA6.out.grow (by omega); clear own6 grow6 at6 ltg6)
                have HS6 := Lib.hid (HSa.out.app0 hrlt (by omega) HA6.out)
                go_roundg (5 - (m + 1))
                case measure => omega
                case rel => exact ⟨m + 1, cap, _, xs' ++ [5], HS6, Lib.hid (by simp [HM.out]), by omega, rfl, Lib.hid (HX.out.snoc (by omega) (by omega))⟩
              · go_wp2
                go_meet
                obtain ⟨x, y, z, F⟩ := HS.out.finS (M' := M + 16) (by omega) (by rw [HM.out]; omega) (by rw [HL.out.2.1]; omega) (by rw [HL.out.2.2]; omega) (HX.out.mono (by omega)) (HT.out.2.1.mono (by omega)) (HT.out.2.2.mono (by omega))
                exact Lib.hid ⟨x, y, z, _, _, _, F⟩
      case rest =>
        obtain ⟨x, y, z, ls, lo, hi, F⟩ := hcut.out
        obtain ⟨_, c0, c1, c2, _, _, _⟩ := F.var
        obtain ⟨_, r0, r1, r2, y0, y1, y2⟩ := F.res
        have HD := fun a b c e he => Lib.hid (F.done hrlt (by omega) a b c e he)
        go_wp2
        exact bodyPost_ret (v := av x y z) (by simp [results, Tryd.results53, go_sem, r0, r1, r2]) rfl (HD _ _ _ _ rfl).out
end Go.Proofs.YtolkihibjabmhaaDoor
namespace Go.Proofs.YtolkihibjabmhaaDoor
open Go.RowKit
attribute [local go_sem ↓] Go.wp_at_zero Go.wp_at_succ
/-- What l20Small holds: the reader, the result's box, the variable's, the lists. -/
structure SSt (w0 : World) (B M r V : Nat) (u : World) (x y z : Sl) (ls lo hi : List Int) : Prop where
  rd : Rd B M u r
  gr : w0.grownBy u (some r)
  res : AtA u w0.heap.size (.slice none 0 0) (.slice none 0 0) (.slice none 0 0)
  var : AtA u V (.slice x.a x.len x.cap) (.slice y.a y.len y.cap) (.slice z.a z.len z.cap)
  ix : IntsFrom u (w0.heap.size + 1) x.a x.len ls
  iy : IntsFrom u (w0.heap.size + 1) y.a y.len lo
  iz : IntsFrom u (w0.heap.size + 1) z.a z.len hi
  wr : Wr u x y z
  zb : z.len = 0 ∨ ∃ g off, z.a = some ⟨g, off, none⟩ ∧ g < V
  sy : Sm 2000 lo
  sz : Sm 2000 hi
theorem Wr.next {u u' : World} {x y z : Sl} {hi : List Int} {base : Nat} (h : Wr u x y z) (hz : IntsFrom u base z.a z.len hi) (hb : ∀ g, base ≤ g → g < u.heap.size → ∀ j, u'.frozen? ⟨g, j, none⟩ = u.frozen? ⟨g, j, none⟩) : Wr u' x y z := by
  rcases h with h | ⟨g, off, h1, h2, h3, h4⟩
  · exact .inl h
  · rcases hz.2 with k | ⟨b, o, k1, k2, k3, _⟩
    · left; rw [hz.1, k]; rfl
    · rw [k1] at h1
      injection h1 with h1
      injection h1 with h1 _ _
      subst h1
      exact .inr ⟨b, o, k1, fun j => (hb b k2 k3 j).trans (h2 j), h3, h4⟩
theorem SSt.next {w0 u : World} {B M r V : Nat} {x y z : Sl} {ls lo hi : List Int} {u' : World} (h : SSt w0 B M r V u x y z ls lo hi) (hb : Below u.heap.size u u') : SSt w0 B M r V u' x y z ls lo hi :=
  ⟨h.rd.next hb, h.gr.trans (grown_of hb), h.res.next hb, h.var.next hb, h.ix.next hb, h.iy.next hb, h.iz.next hb, h.wr.next h.iz (fun g _ hg j => hb.frozen (p := ⟨g, j, none⟩) hg), h.zb, h.sy, h.sz⟩
theorem SSt.grown {w0 u : World} {B M r V : Nat} {x y z : Sl} {ls lo hi : List Int} {u' : World} {M' : Nat} (h : SSt w0 B M r V u x y z ls lo hi) (hr : Rd B M' u' r) (hg : u.grownBy u' (some r)) (hlt : r < w0.heap.size) (hV : w0.heap.size < V) : SSt w0 B M' r V u' x y z ls lo hi :=
  ⟨hr, h.gr.trans hg, h.res.kept hg (by simp; omega), h.var.kept hg (by simp; omega), h.ix.kept hg (fun k hk => by injection hk with hk; omega), h.iy.kept hg (fun k hk => by injection hk with hk; omega), h.iz.kept hg (fun k hk => by injection hk with hk; omega),
    h.wr.next h.iz (fun g hg1 hg2 j => World.frozen?_of_block (w := u) (a := ⟨g, j, none⟩) (hg.block g hg2 (by simp; omega))), h.zb, h.sy, h.sz⟩
theorem IntsFrom.far {w : World} {base len c o : Nat} {a : Option Addr} {zs : List Int} (h : IntsFrom w base a len zs) (hc : len = 0 ∨ ∃ b o', a = some ⟨b, o', none⟩ ∧ b ≠ c) (v : Value) : IntsFrom (w.setCell ⟨c, o, none⟩ v) base a len zs := by
  refine ⟨h.1, ?_⟩
  rcases h.2 with h2 | ⟨b, off, h1, h2, h3, h4⟩
  · exact .inl h2
  · rcases hc with hc | ⟨b', o', k1, k2⟩
    · left; exact List.eq_nil_of_length_eq_zero (by rw [← h.1]; exact hc)
    · rw [h1] at k1
      injection k1 with k1
      injection k1 with k1 _ _
      subst k1
      exact .inr ⟨b, off, h1, h2, by simpa [World.setCell] using h3, fun i hi => (World.cell?_setCell_far _ _ _ _ (by show c ≠ b; exact fun e => k2 e.symm)).trans (h4 i hi)⟩
theorem IntsFrom.putAt {w : World} {base len g off k : Nat} {zs : List Int} (h : IntsFrom w base (some ⟨g, off, none⟩) len zs) (hk : k < len) (t : Int) : IntsFrom (w.setCell ⟨g, off + k, none⟩ (.int .i64 t)) base (some ⟨g, off, none⟩) len (zs.set k t) := by
  refine ⟨by rw [List.length_set]; exact h.1, ?_⟩
  rcases h.2 with h2 | ⟨b, o, h1, h2, h3, h4⟩
  · have := h.1; rw [h2] at this; simp at this; omega
  · injection h1 with h1
    injection h1 with h1 h1' _
    subst h1 h1'
    refine .inr ⟨g, off, rfl, h2, by simpa [World.setCell] using h3, fun i hi => ?_⟩
    rw [List.length_set] at hi
    have hkl : k < zs.length := by have := h.1; omega
    by_cases e : i = k
    · subst e
      rw [World.cell?_setCell_same _ _ _ (h4 i hi), List.getD_eq_getElem?_getD, List.getElem?_set_self hkl]; rfl
    · have hne : (⟨g, off + k, none⟩ : Addr) ≠ ⟨g, off + i, none⟩ := fun hh => e (by injection hh with _ h2 _; omega)
      rw [(World.cell?_setCell_other _ _ _ _ (by first | exact hne | exact hne.symm)).trans (h4 i hi), List.getD_eq_getElem?_getD, List.getD_eq_getElem?_getD, List.getElem?_set_ne (by omega)]
theorem Sm.setAt {N : Int} {zs : List Int} (h : Sm N zs) (k : Nat) {t : Int} (t0 : -N ≤ t) (t1 : t ≤ N) : Sm N (zs.set k t) := by
  intro i
  by_cases e : i = k
  · subst e
    by_cases hl : i < zs.length
    · rw [List.getD_eq_getElem?_getD, List.getElem?_set_self hl]; exact ⟨t0, t1⟩
    · have := h i; rw [List.set_eq_of_length_le (by omega)]; exact this
  · have := h i
    rw [List.getD_eq_getElem?_getD, List.getElem?_set_ne (by omega), ← List.getD_eq_getElem?_getD]; exact this
theorem SSt.put {w0 u : World} {B M r V : Nat} {x y : Sl} {ls lo hi : List Int} {g off k : Nat} {zl zc : Nat} (h : SSt w0 B M r V u x y ⟨some ⟨g, off, none⟩, zl, zc⟩ ls lo hi) (hk : k < zl) (hlt : r < w0.heap.size) (hB : B ≤ w0.heap.size) {t : Int} (t0 : -2000 ≤ t) (t1 : t ≤ 2000) : SSt w0 B M r V (u.setCell ⟨g, off + k, none⟩ (.int .i64 t)) x y ⟨some ⟨g, off, none⟩, zl, zc⟩ ls lo (hi.set k t) := by
  have hg : w0.heap.size + 1 ≤ g ∧ g < u.heap.size := by
    rcases h.iz.2 with k2 | ⟨b, o, k1, k2, k3, _⟩
    · have := h.iz.1; rw [k2] at this; simp at this; omega
    · injection k1 with k1
      injection k1 with k1 _ _
      subst k1
      exact ⟨k2, k3⟩
  have hgV : g < V := by
    rcases h.zb with q | ⟨b, o, k1, k2⟩
    · simp only at q; omega
    · injection k1 with k1
      injection k1 with k1 _ _
      subst k1
      exact k2
  have hxy : (x.len = 0 ∨ ∃ b o, x.a = some ⟨b, o, none⟩ ∧ b ≠ g) ∧ (y.len = 0 ∨ ∃ b o, y.a = some ⟨b, o, none⟩ ∧ b ≠ g) := by
    rcases h.wr with q | ⟨b, o, k1, _, k3, k4⟩
    · simp only at q; omega
    · injection k1 with k1
      injection k1 with k1 _ _
      subst k1
      exact ⟨k3, k4⟩
  exact ⟨h.rd.set (by omega) (by omega) _, only_set h.gr (by omega) _, h.res.far (by omega) _, h.var.far (by omega) _, h.ix.far hxy.1 _, h.iy.far hxy.2 _, h.iz.putAt hk t, h.wr.set _, h.zb, h.sy, h.sz.setAt k t0 t1⟩
theorem SSt.mono {w0 u : World} {B M r V : Nat} {x y z : Sl} {ls lo hi : List Int} {M' : Nat} (h : SSt w0 B M r V u x y z ls lo hi) (hM : M ≤ M') : SSt w0 B M' r V u x y z ls lo hi := ⟨h.rd.mono hM, h.gr, h.res, h.var, h.ix, h.iy, h.iz, h.wr, h.zb, h.sy, h.sz⟩
theorem wr_at {u : World} {x y : Sl} {g off zl zc : Nat} (h : Wr u x y ⟨some ⟨g, off, none⟩, zl, zc⟩) (hz : zl ≠ 0) : ∀ j, u.frozen? ⟨g, j, none⟩ = false := by
  rcases h with h | ⟨b, o, h1, h2, _, _⟩
  · exact absurd h hz
  · injection h1 with h1
    injection h1 with h1 _ _
    subst h1
    exact h2
theorem put_cells {w0 u u' : World} {B M M' r V gy oy yl yc gz oz zl zc k : Nat} {x : Sl} {ls lo hi hi' : List Int} {lv : Int} (_h1 : k < zl) (h2 : k < yl) (S7 : SSt w0 B M r V u x ⟨some ⟨gy, oy, none⟩, yl, yc⟩ ⟨some ⟨gz, oz, none⟩, zl, zc⟩ ls lo hi) (S8 : SSt w0 B M' r V u' x ⟨some ⟨gy, oy, none⟩, yl, yc⟩ ⟨some ⟨gz, oz, none⟩, zl, zc⟩ ls lo hi') (j : u.cell? ⟨V, 1, none⟩ = some (.slice (some ⟨gy, oy, none⟩) yl yc) ∧ u.cell? ⟨V, 2, none⟩ = some (.slice (some ⟨gz, oz, none⟩) zl zc) ∧ u.cell? ⟨gy, oy + k, none⟩ = some (.int .i64 lv)) :
    u'.cell? ⟨V, 1, none⟩ = some (.slice (some ⟨gy, oy, none⟩) yl yc) ∧ u'.cell? ⟨V, 2, none⟩ = some (.slice (some ⟨gz, oz, none⟩) zl zc) ∧ u'.cell? ⟨gy, oy + k, none⟩ = some (.int .i64 lv) := by
  have at' : ∀ {v : World} {m : Nat} {h' : List Int}, SSt w0 B m r V v x ⟨some ⟨gy, oy, none⟩, yl, yc⟩ ⟨some ⟨gz, oz, none⟩, zl, zc⟩ ls lo h' → v.cell? ⟨gy, oy + k, none⟩ = some (.int .i64 (lo.getD k 0)) := fun S => by
    obtain ⟨g, o, e, _, cc⟩ := S.iy.ints.some (by simp only; omega)
    injection e with e
    injection e with e1 e2 _
    subst e1 e2
    exact cc k h2
  have e := at' S7
  rw [j.2.2] at e
  refine ⟨S8.var.c1, S8.var.c2, ?_⟩
  rw [at' S8, ← e]
theorem SSt.done {w0 u : World} {B M r V : Nat} {x y z : Sl} {ls lo hi : List Int} {M' : Nat} (h : SSt w0 B M r V u x y z ls lo hi) (hlt : r < w0.heap.size) (hB : B ≤ w0.heap.size) (hM : M ≤ M') (lx : x.len ≤ 5) (ly : y.len ≤ 4) (lz : z.len ≤ 4) (sx : Sm 2000 ls) (a b c : Value) (e : Ending) (he : e = .returned (av x y z)) :
    DrawnS B M' r w0 e (((u.setCell ⟨w0.heap.size, 0, none⟩ a).setCell ⟨w0.heap.size, 1, none⟩ b).setCell ⟨w0.heap.size, 2, none⟩ c) :=
  ⟨x, y, z, ls, lo, hi, he, (((h.ix.off (by omega) _).off (by omega) _).off (by omega) _).down (by omega), (((h.iy.off (by omega) _).off (by omega) _).off (by omega) _).down (by omega), (((h.iz.off (by omega) _).off (by omega) _).off (by omega) _).down (by omega), lx, ly, lz, ((h.wr.set _).set _).set _, sx, h.sy, h.sz,
    (((h.rd.set (by omega) hB _).set (by omega) hB _).set (by omega) hB _).mono hM, only_set (only_set (only_set h.gr (Nat.le_refl _) _) (Nat.le_refl _) _) (Nat.le_refl _) _⟩
set_option maxHeartbeats 4000000 in
theorem l20Small (B M r : Nat) (n : Int) (w : World) (hr : Rd B M w r) (hM : M ≤ 800000) (hn0 : 0 ≤ n) (hn1 : n ≤ 1000000) :
    Calls Tryd.prog 69 #[.pointer (some ⟨r, 0, none⟩), .int .i64 n] w (DrawnS B (M + 30) r w) := by
  have hrlt := hr.lt
  have hrge := hr.ge
  have hrge' : B ≤ w.heap.size := by omega
  have R0 := AtA.box w (.slice none 0 0) (.slice none 0 0) (.slice none 0 0) 25
  have hr0 := hr.next (below_box w (.cells #[.slice none 0 0, .slice none 0 0, .slice none 0 0] 25))
  have HG0 := Lib.hid (grown_of (below_box w (.cells #[.slice none 0 0, .slice none 0 0, .slice none 0 0] 25)) : w.grownBy _ (some r))
  have hs0 : (w.alloc (.cells #[.slice none 0 0, .slice none 0 0, .slice none 0 0] 25)).heap.size = w.heap.size + 1 := by simp
  clear hr
  go_enter Tryd.func69, Tryd.ntmps69
  go_wp2_with fail
  refine (l20ArmS B M r 2 n _ hr0 (by omega) (by omega) (by omega) hn0 hn1).mono ?_
  generalize w.alloc (.cells #[.slice none 0 0, .slice none 0 0, .slice none 0 0] 25) = w1 at *
  rintro e w3 ⟨⟨xa, xl, xc⟩, ⟨ya, yl, yc⟩, ⟨za, zl, zc⟩, ls, lo, hi, rfl, i1, i2, i3, lx, ly, lz, hw3, sx, sy, sz, hr3, hg3⟩
  simp only at i1 i2 i3 lx ly lz
  rw [hs0] at i1 i2 i3
  have Bv := below_box w3 (.cells #[.slice xa xl xc, .slice ya yl yc, .slice za zl zc] 25)
  have hV : w.heap.size < w3.heap.size := by have := (R0.kept hg3 (by simp; omega)).lt; exact this
  have S0 : SSt w B (M + 16) r w3.heap.size (w3.alloc (.cells #[.slice xa xl xc, .slice ya yl yc, .slice za zl zc] 25)) ⟨xa, xl, xc⟩ ⟨ya, yl, yc⟩ ⟨za, zl, zc⟩ ls lo hi :=
    ⟨hr3.next Bv, (HG0.out.trans hg3).trans (grown_of Bv), (R0.kept hg3 (by simp; omega)).next Bv, AtA.box w3 _ _ _ _, i1.next Bv, i2.next Bv, i3.next Bv, hw3.next i3 (fun g _ hg j => Bv.frozen (p := ⟨g, j, none⟩) hg),
      (by rcases i3.2 with q | ⟨b, o, q1, _, q3, _⟩
          · left; rw [i3.1, q]; rfl
          · exact .inr ⟨b, o, q1, q3⟩), sy, sz⟩
  have HSX := Lib.hid sx
  clear i1 i2 i3 hr3 hg3 R0 hr0 HG0 hs0 hw3 sx sy sz Bv
  go_wp2
  generalize w3.alloc (.cells #[.slice xa xl xc, .slice ya yl yc, .slice za zl zc] 25) = w4 at *
  generalize w3.heap.size = V at *
  go_loopw [6] (fun i wr => ∃ k : Nat, k ≤ 4 ∧ i = .int .i64 (k : Int) ∧ ∃ hi', Hid (SSt w B (M + 16 + k) r V wr ⟨xa, xl, xc⟩ ⟨ya, yl, yc⟩ ⟨za, zl, zc⟩ ls lo hi')) (fun i _ => 4 - (intOf i).toNat)
  case atStart => exact ⟨0, by omega, rfl, hi, Lib.hid S0⟩
  case round =>
    obtain ⟨k, hk, rfl, hi', HS⟩ := hrel
    clear S0
    obtain ⟨_, c0, c1, c2, _, _, _⟩ := id HS.out.var
    by_cases h1 : k < zl
    · by_cases h2 : k < yl
      · have x1 : (k : Int) < (zl : Int) := by omega
        have x2 : (k : Int) < (yl : Int) := by omega
        have x0 : (0 : Int) ≤ (k : Int) := by omega
        obtain ⟨gz, oz, rfl, gzl, cz⟩ := HS.out.iz.ints.some (by simp only; omega)
        obtain ⟨gy, oy, rfl, gyl, cy⟩ := HS.out.iy.ints.some (by simp only; omega)
        obtain ⟨s1, s2⟩ := HS.out.sy k
        obtain ⟨s3, s4⟩ := HS.out.sz k
        have HCY := Lib.hid (fun (u : World) (m : Nat) (S : SSt w B m r V u ⟨xa, xl, xc⟩ ⟨some ⟨gy, oy, none⟩, yl, yc⟩ ⟨some ⟨gz, oz, none⟩, zl, zc⟩ ls lo hi') => by
          obtain ⟨g, o, e, _, cc⟩ := S.iy.ints.some (by simp only; omega)
          simp only [Option.some.injEq, Addr.mk.injEq] at e
          obtain ⟨rfl, rfl, _⟩ := e
          exact And.intro S.var.c1 (And.intro S.var.c2 (cc k h2)))
        have HCZ := Lib.hid (fun (u : World) (m : Nat) (S : SSt w B m r V u ⟨xa, xl, xc⟩ ⟨some ⟨gy, oy, none⟩, yl, yc⟩ ⟨some ⟨gz, oz, none⟩, zl, zc⟩ ls lo hi') => by
          obtain ⟨g, o, e, _, cc⟩ := S.iz.ints.some (by simp only; omega)
          simp only [Option.some.injEq, Addr.mk.injEq] at e
          obtain ⟨rfl, rfl, _⟩ := e
          exact cc k h1)
        have k1 := keptCell (o := oz + k) gzl (cz k h1)
        have k2 := keptCell (o := oy + k) gyl (cy k h2)
        obtain ⟨v0, v1, v2⟩ := HS.out.var.kepts
        generalize hi'.getD k 0 = hv at *
        generalize lo.getD k 0 = lv at *
        clear cz cy
        have o1 : IntKind.i64.wrap (lv + 25) = lv + 25 := IntWalk.i64_in _ (by omega)
        by_cases hgt : lv + 25 < hv
        · have t1 : decide (lv + 25 < hv) = true := decide_eq_true hgt
          go_wp2
          refine wp_region_kept (by kernel_rfl) (by kernel_rfl) ?_
          repeat (go_big_quiet_step (fail))
          refine wpQuiet_nil ?_
          rintro wq ⟨⟨_, Bq⟩, rfl⟩
          have S1 := HS.out.next Bq
          clear Bq k1 k2 v0 v1 v2 c0 c1 c2 t1
          have S2 := S1.next (below_drew' wq)
          have j2 := HCY.out _ _ S2
          have o2 : IntKind.i64.wrap (lv + 5) = lv + 5 := IntWalk.i64_in _ (by omega)
          go_wp2
          go_region_held3 (fun u => u.cell? ⟨V, 1, none⟩ = some (.slice (some ⟨gy, oy, none⟩) yl yc) ∧ u.cell? ⟨V, 2, none⟩ = some (.slice (some ⟨gz, oz, none⟩) zl zc) ∧ u.cell? ⟨gy, oy + k, none⟩ = some (.int .i64 lv)) (first | (with_reducible exact j2) | (with_reducible exact j3) | (with_reducible exact j4)) (first
            | (go_at_call 54
               (with_reducible refine (pick B (M + 16 + k) r 20 _ S2.rd (by omega)).mono ?_)
               rintro e w7 ⟨p, p0, p1, rfl, hr7, hg7, hs7⟩
               have p2 := p1 (by omega)
               have S7 := S2.grown hr7 hg7 hrlt hV
               have j3 := HCY.out _ _ S7
               have f7 := HCZ.out _ _ S7
               have z7 := wr_at S7.wr (by omega) (oz + k)
               have o3 : IntKind.i64.wrap (lv + 5 + p) = lv + 5 + p := IntWalk.i64_in _ (by omega)
               have S8 := S7.put h1 hrlt hrge' (t := lv + 5 + p) (by omega) (by omega)
               have j4 := put_cells h1 h2 S7 S8 j3
               have HS8 := Lib.hid S8
               clear hr7 hg7 hs7 p1 S8)
            | fail)
          clear j2 j3 j4 f7 z7 S1 S2 S7
          go_wp2
          go_roundw
          case rel => exact ⟨k + 1, by omega, by congr 1, _, HS8⟩
          case measure => simp [intOf]; omega
        · have t1 : decide (lv + 25 < hv) = false := decide_eq_false hgt
          go_wp2
          refine wp_region_kept (by kernel_rfl) (by kernel_rfl) ?_
          repeat (go_big_quiet_step (fail))
          refine wpQuiet_nil ?_
          rintro wq ⟨⟨_, Bq⟩, rfl⟩
          have HS1 := Lib.hid ((HS.out.next Bq).mono (M' := M + 16 + (k + 1)) (by omega))
          clear Bq k1 k2 v0 v1 v2 c0 c1 c2 t1
          go_wp2
          go_roundw
          case rel => exact ⟨k + 1, by omega, by congr 1, _, HS1⟩
          case measure => simp [intOf]; omega
      · have hb : decide (k < yl) = false := decide_eq_false h2
        obtain ⟨_, r0, r1, r2, z0, z1, z2⟩ := id HS.out.res
        have HD := Lib.hid (fun a b c => HS.out.done (M' := M + 30) hrlt hrge' (by omega) lx ly lz HSX.out a b c)
        go_wp2
        exact bodyPost_ret (v := av ⟨xa, xl, xc⟩ ⟨ya, yl, yc⟩ ⟨za, zl, zc⟩) (by simp [results, Tryd.results69, go_sem, r0, r1, r2]) rfl (HD.out _ _ _ _ rfl)
    · have hb : decide (k < zl) = false := decide_eq_false h1
      obtain ⟨_, r0, r1, r2, z0, z1, z2⟩ := id HS.out.res
      have HD := Lib.hid (fun a b c => HS.out.done (M' := M + 30) hrlt hrge' (by omega) lx ly lz HSX.out a b c)
      go_wp2
      exact bodyPost_ret (v := av ⟨xa, xl, xc⟩ ⟨ya, yl, yc⟩ ⟨za, zl, zc⟩) (by simp [results, Tryd.results69, go_sem, r0, r1, r2]) rfl (HD.out _ _ _ _ rfl)
end Go.Proofs.YtolkihibjabmhaaDoor
