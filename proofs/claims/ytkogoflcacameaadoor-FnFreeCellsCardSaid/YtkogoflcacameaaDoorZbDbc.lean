/- Several of my texts in one: DrB10, DrawC. -/
import Derived.Test.YtkogoflcacameaaDoorZbDr
import Derived.Outline
import Derived.Deep.LoopGhost
import Derived.Deep.CutBlock
namespace Go.Proofs.YtkogoflcacameaaDoor
set_option maxRecDepth 100000
open Go.RowKit
attribute [local go_sem ↓] Go.wp_at_zero Go.wp_at_succ
/-- The numbers of z may be written, and those of x and y lie elsewhere. -/
def Wr (u : World) (x y z : Sl) : Prop :=
  z.len = 0 ∨ ∃ g off, z.a = some ⟨g, off, none⟩ ∧ (∀ j, u.frozen? ⟨g, j, none⟩ = false) ∧ (x.len = 0 ∨ ∃ b o, x.a = some ⟨b, o, none⟩ ∧ b ≠ g) ∧ (y.len = 0 ∨ ∃ b o, y.a = some ⟨b, o, none⟩ ∧ b ≠ g)
theorem OwnI.slot {w : World} {base : Nat} {s : Sl} {zs : List Int} (h : OwnI w base (.slice s.a s.len s.cap) zs) : s.len = 0 ∨ ∃ g, s.a = some ⟨g, 0, none⟩ ∧ (Value.slice s.a s.len s.cap).ownBlock = some g ∧ ∀ j, w.frozen? ⟨g, j, none⟩ = false := by
  by_cases h0 : s.len = 0
  · exact .inl h0
  · have e : s.len = zs.length := h.ints.1
    obtain ⟨g, cap, hs, _, _⟩ := h.at (by omega)
    obtain ⟨a, n, c⟩ := s
    simp only [Value.slice.injEq] at hs e ⊢
    obtain ⟨rfl, rfl, rfl⟩ := hs
    refine .inr ⟨g, rfl, rfl, fun j => World.ownsRow.frozenAt h j⟩
theorem ArmSt.wr {w0 u : World} {B M r : Nat} {x y z : Sl} {xs ys zs : List Int} (h : ArmSt w0 B M r u (.slice x.a x.len x.cap) (.slice y.a y.len y.cap) (.slice z.a z.len z.cap) xs ys zs) : Wr u x y z := by
  rcases h.oz.slot with h1 | ⟨g, e1, e2, e3⟩
  · exact .inl h1
  · refine .inr ⟨g, 0, e1, e3, ?_, ?_⟩
    · rcases h.ox.slot with k1 | ⟨b, k1, k2, _⟩
      · exact .inl k1
      · refine .inr ⟨b, 0, k1, ?_⟩
        rcases h.xz with q | q | q
        · rw [k2] at q; cases q
        · rw [e2] at q; cases q
        · rw [k2, e2] at q; intro e; exact q (by rw [e])
    · rcases h.oy.slot with k1 | ⟨b, k1, k2, _⟩
      · exact .inl k1
      · refine .inr ⟨b, 0, k1, ?_⟩
        rcases h.yz with q | q | q
        · rw [k2] at q; cases q
        · rw [e2] at q; cases q
        · rw [k2, e2] at q; intro e; exact q (by rw [e])
theorem Wr.set {u : World} {x y z : Sl} {b o : Nat} (h : Wr u x y z) (v : Value) : Wr (u.setCell ⟨b, o, none⟩ v) x y z := by
  rcases h with h | ⟨g, off, h1, h2, h3, h4⟩
  · exact .inl h
  · exact .inr ⟨g, off, h1, fun j => (World.frozen?_setCell _ _ _ _).trans (h2 j), h3, h4⟩
theorem ArmSt.wrY {w0 u : World} {B M r : Nat} {x y z : Sl} {xs ys zs : List Int} (h : ArmSt w0 B M r u (.slice x.a x.len x.cap) (.slice y.a y.len y.cap) (.slice z.a z.len z.cap) xs ys zs) : Wr u x z y := by
  rcases h.oy.slot with h1 | ⟨g, e1, e2, e3⟩
  · exact .inl h1
  · refine .inr ⟨g, 0, e1, e3, ?_, ?_⟩
    · rcases h.ox.slot with k1 | ⟨b, k1, k2, _⟩
      · exact .inl k1
      · refine .inr ⟨b, 0, k1, ?_⟩
        rcases h.xy with q | q | q
        · rw [k2] at q; cases q
        · rw [e2] at q; cases q
        · rw [k2, e2] at q; intro e; exact q (by rw [e])
    · rcases h.oz.slot with k1 | ⟨b, k1, k2, _⟩
      · exact .inl k1
      · refine .inr ⟨b, 0, k1, ?_⟩
        rcases h.yz with q | q | q
        · rw [e2] at q; cases q
        · rw [k2] at q; cases q
        · rw [k2, e2] at q; intro e; exact q (by rw [e])
/-- Both lists of angles may be written. -/
def Wr2 (u : World) (x y z : Sl) : Prop := Wr u x y z ∧ Wr u x z y
/-- What a draw of an arm says, with what may be written. -/
def DrawnS (B M r : Nat) (w : World) (e : Ending) (w' : World) : Prop :=
  ∃ (x y z : Sl) (ls lo hi : List Int), e = .returned (av x y z) ∧ (IntsFrom w' w.heap.size x.a x.len ls ∧ IntsFrom w' w.heap.size y.a y.len lo ∧ IntsFrom w' w.heap.size z.a z.len hi) ∧ (x.len ≤ 5 ∧ y.len ≤ 4 ∧ z.len ≤ 4) ∧ (x.len ≤ x.cap ∧ y.len ≤ y.cap ∧ z.len ≤ z.cap) ∧ Wr2 w' x y z ∧ (Sm 2000 ls ∧ Sm 2000 lo ∧ Sm 2000 hi) ∧ Rd B M w' r ∧ w.grownBy w' (some r)
structure FinS (w0 : World) (B M r : Nat) (u : World) (x y z : Sl) (ls lo hi : List Int) : Prop extends FinA w0 B M r u x y z ls lo hi where
  wr : Wr2 u x y z
theorem ArmSt.finS {w0 u : World} {B M M' r : Nat} {sx sy sz : Value} {xs ys zs : List Int} (h : ArmSt w0 B M r u sx sy sz xs ys zs) (hM : M ≤ M') (l1 : xs.length ≤ 5) (l2 : ys.length ≤ 4) (l3 : zs.length ≤ 4) (t1 : Sm 2000 xs) (t2 : Sm 2000 ys) (t3 : Sm 2000 zs) : ∃ x y z : Sl, FinS w0 B M' r u x y z xs ys zs := by
  obtain ⟨x, rfl, ex, kx⟩ := OwnI.slv h.ox
  obtain ⟨y, rfl, ey, ky⟩ := OwnI.slv h.oy
  obtain ⟨z, rfl, ez, kz⟩ := OwnI.slv h.oz
  exact ⟨x, y, z, ⟨h.rd.mono hM, h.gr, h.res, h.var, h.ox.from, h.oy.from, h.oz.from, by omega, by omega, by omega, kx, ky, kz, t1, t2, t3⟩, h.wr, h.wrY⟩
theorem FinS.done {w0 u : World} {B M r : Nat} {x y z : Sl} {ls lo hi : List Int} (h : FinS w0 B M r u x y z ls lo hi) (hlt : r < w0.heap.size) (hB : B ≤ w0.heap.size) (a b c : Value) (e : Ending) (he : e = .returned (av x y z)) :
    DrawnS B M r w0 e (((u.setCell ⟨w0.heap.size, 0, none⟩ a).setCell ⟨w0.heap.size, 1, none⟩ b).setCell ⟨w0.heap.size, 2, none⟩ c) :=
  ⟨x, y, z, ls, lo, hi, he, ⟨(((h.ix.off (by omega) _).off (by omega) _).off (by omega) _).down (by omega), (((h.iy.off (by omega) _).off (by omega) _).off (by omega) _).down (by omega), (((h.iz.off (by omega) _).off (by omega) _).off (by omega) _).down (by omega)⟩, ⟨h.lx, h.ly, h.lz⟩, ⟨h.kx, h.ky, h.kz⟩, ⟨((h.wr.1.set _).set _).set _, ((h.wr.2.set _).set _).set _⟩, ⟨h.sx, h.sy, h.sz⟩,
    ((h.rd.set' (by omega) hB _).set' (by omega) hB _).set' (by omega) hB _, only_set' (only_set' (only_set' h.gr (Nat.le_refl _) _) (Nat.le_refl _) _) (Nat.le_refl _) _⟩
/-- What the cut behind the branches says. -/
def DrewS (w0 : World) (B M r : Nat) (u : World) : Prop := ∃ (x y z : Sl) (ls lo hi : List Int), FinS w0 B M r u x y z ls lo hi
theorem ArmSt.cut2S {w0 u : World} {B M M' r g n cap c : Nat} {sx sy : Value} {xs ys zs : List Int} (h : ArmSt w0 B M r u sx sy (.slice (some ⟨g, 0, none⟩) n cap) xs ys zs) (hlt : r < w0.heap.size) (hB : B ≤ w0.heap.size) (hM : M ≤ M') (hn : 1 ≤ n) (a : Option Addr) (ha : n = 1 ∨ a = some ⟨g, 1, none⟩) (hc : n - 1 ≤ c) (l1 : xs.length ≤ 5) (l2 : ys.length ≤ 4) (l3 : zs.length ≤ 4) (t1 : Sm 2000 xs) (t2 : Sm 2000 ys) (t3 : Sm 2000 zs) :
    ∃ x y z : Sl, FinS w0 B M' r (u.setCell ⟨w0.heap.size + 1, 2, none⟩ (.slice a (n - 1) c)) x y z xs ys zs.tail := by
  obtain ⟨x, rfl, ex, kx⟩ := OwnI.slv h.ox
  obtain ⟨y, rfl, ey, ky⟩ := OwnI.slv h.oy
  have hz := h.oz.ints.1
  have hw : Wr u x y ⟨some ⟨g, 0, none⟩, n, cap⟩ := ArmSt.wr (z := ⟨some ⟨g, 0, none⟩, n, cap⟩) h
  have hw2 : Wr u x ⟨some ⟨g, 0, none⟩, n, cap⟩ y := ArmSt.wrY (z := ⟨some ⟨g, 0, none⟩, n, cap⟩) h
  refine ⟨x, y, ⟨a, n - 1, c⟩, ⟨(h.rd.set' (by omega) (by omega) _).mono hM, only_set' h.gr (by omega) _, h.res.far (by omega) _, h.var.put2 _, h.ox.from.off (by omega) _, h.oy.from.off (by omega) _, (h.oz.tail_from hn a ha).off (by omega) _, by omega, by omega, by simp only; omega, kx, ky, hc, t1, t2, t3.tail⟩, Wr.set ?_ _, Wr.set ?_ _⟩
  · rcases ha with ha | rfl
    · exact .inl (by simp only; omega)
    · rcases hw with hw | ⟨g', off, h1, h2, h3, h4⟩
      · simp only at hw; omega
      · simp only at h1
        injection h1 with h1
        injection h1 with h1 _ _
        subst h1
        exact .inr ⟨g, 1, rfl, h2, h3, h4⟩
  · rcases hw2 with hw2 | ⟨g', off, h1, h2, h3, h4⟩
    · exact .inl hw2
    · refine .inr ⟨g', off, h1, h2, h3, ?_⟩
      rcases ha with ha | rfl
      · exact .inl (by show n - 1 = 0; rw [ha])
      · rcases h4 with h4 | ⟨b, o, h5, h6⟩
        · exact .inl (by have k : n = 0 := h4; show n - 1 = 0; rw [k])
        · simp only at h5
          injection h5 with h5
          injection h5 with h5 _ _
          subst h5
          exact .inr ⟨g, 1, rfl, h6⟩
theorem oddZ0 (r : Nat) (w : World) : Calls Tryd.prog 48 #[.pointer (some ⟨r, 0, none⟩), .int .i64 0] w fun e w' => e = .returned (.bool false) ∧ w = w' := by
  go_enter Tryd.func48, Tryd.ntmps48
  go_wp2
  go_ret
  exact ⟨rfl, rfl⟩
theorem oddZ (B M r : Nat) (n : Int) (w : World) (hr : Rd B M w r) (hM : M ≤ 1000000) (h0 : 0 ≤ n) (h1 : n ≤ 1000000) :
    Calls Tryd.prog 48 #[.pointer (some ⟨r, 0, none⟩), .int .i64 n] w (OddA B M r w) := by
  by_cases hn : 0 < n
  · exact oddA B M r n w hr hM hn h1
  · obtain rfl : n = 0 := by omega
    exact (oddZ0 r w).mono fun _ _ ⟨he, hw⟩ => ⟨false, he, hw ▸ hr.mono (by omega), hw ▸ World.grownBy.refl w (some r), hw ▸ rfl⟩
set_option maxHeartbeats 4000000 in
set_option maxRecDepth 100000 in
theorem l20ArmT (B M r : Nat) (many : Nat) (n : Int) (w : World) (hr : Rd B M w r) (hM : M ≤ 900000) (hm1 : 1 ≤ many) (hm2 : many ≤ 4) (hn0 : 0 ≤ n) (hn1 : n ≤ 1000000) :
    Calls Tryd.prog 24 #[.pointer (some ⟨r, 0, none⟩), .int .i64 (many : Int), .int .i64 n] w (DrawnS B (M + 16) r w) := by
  obtain ⟨i0, hi0, hz0, hz1, hz2⟩ := info_parts infoInt
  have hrlt := hr.lt
  have hrge := hr.ge
  have S0 := ArmSt.start w B M r hr 25
  clear hr
  go_enter Tryd.func24, Tryd.ntmps24
  go_wp2
  generalize (w.alloc (.cells #[.slice none 0 0, .slice none 0 0, .slice none 0 0] 25)).alloc (.cells #[.slice none 0 0, .slice none 0 0, .slice none 0 0] 25) = u0 at *
  go_loopw [8] (fun i wr => LoopA w B M r many i wr) (fun i _ => many - (intOf i).toNat)
  case atStart => exact ⟨0, Nat.zero_le _, rfl, _, _, _, [], [], [], S0, rfl, rfl, rfl, Sm.nil (by omega), Sm.nil (by omega), Sm.nil (by omega)⟩
  case round =>
    obtain ⟨k, hk, rfl, sx, sy, sz, xs, ys, zs, S, l1, l2, l3, t1, t2, t3⟩ := hrel
    by_cases hlt : k < many
    · have HL := Lib.hid (And.intro l1 (And.intro l2 l3))
      clear l1 l2 l3 S0
      go_upto_region 5 with fail
      go_cut [] from 12 to 45 (fun wx => ∃ sx' xs', Hid (ArmSt w B (M + 3 * k + 1) r wx sx' sy sz xs' ys zs ∧ xs'.length = k + 1 ∧ Small xs'))
      case first =>
        have Sd := S.drew
        obtain ⟨_, c0, c1, c2, _, _, _⟩ := id Sd.var
        go_region_law (first
          | (refine step_append_lies _ rfl (.tmp 18) (.tmp 22) 23 rfl (w.heap.size + 2) 3 i0 (.int .i64 0) 1 8 Tryd.underlying23 hi0 hz0 hz1 hz2 rfl (by decide) sx xs.length (vals xs) rfl HSa.out.ox ⟨w1.heap.size, 0, none⟩ 1 1 [.int .i64 (1 + x1)] rfl rfl HN.out (by intro u hu; simp at hu; subst hu; rfl) (by omega) (by rw [HL.out.1]; unfold maxLen; omega) (by rw [HL.out.1]; omega) HH.out _ rfl ?_
             intro g cap w3 own3 grow3 at3 ltg
             have HA3 : Hid (App (w1.alloc (.cells #[.int .i64 (1 + x1)] 3)) w3 (w.heap.size + 2) sx (xs ++ [1 + x1]) g (xs.length + 1) cap) := Lib.hid ⟨by rw [vals_snoc]; exact own3, grow3, at3⟩
             obtain ⟨_, f0, f1, f2, z0, z1, z2⟩ := HSa.out.var.row HSa.out.ox HA3.out.grow (by omega)
             have HS3 := Lib.hid (HSa.out.app0 hrlt (by omega) HA3.out)
             have g1 := HS3.out.var.c1
             clear own3 grow3 at3 ltg)
          | (go_simp
             go_at_call 25
             refine (pick B (M + 3 * k) r 120 _ Sd.rd (by omega)).mono ?_
             rintro e w1 ⟨x1, a1, b1, rfl, hr1, hg1, hs1⟩
             have b2 := b1 (by omega)
             have S1 := Sd.pick hr1 hg1 hrlt
             have HSa := Lib.hid (S1.alloc (.cells #[.int .i64 (1 + x1)] 3))
             have d0 := S1.var.c0
             have d1 := S1.var.c1
             have e0 := HSa.out.var.c0
             have e1 := HSa.out.var.c1
             have HN := Lib.hid (cell_one_new' w1 (.int .i64 (1 + x1)) 3)
             have HH := Lib.hid (HSa.out.base)
             have o1 : IntKind.i64.wrap (1 + x1) = 1 + x1 := IntWalk.i64_in _ (by omega)
             clear b1 hs1 hr1 hg1))
        all_goals
          go_wp2_with fail
          go_meet
          exact ⟨_, _, Lib.hid ⟨HS3.out, by simp [HL.out.1], t1.snoc (by omega) (by omega)⟩⟩
      case rest =>
        obtain ⟨sx', xs', HS⟩ := hcut
        go_wp2_with fail
        refine (pick B (M + 3 * k + 1) r 300 _ HS.out.1.rd (by omega)).mono ?_
        rintro e w4 ⟨x2, a2, b2, rfl, hr2, hg2, hs2⟩
        have b3 := b2 (by omega)
        have HS4 := Lib.hid (HS.out.1.pick hr2 hg2 hrlt)
        clear b2 hr2 hg2 hs2
        obtain ⟨low, hlow⟩ : ∃ low : Int, low = x2 - 180 := ⟨_, rfl⟩
        have l1 : -180 ≤ low := by omega
        have l2 : low ≤ 119 := by omega
        replace hlow := Lib.hid hlow
        have HS5 := Lib.hid (HS4.out.alloc (.cells #[.int .i64 (x2 - 180)] 3))
        obtain ⟨_, c0, c1, c2, _, _, _⟩ := id HS4.out.var
        have HN := Lib.hid (cell_one_new' w4 (.int .i64 (x2 - 180)) 3)
        have HH := Lib.hid (HS5.out.base)
        go_upto_region 8 with (at_builtin; refine wpList_append_lies _ rfl (.tmp 29) (.tmp 31) 23 rfl (w.heap.size + 2) 3 i0 (.int .i64 0) 1 8 Tryd.underlying23 hi0 hz0 hz1 hz2 rfl (by decide) sy ys.length (vals ys) rfl HS5.out.oy ⟨w4.heap.size, 0, none⟩ 1 1 [.int .i64 (x2 - 180)] rfl rfl HN.out (by intro u hu; simp at hu; subst hu; rfl) (by omega) (by rw [HL.out.2.1]; unfold maxLen; omega) (by rw [HL.out.2.1]; omega) HH.out _ rfl ?_; intro g cap w6 own6 grow6 at6 ltg6; have HA6 : Hid (App (w4.alloc (.cells #[.int .i64 (x2 - 180)] 3)) w6 (w.heap.size + 2) sy (ys ++ [x2 - 180]) g (ys.length + 1) cap) := Lib.hid ⟨by rw [vals_snoc]; exact own6, grow6, at6⟩; obtain ⟨_, f0, f1, f2, z0, z1, z2⟩ := HS5.out.var.row HS5.out.oy HA6.out.grow (by omega); clear own6 grow6 at6 ltg6)
        have HS6 := Lib.hid (HS5.out.app1 hrlt (by omega) HA6.out)
        have HY := Lib.hid (And.intro (show (ys ++ [x2 - 180]).length = k + 1 by simp [HL.out.2.1]) (t2.snoc (z := x2 - 180) (by omega) (by omega)))
        generalize ys ++ [x2 - 180] = ys' at *
        generalize hsy : Value.slice (some ⟨g, 0, none⟩) (ys.length + 1) cap = sy' at *
        generalize w6.setCell ⟨w.heap.size + 1, 1, none⟩ sy' = w7 at *
        clear hsy HS5 HS4 HN HH HA6 f0 f1 f2 z0 z1 z2 c0 c1 c2
        rw [← hlow.out]
        clear hlow
        have Sd := HS6.out.drew
        obtain ⟨_, c0, c1, c2, _, _, _⟩ := id Sd.var
        have o1 : IntKind.i64.wrap (181 - low) = 181 - low := IntWalk.i64_in _ (by omega)
        have o2 : ¬ (181 - low < 60) := by omega
        go_region_law (first
          | (refine step_append_lies _ rfl (.tmp 35) (.tmp 43) 23 rfl (w.heap.size + 2) 3 i0 (.int .i64 0) 1 8 Tryd.underlying23 hi0 hz0 hz1 hz2 rfl (by decide) sz zs.length (vals zs) rfl HSa.out.oz ⟨w8.heap.size, 0, none⟩ 1 1 [.int .i64 (low + x3)] rfl rfl HN.out (by intro u hu; simp at hu; subst hu; rfl) (by omega) (by rw [HL.out.2.2]; unfold maxLen; omega) (by rw [HL.out.2.2]; omega) HH.out _ rfl ?_
             intro g cap w9 own9 grow9 at9 ltg
             have HA9 : Hid (App (w8.alloc (.cells #[.int .i64 (low + x3)] 3)) w9 (w.heap.size + 2) sz (zs ++ [low + x3]) g (zs.length + 1) cap) := Lib.hid ⟨by rw [vals_snoc]; exact own9, grow9, at9⟩
             obtain ⟨_, f0, f1, f2, z0, z1, z2⟩ := HSa.out.var.row HSa.out.oz HA9.out.grow (by omega)
             have HS9 := Lib.hid (HSa.out.app2 hrlt (by omega) HA9.out)
             clear own9 grow9 at9 ltg)
          | (go_simp
             go_at_call 25
             refine (pick B (M + 3 * k + 1 + 1) r 60 _ Sd.rd (by omega)).mono ?_
             rintro e w8 ⟨x3, a3, b3', rfl, hr3, hg3, hs3⟩
             have b4 := b3' (by omega)
             have S8 := Sd.pick hr3 hg3 hrlt
             have HSa := Lib.hid (S8.alloc (.cells #[.int .i64 (low + x3)] 3))
             have d2 := S8.var.c2
             have e2 := HSa.out.var.c2
             have HN := Lib.hid (cell_one_new' w8 (.int .i64 (low + x3)) 3)
             have HH := Lib.hid (HSa.out.base)
             have o3 : IntKind.i64.wrap (low + x3) = low + x3 := IntWalk.i64_in _ (by omega)
             clear b3' hs3 hr3 hg3))
        all_goals
          have HX := Lib.hid HS.out.2
          clear HS6 HS S Sd
          go_wp2
          go_roundw
          case rel => exact ⟨k + 1, by omega, by congr 1, _, _, _, _, _, _, HS9.out, HX.out.1, HY.out.1, by simp [HL.out.2.2], HX.out.2, HY.out.2, t3.snoc (by omega) (by omega)⟩
          case measure => simp [intOf]; omega
    · obtain rfl : k = many := by omega
      have HL := Lib.hid (And.intro l1 (And.intro l2 l3))
      clear l1 l2 l3 S0
      have HT := Lib.hid (And.intro t1 (And.intro t2 t3))
      clear t1 t2 t3
      go_wp2_with fail
      refine (oddZ B (M + 3 * k) r n _ S.rd (by omega) hn0 hn1).mono ?_
      rintro e w1 ⟨b, rfl, hr1, hg1, hs1⟩
      have S1 := S.pick hr1 hg1 hrlt
      clear hr1 hg1 hs1 S
      go_upto_if 48 with fail
      go_cut [] (fun wx => Hid (DrewS w B (M + 16) r wx))
      case first =>
        cases b
        · go_wp2_with fail
          go_meet
          obtain ⟨x, y, z, F⟩ := S1.finS (M' := M + 16) (by omega) (by rw [HL.out.1]; omega) (by rw [HL.out.2.1]; omega) (by rw [HL.out.2.2]; omega) (HT.out.1.mono (by omega)) (HT.out.2.1.mono (by omega)) (HT.out.2.2.mono (by omega))
          exact Lib.hid ⟨x, y, z, _, _, _, F⟩
        · go_wp2_with fail
          refine (pickS w B (M + 3 * k + 1) r (k : Int) sx sy sz xs ys zs _ S1 hrlt (by omega)).mono ?_
          rintro e w2 ⟨p, p0, p1, rfl, S2, s2, f2⟩
          have p2 := p1 (by omega)
          clear p1 S1 s2 f2
          go_wp2_with fail
          refine (pickS w B (M + 3 * k + 1 + 1) r 4 sx sy sz xs ys zs _ S2 hrlt (by omega)).mono ?_
          rintro e w3 ⟨q, q0, q1, rfl, S3, s3, f3⟩
          have q2 := q1 (by omega)
          clear q1 S2 s3 f3
          obtain ⟨g1, cx, rfl, hg1, hc1⟩ := S3.ox.at (by rw [HL.out.1]; exact hm1)
          obtain ⟨g2, cy, rfl, hg2, hc2⟩ := S3.oy.at (by rw [HL.out.2.1]; exact hm1)
          obtain ⟨g3, cz, rfl, hg3, hc3⟩ := S3.oz.at (by rw [HL.out.2.2]; exact hm1)
          obtain ⟨j, hj⟩ : ∃ j : Nat, p = (j : Int) := ⟨p.toNat, by omega⟩
          subst hj
          have hq : q = 0 ∨ q = 1 ∨ q = 2 ∨ q = 3 := by omega
          clear q0 q2
          rcases hq with rfl | rfl | rfl | rfl
          · have jn : j < xs.length := by rw [HL.out.1]; omega
            have j1 : (0 : Int) ≤ (j : Int) := by omega
            have j2 : (j : Int) < (xs.length : Int) := by omega
            have k1 := S3.drew.var.c0
            have k2 := (S3.alloc (.cells #[.int .i64 0, .int .i64 501] 3)).drew.var.c0
            have rne : w3.heap.size ≠ r := by have := S3.rd.lt; omega
            have HF := Lib.hid (fun (u : World) (t : Int) (S : ArmSt w B (M + 3 * k + 1 + 1 + 1 + 1) r u (.slice (some ⟨g1, 0, none⟩) xs.length cx) (.slice (some ⟨g2, 0, none⟩) ys.length cy) (.slice (some ⟨g3, 0, none⟩) zs.length cz) (xs.set j t) ys zs) (h0 : -2000 ≤ t) (h1 : t ≤ 2000) => S.finS (M' := M + 16) (by omega) (by rw [List.length_set, HL.out.1]; omega) (by rw [HL.out.2.1]; omega) (by rw [HL.out.2.2]; omega) ((HT.out.1.mono (by omega)).set j h0 h1) (HT.out.2.1.mono (by omega)) (HT.out.2.2.mono (by omega)))
            go_wp2
            go_region_with (first
              | (go_at_call 25
                 refine (pickS w B (M + 3 * k + 1 + 1 + 1) r 2 _ _ _ xs ys zs _ (by repeat (first | (with_reducible assumption) | (with_reducible apply ArmSt.drew) | (with_reducible apply ArmSt.alloc))) hrlt (by omega)).mono ?_
                 rintro e w4 ⟨q, t0, t1, rfl, S4, s4, f4⟩
                 have t2 := t1 (by omega)
                 obtain ⟨t, v0, v1, hT⟩ := tabA 0 501 q (by omega) (by omega) (by omega) (by omega) t0 t2
                 have k3 := S4.var.c0
                 have k4 := (S4.alloc (.cells #[.int .i64 0, .int .i64 501] 3)).var.c0
                 have HS5 := Lib.hid (S4.put0 (p := j) hrlt (by omega) t)
                 have HS6 := Lib.hid ((S4.alloc (.cells #[.int .i64 0, .int .i64 501] 3)).put0 (p := j) hrlt (by omega) t)
                 have k5 := HS5.out.var.c0
                 have k6 := HS6.out.var.c0
                 have c4 := World.ownsRow.cellAt S4.ox j (by omega)
                 rw [List.getElem?_eq_getElem (by simpa [vals] using jn)] at c4
                 have z4 := World.ownsRow.frozenAt S4.ox j
                 have c5 := World.ownsRow.cellAt (S4.alloc (.cells #[.int .i64 0, .int .i64 501] 3)).ox j (by omega)
                 rw [List.getElem?_eq_getElem (by simpa [vals] using jn)] at c5
                 have z5 := World.ownsRow.frozenAt (S4.alloc (.cells #[.int .i64 0, .int .i64 501] 3)).ox j
                 clear t1))
            all_goals
              go_wp2_with fail
              go_meet
              first
                | (obtain ⟨x, y, z, F⟩ := HF.out _ t HS5.out v0 v1; exact Lib.hid ⟨x, y, z, _, _, _, F⟩)
                | (obtain ⟨x, y, z, F⟩ := HF.out _ t HS6.out v0 v1; exact Lib.hid ⟨x, y, z, _, _, _, F⟩)
          · have jn : j < ys.length := by rw [HL.out.2.1]; omega
            have jm : j < zs.length := by rw [HL.out.2.2]; omega
            have j1 : (0 : Int) ≤ (j : Int) := by omega
            have j2 : (j : Int) < (ys.length : Int) := by omega
            have j3 : (j : Int) < (zs.length : Int) := by omega
            have hs := HT.out.2.2 j
            have HC := Lib.hid (fun (u : World) (M' : Nat) (S : ArmSt w B M' r u (.slice (some ⟨g1, 0, none⟩) xs.length cx) (.slice (some ⟨g2, 0, none⟩) ys.length cy) (.slice (some ⟨g3, 0, none⟩) zs.length cz) xs ys zs) => S.at2 j jm)
            generalize hhz : zs.getD j 0 = hh at *
            replace hhz := Lib.hid hhz
            obtain ⟨h1, h2⟩ := hs
            have o1 : IntKind.i64.wrap (hh + 1) = hh + 1 := IntWalk.i64_in _ (by omega)
            have k1 := HC.out _ _ S3.drew
            have k2 := HC.out _ _ (S3.alloc (.cells #[.int .i64 (-181), .int .i64 (hh + 1)] 3)).drew
            obtain ⟨k11, k12, k13⟩ := k1
            obtain ⟨k21, k22, k23⟩ := k2
            have rne : w3.heap.size ≠ r := by have := S3.rd.lt; omega
            have HF := Lib.hid (fun (u : World) (t : Int) (S : ArmSt w B (M + 3 * k + 1 + 1 + 1 + 1) r u (.slice (some ⟨g1, 0, none⟩) xs.length cx) (.slice (some ⟨g2, 0, none⟩) ys.length cy) (.slice (some ⟨g3, 0, none⟩) zs.length cz) xs (ys.set j t) zs) (h0 : -2000 ≤ t) (h1 : t ≤ 2000) => S.finS (M' := M + 16) (by omega) (by rw [HL.out.1]; omega) (by rw [List.length_set, HL.out.2.1]; omega) (by rw [HL.out.2.2]; omega) (HT.out.1.mono (by omega)) ((HT.out.2.1.mono (by omega)).set j h0 h1) (HT.out.2.2.mono (by omega)))
            go_wp2
            go_region_with (first
              | (go_at_call 25
                 refine (pickS w B (M + 3 * k + 1 + 1 + 1) r 2 _ _ _ xs ys zs _ (by repeat (first | (with_reducible assumption) | (with_reducible apply ArmSt.drew) | (with_reducible apply ArmSt.alloc))) hrlt (by omega)).mono ?_
                 rintro e w4 ⟨q, t0, t1, rfl, S4, s4, f4⟩
                 have t2 := t1 (by omega)
                 obtain ⟨t, v0, v1, hT⟩ := tabA (-181) (hh + 1) q (by omega) (by omega) (by omega) (by omega) t0 t2
                 obtain ⟨k31, k32, k33⟩ := HC.out _ _ S4
                 obtain ⟨k41, k42, k43⟩ := HC.out _ _ (S4.alloc (.cells #[.int .i64 (-181), .int .i64 (hh + 1)] 3))
                 have HS5 := Lib.hid (S4.put1 (p := j) hrlt (by omega) t)
                 have HS6 := Lib.hid ((S4.alloc (.cells #[.int .i64 (-181), .int .i64 (hh + 1)] 3)).put1 (p := j) hrlt (by omega) t)
                 have c4 := World.ownsRow.cellAt S4.oy j (by omega)
                 rw [List.getElem?_eq_getElem (by simpa [vals] using jn)] at c4
                 have z4 := World.ownsRow.frozenAt S4.oy j
                 have c5 := World.ownsRow.cellAt (S4.alloc (.cells #[.int .i64 (-181), .int .i64 (hh + 1)] 3)).oy j (by omega)
                 rw [List.getElem?_eq_getElem (by simpa [vals] using jn)] at c5
                 have z5 := World.ownsRow.frozenAt (S4.alloc (.cells #[.int .i64 (-181), .int .i64 (hh + 1)] 3)).oy j
                 clear t1))
            all_goals
              go_wp2_with fail
              go_meet
              first
                | (obtain ⟨x, y, z, F⟩ := HF.out _ t HS5.out (by omega) (by omega); exact Lib.hid ⟨x, y, z, _, _, _, F⟩)
                | (obtain ⟨x, y, z, F⟩ := HF.out _ t HS6.out (by omega) (by omega); exact Lib.hid ⟨x, y, z, _, _, _, F⟩)
          · obtain ⟨_, c0, c1, c2, _, _, x2⟩ := id S3.var
            have z1 : 1 ≤ zs.length := by rw [HL.out.2.2]; exact hm1
            have HF := Lib.hid (fun (a : Option Addr) (c : Nat) (ha : zs.length = 1 ∨ a = some ⟨g3, 1, none⟩) (hc : zs.length - 1 ≤ c) => S3.cut2S (M' := M + 16) (c := c) hrlt (by omega) (by omega) z1 a ha hc (by rw [HL.out.1]; omega) (by rw [HL.out.2.1]; omega) (by rw [HL.out.2.2]; omega) (HT.out.1.mono (by omega)) (HT.out.2.1.mono (by omega)) (HT.out.2.2.mono (by omega)))
            go_wp2
            all_goals
              go_meet
              first
                | (obtain ⟨x, y, z, F⟩ := HF.out _ (cz - 1) (.inr rfl) (by omega); exact Lib.hid ⟨x, y, z, _, _, _, F⟩)
                | (obtain ⟨x, y, z, F⟩ := HF.out (some ⟨g3, 0, none⟩) 0 (.inl (by omega)) (by omega); exact Lib.hid ⟨x, y, z, _, _, _, F⟩)
          · go_wp2
            go_loopg [] (5 - k) (fun gk wr => ∃ (m c : Nat) (a : Option Addr) (xs' : List Int), Hid (ArmSt w B (M + 3 * k + 1 + 1 + 1) r wr (.slice a m c) (.slice (some ⟨g2, 0, none⟩) ys.length cy) (.slice (some ⟨g3, 0, none⟩) zs.length cz) xs' ys zs) ∧ Hid (xs'.length = m) ∧ m ≤ 5 ∧ gk = 5 - m ∧ Hid (Small xs'))
            case atStart => exact ⟨k, cx, some ⟨g1, 0, none⟩, xs, Lib.hid (by have h := S3; rw [HL.out.1] at h; exact h), Lib.hid HL.out.1, by omega, rfl, Lib.hid HT.out.1⟩
            case round =>
              obtain ⟨m, c, a, xs', HS, HM, hm, rfl, HX⟩ := hrel
              obtain ⟨_, c0, c1, c2, _, _, _⟩ := id HS.out.var
              by_cases hm4 : m ≤ 4
              · have HSa := Lib.hid (HS.out.alloc (.cells #[.int .i64 5] 3))
                have HO : Hid ((wr.alloc (.cells #[.int .i64 5] 3)).ownsRow (w.heap.size + 2) 3 1 (.slice a m c) m (vals xs')) := Lib.hid (by have := HSa.out.ox; unfold OwnI at this; rw [HM.out] at this; exact this)
                have HN := Lib.hid (cell_one_new' wr (.int .i64 5) 3)
                have HH := Lib.hid (HSa.out.base)
                go_wp2_with (at_builtin; refine wpList_append_lies _ rfl (.tmp 59) (.tmp 60) 23 rfl (w.heap.size + 2) 3 i0 (.int .i64 0) 1 8 Tryd.underlying23 hi0 hz0 hz1 hz2 rfl (by decide) (.slice a m c) m (vals xs') rfl HO.out ⟨wr.heap.size, 0, none⟩ 1 1 [.int .i64 5] rfl rfl HN.out (by intro u hu; simp at hu; subst hu; rfl) (by omega) (by unfold maxLen; omega) (by omega) HH.out _ rfl ?_; intro g cap w6 own6 grow6 at6 ltg6; have HA6 : Hid (App (wr.alloc (.cells #[.int .i64 5] 3)) w6 (w.heap.size + 2) (.slice a m c) (xs' ++ [5]) g (m + 1) cap) := Lib.hid ⟨by rw [vals_snoc]; exact own6, grow6, at6⟩; obtain ⟨_, f0, f1, f2, z0, z1, z2⟩ := HSa.out.var.row HSa.out.ox HA6.out.grow (by omega); clear own6 grow6 at6 ltg6)
                have HS6 := Lib.hid (HSa.out.app0 hrlt (by omega) HA6.out)
                go_roundg (5 - (m + 1))
                case measure => omega
                case rel => exact ⟨m + 1, cap, _, xs' ++ [5], HS6, Lib.hid (by simp [HM.out]), by omega, rfl, Lib.hid (HX.out.snoc (by omega) (by omega))⟩
              · go_wp2
                go_meet
                obtain ⟨x, y, z, F⟩ := HS.out.finS (M' := M + 16) (by omega) (by rw [HM.out]; omega) (by rw [HL.out.2.1]; omega) (by rw [HL.out.2.2]; omega) (HX.out.mono (by omega)) (HT.out.2.1.mono (by omega)) (HT.out.2.2.mono (by omega))
                exact Lib.hid ⟨x, y, z, _, _, _, F⟩
      case rest =>
        obtain ⟨x, y, z, ls, lo, hi, F⟩ := hcut.out
        obtain ⟨_, c0, c1, c2, _, _, _⟩ := F.var
        obtain ⟨_, r0, r1, r2, y0, y1, y2⟩ := F.res
        have HD := fun a b c e he => Lib.hid (F.done hrlt (by omega) a b c e he)
        go_wp2
        exact bodyPost_ret (v := av x y z) (by simp [results, Tryd.results24, go_sem, r0, r1, r2]) rfl (HD _ _ _ _ rfl).out
end Go.Proofs.YtkogoflcacameaaDoor
namespace Go.Proofs.YtkogoflcacameaaDoor
set_option maxRecDepth 100000
open Go.RowKit
attribute [local go_sem ↓] Go.wp_at_zero Go.wp_at_succ
/-- What a draw of angles says. -/
def DrawnJ (B M r : Nat) (w : World) (e : Ending) (w' : World) : Prop :=
  ∃ (s : Sl) (js : List Int), e = .returned (.slice s.a s.len s.cap) ∧ IntsFrom w' w.heap.size s.a s.len js ∧ s.len ≤ 5 ∧ s.len ≤ s.cap ∧ Rd B M w' r ∧ w.grownBy w' (some r)
/-- What the draw holds: the reader, the arm's box, the row of the angles. -/
structure JSt (w0 : World) (B M r : Nat) (u : World) (x y z v : Value) (js : List Int) : Prop where
  rd : Rd B M u r
  gr : w0.grownBy u (some r)
  arm : AtA u w0.heap.size x y z
  own : OwnI u (w0.heap.size + 1) v js
theorem JSt.drew {w0 u : World} {B M r : Nat} {x y z v : Value} {js : List Int} (h : JSt w0 B M r u x y z v js) : JSt w0 B M r u.drew x y z v js :=
  ⟨h.rd.drew, only_drew h.gr, h.arm.next (below_drew' u), h.own.next (below_drew' u)⟩
theorem JSt.alloc {w0 u : World} {B M r : Nat} {x y z v : Value} {js : List Int} (h : JSt w0 B M r u x y z v js) (o : Obj) : JSt w0 B M r (u.alloc o) x y z v js :=
  ⟨h.rd.alloc o, only_alloc h.gr o, h.arm.alloc o, h.own.next (below_box u o)⟩
theorem JSt.pick {w0 u u' : World} {B M r : Nat} {x y z v : Value} {js : List Int} (h : JSt w0 B M r u x y z v js) (hr : Rd B (M + 1) u' r) (hg : u.grownBy u' (some r)) (hlt : r < w0.heap.size) : JSt w0 B (M + 1) r u' x y z v js :=
  ⟨hr, h.gr.trans hg, h.arm.kept hg (by simp; omega), h.own.row hg (h.own.past (by omega))⟩
theorem JSt.app {w0 u w3 : World} {B M r g n cap : Nat} {x y z v : Value} {js js' : List Int} (h : JSt w0 B M r u x y z v js) (hlt : r < w0.heap.size) (hB : B ≤ w0.heap.size) (a : App u w3 (w0.heap.size + 1) v js' g n cap) :
    JSt w0 B M r w3 x y z (.slice (some ⟨g, 0, none⟩) n cap) js' := by
  have ho := fun k hk => a.old h.own k hk
  exact ⟨h.rd.kept a.grow (fun e => by have := ho r e.symm; omega) (fun k hk => by have := ho k hk; omega), only_row h.gr a.grow (fun k hk => by have := ho k hk; omega), h.arm.row h.own a.grow (by omega), a.owns.2⟩
theorem JSt.put {w0 u : World} {B M r g n cap p : Nat} {x y z : Value} {js : List Int} (h : JSt w0 B M r u x y z (.slice (some ⟨g, 0, none⟩) n cap) js) (hlt : r < w0.heap.size) (hB : B ≤ w0.heap.size) (t : Int) :
    JSt w0 B M r (u.setCell ⟨g, p, none⟩ (.int .i64 t)) x y z (.slice (some ⟨g, 0, none⟩) n cap) (js.set p t) := by
  have hg := (World.ownsRow.lt h.own g rfl).1
  have hn : n = js.length := h.own.ints.1
  subst hn
  have hs := World.ownsRow.stored h.own p (.int .i64 t)
  refine ⟨h.rd.set' (by omega) (by omega) _, only_set' h.gr (by omega) _, h.arm.far (by omega) _, ?_⟩
  unfold OwnI
  rw [List.length_set, ← vals_set]
  exact hs.1
theorem JSt.base {w0 u : World} {B M r : Nat} {x y z v : Value} {js : List Int} (h : JSt w0 B M r u x y z v js) : w0.heap.size + 1 ≤ u.heap.size := by have := h.arm.lt; omega
theorem JSt.start (w : World) (B M r : Nat) (hr : Rd B M w r) (x y z : Value) (t : Nat) :
    JSt w B M r ((w.alloc (.cells #[x, y, z] t)).alloc (.cells #[] 3)) x y z (.slice (some ⟨w.heap.size + 1, 0, none⟩) 0 0) [] := by
  refine ⟨(hr.alloc _).alloc _, only_alloc (only_alloc (World.grownBy.refl w (some r)) _) _, (AtA.box w x y z t).alloc _, ?_⟩
  have := World.ownsRow_lit (base := w.heap.size + 1) (e := 3) (size := 1) (w.alloc (.cells #[x, y, z] t)) #[] 0 (by simp) (Nat.zero_le _) rfl
  simpa [OwnI] using this
theorem JSt.done {w0 u : World} {B M M' r : Nat} {x y z v : Value} {js : List Int} (h : JSt w0 B M r u x y z v js) (hM : M ≤ M') (hl : js.length ≤ 5) (e : Ending) (he : e = .returned v) : DrawnJ B M' r w0 e u := by
  obtain ⟨s, rfl, e1, e2⟩ := OwnI.slv h.own
  exact ⟨s, js, he, h.own.from.down (by omega), by omega, e2, h.rd.mono hM, h.gr⟩
theorem JSt.cut {w0 u : World} {B M M' r g n cap c : Nat} {x y z : Value} {js : List Int} (h : JSt w0 B M r u x y z (.slice (some ⟨g, 0, none⟩) n cap) js) (hM : M ≤ M') (hn : 1 ≤ n) (a : Option Addr) (ha : n = 1 ∨ a = some ⟨g, 1, none⟩) (hc : n - 1 ≤ c) (hl : js.length ≤ 5) (e : Ending) (he : e = .returned (.slice a (n - 1) c)) : DrawnJ B M' r w0 e u := by
  have hz := h.own.ints.1
  exact ⟨⟨a, n - 1, c⟩, js.tail, he, (h.own.tail_from hn a ha).down (by omega), by simp only; omega, hc, h.rd.mono hM, h.gr⟩
theorem JSt.own' {w0 u : World} {B M r g n cap : Nat} {x y z : Value} {js : List Int} (h : JSt w0 B M r u x y z (.slice (some ⟨g, 0, none⟩) n cap) js) : u.ownsRow (w0.heap.size + 1) 3 1 (.slice (some ⟨g, 0, none⟩) n cap) n (vals js) := by
  have hn : n = js.length := h.own.ints.1
  subst hn
  exact h.own
/-- An element of a list that lies below the draw. -/
theorem IntsFrom.cellAt {w u : World} {base len r j : Nat} {a : Option Addr} {zs : List Int} (h : IntsFrom w base a len zs) (hg : w.grownBy u (some r)) (hr : r < base) (hj : j < len) : ∃ b off, a = some ⟨b, off, none⟩ ∧ base ≤ b ∧ b < w.heap.size ∧ u.cell? ⟨b, off + j, none⟩ = some (.int .i64 (zs.getD j 0)) := by
  have hk := h.kept hg (fun k hk => by injection hk with hk; omega)
  rcases h.2 with h2 | ⟨b, off, h1, h2, h3, h4⟩
  · have := h.1; rw [h2] at this; simp at this; omega
  · rcases hk.2 with k2 | ⟨b', off', k1, k2, k3, k4⟩
    · have := hk.1; rw [k2] at this; simp at this; omega
    · rw [h1] at k1; simp at k1
      obtain ⟨rfl, rfl⟩ := k1
      exact ⟨b, off, h1, h2, h3, k4 j (by rw [← h.1]; exact hj)⟩
end Go.Proofs.YtkogoflcacameaaDoor
