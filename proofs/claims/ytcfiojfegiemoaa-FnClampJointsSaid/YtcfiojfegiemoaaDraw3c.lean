/- What the law FnClampJoints draws: an arm, and angles. -/
import Derived.Test.YtcfiojfegiemoaaDraw3j
namespace Go.Proofs.Ytcfiojfegiemoaa
open Go.RowKit
attribute [local go_sem ↓] Go.wp_at_zero Go.wp_at_succ
theorem quo11 (p : Int) (h0 : 0 ≤ p) (h1 : p < 12) : ∃ d : Int, IntKind.i64.wrap (p.tdiv 11) = d ∧ p / 11 = d ∧ IntKind.i64.wrap d = d ∧ 0 ≤ d ∧ d ≤ 1 := by
  refine ⟨p / 11, ?_, rfl, IntWalk.i64_in _ (by omega), by omega, by omega⟩
  rw [Int.tdiv_eq_ediv_of_nonneg h0]
  exact IntWalk.i64_in _ (by omega)
set_option maxHeartbeats 2000000 in
theorem drawClampJoints (w : World) (a : Option Addr) (len cap : Nat) (zs : List Int) (h : Bytes w a len cap zs) :
    Calls Try.prog 22 #[.slice a len cap] w (GotArmJ w) := by
  obtain ⟨i0, hi0, hz0, hz1, hz2⟩ := info_parts infoInt
  have hle := h.len_le
  have HB := Lib.hid (below_box w (.cells #[.slice none 0 0, .slice none 0 0, .slice none 0 0] 25))
  have R := AtA.box w (.slice none 0 0) (.slice none 0 0) (.slice none 0 0) 25
  go_enter Try.func22, Try.ntmps22
  go_wp2_with fail
  refine (open_codeB w.heap.size _ a len cap HB.out.size hle.1 (by have := hle.2; unfold maxLen at this; omega) (fun k hk => (h.code k hk).below fun x hx => HB.out.cell hx)).mono ?_
  generalize w.alloc (.cells #[.slice none 0 0, .slice none 0 0, .slice none 0 0] 25) = w0 at *
  rintro e w1 ⟨rfl, hr1, hb1⟩
  have hR := R.lt
  have R1 := R.next hb1
  have HB1 := Lib.hid (below_call HB.out hb1)
  clear hb1 R h hle
  go_wp2_with fail
  refine (pick _ _ _ 4 _ hr1 (by omega)).mono ?_
  rintro e w2 ⟨x, a1, b1, rfl, hr2, hg2, hs2⟩
  have b2 := b1 (by omega)
  have R2 := R1.kept hg2 (by simp; omega)
  have HB2 := Lib.hid (below_of' HB1.out hg2 (by omega))
  obtain ⟨m, hm⟩ : ∃ m : Nat, 1 + x = (m : Int) := ⟨(1 + x).toNat, by omega⟩
  have hrlt := hr2.lt
  clear b1 hs2 hg2 hr1 R1
  go_wp2_with fail
  refine (l20Arm _ _ _ m 14 _ hr2 (by omega) (by omega) (by omega) (by omega) (by omega)).mono ?_
  rintro e w3 ⟨⟨xa, xl, xc⟩, ⟨ya, yl, yc⟩, ⟨za, zl, zc⟩, ls, lo, hi, rfl, i1, i2, i3, lx, ly, lz, kx, ky, kz, sx, sy, sz, hr3, hg3⟩
  simp only at i1 i2 i3 lx ly lz kx ky kz
  have R3 := R2.kept hg3 (by simp; omega)
  have HB3 := Lib.hid (below_of' HB2.out hg3 (by omega))
  have J0 := JSt.start w3 w.heap.size (0 + 1 + 16) w0.heap.size hr3 (.slice xa xl xc) (.slice ya yl yc) (.slice za zl zc) 25
  have HI := Lib.hid (And.intro i1 (And.intro i2 i3))
  have hv : w0.heap.size < w3.heap.size := hr3.lt
  have HR := Lib.hid R3
  have hw2 : w.heap.size < w2.heap.size := R2.lt
  clear i1 i2 i3 sx sy sz hr3 hg3 hr2 R2 hm R3
  go_wp2
  generalize (w3.alloc (.cells #[.slice xa xl xc, .slice ya yl yc, .slice za zl zc] 25)).alloc (.cells #[] 3) = u0 at *
  go_loopw [6, 7] (fun v i wr => ∃ (k : Nat) (js : List Int), i = .int .i64 (k : Int) ∧ Hid (JSt w3 w.heap.size (0 + 1 + 16 + 2 * k) w0.heap.size wr (.slice xa xl xc) (.slice ya yl yc) (.slice za zl zc) v js) ∧ Hid (js.length = k) ∧ k ≤ xl + 1) (fun _ i _ => xl + 1 - (intOf i).toNat)
  case atStart => exact ⟨0, [], rfl, Lib.hid J0, Lib.hid rfl, Nat.zero_le _⟩
  case round =>
    obtain ⟨k, js, rfl, HS, HL, hk⟩ := hrel
    clear J0
    have Sd := HS.out.drew
    have k1 := Sd.arm.c0
    obtain ⟨vs, rfl, es, cs⟩ := OwnI.slv HS.out.own
    obtain ⟨va, vl, vc⟩ := vs
    simp only at es cs
    have ES := Lib.hid es
    clear es
    go_wp2
    go_region_held3 (fun u => u.cell? ⟨w3.heap.size, 0, none⟩ = some (.slice xa xl xc)) (first | exact k1 | exact k2) (first
      | (go_at_call 36
         (with_reducible refine (pick w.heap.size (0 + 1 + 16 + 2 * k) w0.heap.size 12 _ Sd.rd (by omega)).mono ?_)
         rintro e w5 ⟨p, p0, p1, rfl, hr5, hg5, hs5⟩
         have p2 := p1 (by omega)
         have S5 := Sd.pick hr5 hg5 hv
         have k2 := S5.arm.c0
         obtain ⟨dd, e1, e2, e3, e4, e5⟩ := quo11 p p0 p2
         have e6 : IntKind.i64.wrap ((xl : Int) + dd) = (xl : Int) + dd := IntWalk.i64_in _ (by omega)
         clear p1 hr5 hg5 hs5)
      | fail)
    clear e1 e2 e3 e6 k1 k2 Sd
    by_cases hlt : (k : Int) < (xl : Int) + dd
    · go_wp2_with fail
      refine (pick w.heap.size (0 + 1 + 16 + 2 * k + 1) w0.heap.size 500 _ S5.rd (by omega)).mono ?_
      rintro e w6 ⟨q, q0, q1, rfl, hr6, hg6, hs6⟩
      have q2 := q1 (by omega)
      have HSa := Lib.hid ((S5.pick hr6 hg6 hv).alloc (.cells #[.int .i64 (q - 250)] 3))
      have HN := Lib.hid (cell_one_new' w6 (.int .i64 (q - 250)) 3)
      have HH := Lib.hid HSa.out.base
      have HL1 := Lib.hid (show js.length + 1 ≤ maxLen by rw [HL.out]; unfold maxLen; omega)
      have HL2 := Lib.hid (show (js.length + 1) * 8 ≤ 140737488355328 by rw [HL.out]; omega)
      clear q1 hr6 hg6 hs6 S5
      go_wp2_with (at_builtin; refine wpList_append_lies _ rfl (.tmp 27) (.tmp 31) 23 rfl (w3.heap.size + 1) 3 i0 (.int .i64 0) 1 8 Try.underlying23 hi0 hz0 hz1 hz2 rfl (by decide) (.slice va vl vc) js.length (vals js) rfl HSa.out.own ⟨w6.heap.size, 0, none⟩ 1 1 [.int .i64 (q - 250)] rfl rfl HN.out (by intro u hu; simp at hu; subst hu; rfl) Nat.one_pos HL1.out HL2.out HH.out _ rfl ?_; intro g cap6 w7 own7 grow7 at7 ltg7; have HA7 : Hid (App (w6.alloc (.cells #[.int .i64 (q - 250)] 3)) w7 (w3.heap.size + 1) (.slice va vl vc) (js ++ [q - 250]) g (js.length + 1) cap6) := Lib.hid ⟨by rw [vals_snoc]; exact own7, grow7, at7⟩; clear own7 grow7 at7 ltg7)
      have HS7 := Lib.hid (HSa.out.app hv (by omega) HA7.out)
      go_roundw
      case rel => exact ⟨k + 1, js ++ [q - 250], by congr 1, HS7, Lib.hid (by simp [HL.out]), by omega⟩
      case measure => simp [intOf]; omega
    · have HE := Lib.hid (And.intro (HI.out.1.kept S5.gr (fun q hq => by injection hq with hq; omega)) (And.intro (HI.out.2.1.kept S5.gr (fun q hq => by injection hq with hq; omega)) (And.intro (HI.out.2.2.kept S5.gr (fun q hq => by injection hq with hq; omega)) (And.intro S5.own.from (And.intro (HR.out.kept S5.gr (by simp; omega)) (below_of' HB3.out S5.gr (by omega)))))))
      obtain ⟨_, c0, c1, c2, _, _, _⟩ := id S5.arm
      obtain ⟨_, r0, r1, r2, y0, y1, y2⟩ := id HE.out.2.2.2.2.1
      have hw3 : w.heap.size < w3.heap.size := HR.out.lt
      have HF := Lib.hid (fun a b c => And.intro ((((HE.out.1.off (c := w.heap.size) (o := 0) hw2 a).off (c := w.heap.size) (o := 1) hw2 b).off (c := w.heap.size) (o := 2) hw2 c).ints) (And.intro ((((HE.out.2.1.off (c := w.heap.size) (o := 0) hw2 a).off (c := w.heap.size) (o := 1) hw2 b).off (c := w.heap.size) (o := 2) hw2 c).ints) (And.intro ((((HE.out.2.2.1.off (c := w.heap.size) (o := 0) hw2 a).off (c := w.heap.size) (o := 1) hw2 b).off (c := w.heap.size) (o := 2) hw2 c).ints) (And.intro ((((HE.out.2.2.2.1.off (c := w.heap.size) (o := 0) (by omega) a).off (c := w.heap.size) (o := 1) (by omega) b).off (c := w.heap.size) (o := 2) (by omega) c).ints) (((HE.out.2.2.2.2.2.setCell (p := ⟨w.heap.size, 0, none⟩) (Nat.le_refl _) a).setCell (p := ⟨w.heap.size, 1, none⟩) (Nat.le_refl _) b).setCell (p := ⟨w.heap.size, 2, none⟩) (Nat.le_refl _) c)))))
      have hsl : vl ≤ 6 := by rw [ES.out, HL.out]; omega
      clear S5 HE
      go_wp2
      exact bodyPost_ret (v := .tuple #[av ⟨xa, xl, xc⟩ ⟨ya, yl, yc⟩ ⟨za, zl, zc⟩, .slice va vl vc]) (by simp [results, Try.results22, go_sem, r0, r1, r2]) rfl ⟨⟨xa, xl, xc⟩, ⟨ya, yl, yc⟩, ⟨za, zl, zc⟩, ⟨va, vl, vc⟩, ls, lo, hi, js, rfl, (HF.out _ _ _).1, (HF.out _ _ _).2.1, (HF.out _ _ _).2.2.1, (HF.out _ _ _).2.2.2.1, lx, ly, lz, hsl, kz, (HF.out _ _ _).2.2.2.2⟩
end Go.Proofs.Ytcfiojfegiemoaa
