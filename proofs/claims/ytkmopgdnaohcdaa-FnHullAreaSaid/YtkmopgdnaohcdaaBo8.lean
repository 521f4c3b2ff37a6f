/- The program's border of sorted points. -/
import Derived.Test.YtkmopgdnaohcdaaZbSrt
import Derived.Test.YtkmopgdnaohcdaaSm8
import Derived.Deep.AppendLies
namespace Go.Proofs.Ytkmopgdnaohcdaa
set_option maxRecDepth 100000
open Go.RowKit
attribute [local go_sem ↓] Go.wp_at_zero Go.wp_at_succ
/-- What the border holds between two points. -/
def BoSt (w : World) (v : Value) (s : List P2) (u : World) : Prop := OwnPt u w.heap.size v s.reverse ∧ Below w.heap.size w u
set_option maxHeartbeats 8000000 in
theorem borderC (a : Option Addr) (len cap : Nat) (ps : List P2) (w : World) (hp : PL w a len ps) (hl : len ≤ 1000) (hk : okPts ps) :
    Calls Try.prog 97 #[.slice a len cap] w (RowP (lowB ps) w) := by
  obtain ⟨i0, hi0, hz0, hz1, hz2⟩ := info_parts infoPt6
  have HLE := Lib.hid hp.1
  have HP := Lib.hid hp
  have HOK := Lib.hid hk
  have H0 : Hid (BoSt w (.slice none 0 0) (bord [] (ps.take 0)) w) := Lib.hid ⟨World.ownsRow_nil _ _ _ _, Below.refl _ _⟩
  clear hp hk
  go_enter Try.func97, Try.ntmps97
  go_wp2
  go_loopw [3, 9] (fun v i wr => ∃ j : Nat, j ≤ len ∧ i = .int .i64 (j : Int) ∧ Hid (BoSt w v (bord [] (ps.take j)) wr)) (fun _ i _ => len - (intOf i).toNat)
  case atStart => exact ⟨0, Nat.zero_le _, rfl, H0⟩
  case round =>
    obtain ⟨j, hj, rfl, HS⟩ := hrel
    clear H0
    by_cases hlt : j < len
    · have j1 : (0 : Int) ≤ (j : Int) := by omega
      have j2 : (j : Int) < (len : Int) := by omega
      have HP1 := Lib.hid (HP.out.next HS.out.2)
      obtain ⟨b, o, rfl, lt, hc⟩ := HP1.out.somes (by omega)
      have d1 := (hc j hlt).1
      have d2 := (hc j hlt).2
      have HN := Lib.hid (bord_snoc ps j (by rw [← HLE.out]; exact hlt))
      have HL := Lib.hid (show (bord [] (ps.take j)).length ≤ j by have := bord_len (ps.take j) []; rw [List.length_take] at this; simp at this; omega)
      have HM := Lib.hid (show ∀ (x : P2), x ∈ bord [] (ps.take j) → okQ x from fun x hx => by
        rcases bord_mem (ps.take j) [] x hx with k | k
        · cases k
        · exact HOK.out x (List.mem_of_mem_take k))
      have HC := Lib.hid (show okQ (cor ps j) from HOK.out.cor (by rw [← HLE.out]; exact hlt))
      clear hc
      generalize cor ps j = c at *
      generalize bord [] (ps.take j) = s0 at *
      obtain ⟨n0, hn0⟩ : ∃ n0 : Nat, s0.length = n0 := ⟨_, rfl⟩
      obtain ⟨va, vn, vc, rfl, hvn⟩ : ∃ va vn vc, u3 = .slice va vn vc ∧ vn = n0 := by
        rcases HS.out.1.2 with ⟨hv, hn⟩ | ⟨g, cp, cur, hv, _⟩
        · exact ⟨none, 0, 0, hv, by have := hn; rw [List.length_reverse] at this; omega⟩
        · exact ⟨_, _, _, hv, by rw [List.length_reverse]; exact hn0⟩
      subst hvn
      have HS2 := Lib.hid (show BoSt w (.slice va vn vc) s0 (wr.alloc (.cells #[.int .i64 c.1, .int .i64 c.2] 28)) from ⟨HS.out.1.next (below_box _ _), below_call HS.out.2 (below_box _ _)⟩)
      have HX := Lib.hid (AtP.box wr c.1 c.2 28)
      have HXB := Lib.hid (show w.heap.size ≤ wr.heap.size from HS.out.2.size)
      have HSF0 := Lib.hid (And.intro HS2.out HX.out)
      go_wp2
      clear HS HS2 HX d1 d2 lt HXB
      generalize wr.heap.size = bx at *
      generalize wr.alloc (.cells #[.int .i64 c.1, .int .i64 c.2] 28) = w1 at *
      go_loopw [3, 6] (fun v n wr2 => ∃ (xa : Option Addr) (m xc : Nat) (s : List P2), v = .slice xa m xc ∧ n = .int .i64 (m : Int) ∧ s.length = m ∧ m ≤ vn ∧ Hid (popTo c s = popTo c s0) ∧ Hid (∀ x ∈ s, okQ x) ∧ Hid (BoSt w (.slice xa m xc) s wr2) ∧ Hid (AtP wr2 bx c.1 c.2)) (fun _ n _ => (intOf n).toNat)
      case atStart => exact ⟨va, vn, vc, s0, rfl, rfl, hn0, Nat.le_refl _, Lib.hid rfl, HM, Lib.hid HSF0.out.1, Lib.hid HSF0.out.2⟩
      case round =>
        obtain ⟨xa, m, xc, s, rfl, rfl, hms, hmv, HPO, HM2, HS3, HX3⟩ := hrel
        have hvj := HL.out
        have m0 : (m : Int) ≤ 1000 := by omega
        by_cases h2 : 2 ≤ m
        · obtain ⟨t, u, r, rfl⟩ : ∃ t u r, s = t :: u :: r := by
            cases s with
            | nil => simp at hms; omega
            | cons t s => cases s with
              | nil => simp at hms; omega
              | cons u r => exact ⟨t, u, r, rfl⟩
          obtain ⟨k, hk⟩ : ∃ k : Nat, r.length = k := ⟨_, rfl⟩
          have hmk : m = k + 1 + 1 := by simp only [List.length_cons] at hms; omega
          obtain ⟨k1, hk1⟩ : ∃ k1 : Nat, k1 = k + 1 := ⟨_, rfl⟩
          obtain ⟨g, rfl, hgB, hgl⟩ : ∃ g, xa = some ⟨g, 0, none⟩ ∧ w.heap.size ≤ g ∧ g < wr.heap.size := by
            rcases (own_len HS3.out.1).2 with ⟨_, z, _⟩ | z
            · omega
            · exact z
          have hcap := own_cap HS3.out.1
          have z1 : (m : Int) - 2 = (k : Int) := by omega
          have z2 : (m : Int) - 1 = (k1 : Int) := by omega
          have z3 : (0 : Int) ≤ (k : Int) := by omega
          have z4 : (k : Int) < (m : Int) := by omega
          have z5 : (0 : Int) ≤ (k1 : Int) := by omega
          have z6 : (k1 : Int) < (m : Int) := by omega
          have z7 : (1 : Int) < (m : Int) := by omega
          have z8 : (k1 : Int) ≤ (xc : Int) := by omega
          obtain ⟨g', hg', _, hcl⟩ := (OwnPt.ints HS3.out.1).some (by omega)
          simp only [Option.some.injEq, Addr.mk.injEq, and_true] at hg'
          subst hg'
          have q1 := hcl k (by omega)
          have q2 := hcl k1 (by omega)
          have ea : ((t :: u :: r).reverse.getD k (0, 0)) = u := by have := cor_rev_next (b := t) (a := u) (s := r); rw [hk] at this; exact this
          have eb : ((t :: u :: r).reverse.getD k1 (0, 0)) = t := by have := cor_rev_top (b := t) (s := u :: r); rw [show (u :: r).length = k1 by simp only [List.length_cons]; omega] at this; exact this
          rw [ea] at q1
          rw [eb] at q2
          have u1 := keptCell (b := g) (o := k * 2) hgl q1.1
          have u2 := keptCell (b := g) (o := k * 2 + 1) hgl q1.2
          have u3 := keptCell (b := g) (o := k1 * 2) hgl q2.1
          have u4 := keptCell (b := g) (o := k1 * 2 + 1) hgl q2.2
          obtain ⟨u5, u6⟩ := HX3.out.kepts
          have HOR := Lib.hid (fun (q : Kept wr) => keptCall (oriC u t c q.u))
          have HOS := Lib.hid (show ori u t c = sgn (cr u t c) from ori_ok ⟨HM2.out u (by simp), HM2.out t (by simp), HC.out⟩)
          have HKK := Lib.hid (And.intro hmk (And.intro hk1 hk))
          clear hcl q1 q2 ea eb HSF0
          by_cases hcr : cr u t c ≤ 0
          · have hs : ori u t c ≤ 0 := by rw [HOS.out]; rcases sgn_cases (cr u t c) with ⟨z, e⟩ | ⟨z, e⟩ | ⟨z, e⟩ <;> rw [e] <;> omega
            have HPO2 := Lib.hid (show popTo c (u :: r) = popTo c s0 by rw [← HPO.out]; conv => rhs; unfold popTo; rw [if_pos hcr])
            have hd : decide (ori u t c ≤ 0) = true := decide_eq_true hs
            clear hcr hs hmk hk1
            generalize ori u t c = ov at *
            go_upto_region 6 with fail
            refine wp_region_kept (by kernel_rfl) (by kernel_rfl) ?_
            repeat (go_big_quiet_step ((go_at_call 47; with_reducible exact HOR.out _)))
            refine wpQuiet_nil ?_
            rintro w5 ⟨⟨_, K5⟩, rfl⟩
            have HSF := Lib.hid (show BoSt w (.slice (some ⟨g, 0, none⟩) k1 xc) (u :: r) w5 from ⟨by
              have o := own_take (m := k1) (HS3.out.1.next K5) (by simp only [List.length_reverse, List.length_cons]; have := HKK.out; omega)
              have e : k1 = (u :: r).length := by simp only [List.length_cons]; have := HKK.out; omega
              rw [e, take_rev_pop, ← e] at o
              exact o, below_call HS3.out.2 K5⟩)
            have HXF := Lib.hid (HX3.out.next K5)
            clear u1 u2 u3 u4 u5 u6 HOR
            go_wp2
            go_roundw
            case rel => exact ⟨some ⟨g, 0, none⟩, k1, xc, u :: r, rfl, rfl, by simp only [List.length_cons]; have := HKK.out; omega, by have := HKK.out; omega, HPO2, Lib.hid (fun x hx => HM2.out x (List.mem_cons_of_mem _ hx)), HSF, HXF⟩
            case measure => simp [intOf]; have := HKK.out; omega
          · have hs : 0 < ori u t c := by rw [HOS.out]; rcases sgn_cases (cr u t c) with ⟨z, e⟩ | ⟨z, e⟩ | ⟨z, e⟩ <;> rw [e] <;> omega
            have HPS := Lib.hid (show popTo c (t :: u :: r) = t :: u :: r by unfold popTo; rw [if_neg hcr])
            have hd : decide (ori u t c ≤ 0) = false := decide_eq_false (by omega)
            clear hcr hs hmk hk1
            generalize ori u t c = ov at *
            go_upto_region 6 with fail
            refine wp_region_kept (by kernel_rfl) (by kernel_rfl) ?_
            repeat (go_big_quiet_step ((go_at_call 47; with_reducible exact HOR.out _)))
            refine wpQuiet_nil ?_
            rintro w5 ⟨⟨_, K5⟩, rfl⟩
            obtain ⟨s, hseq⟩ : ∃ s, t :: u :: r = s := ⟨_, rfl⟩
            rw [hseq] at HPS HPO HS3 hms
            have HSF := Lib.hid (show BoSt w (.slice (some ⟨g, 0, none⟩) m xc) s w5 from ⟨HS3.out.1.next K5, below_call HS3.out.2 K5⟩)
            have HXF := Lib.hid (HX3.out.next K5)
            clear u1 u2 u3 u4 u5 u6 HOR hseq
            have OW := Lib.hid (HSF.out.1.next (below_box w5 (.cells #[.int .i64 c.1, .int .i64 c.2] 28)))
            have HBn := Lib.hid (below_call HSF.out.2 (below_box w5 (.cells #[.int .i64 c.1, .int .i64 c.2] 28)))
            have HNn := Lib.hid (two_new6 w5 (.int .i64 c.1) (.int .i64 c.2) 28)
            have HOB := Lib.hid (fun k hk => (World.ownsRow.lt HSF.out.1 k hk).1)
            have HPV := Lib.hid (pvals_snoc6 s.reverse c)
            have HLL := Lib.hid hms
            have HWW := Lib.hid (show w.heap.size ≤ (w5.alloc (.cells #[.int .i64 c.1, .int .i64 c.2] 28)).heap.size from HBn.out.size)
            obtain ⟨_, c1, c2⟩ := HXF.out
            go_wp2_with (at_builtin; refine wpList_append_lies _ rfl (.tmp 38) (.tmp 40) 23 rfl w.heap.size 28 i0 (pt 0 0) 2 16 Try.underlying23 hi0 hz0 hz1 hz2 rfl (by decide) _ s.reverse.length (pvals s.reverse) rfl OW.out ⟨w5.heap.size, 0, none⟩ 1 1 [.int .i64 c.1, .int .i64 c.2] rfl rfl HNn.out (by intro u hu; simp at hu; rcases hu with rfl | rfl <;> rfl) (by omega) (by rw [List.length_reverse]; have := HLL.out; unfold maxLen; omega) (by rw [List.length_reverse]; have := HLL.out; omega) HWW.out _ rfl ?_; intro g7 cap7 w7 own7 grow7 at7 ltg7; have HA7 := Lib.hid (And.intro own7 grow7); clear own7 grow7 at7 ltg7)
            have HR := Lib.hid (show BoSt w (.slice (some ⟨g7, 0, none⟩) (s.reverse.length + 1) cap7) (bord [] (ps.take (j + 1))) w7 from ⟨by
              rw [HN.out, ← HPO.out, HPS.out, List.reverse_cons]
              have o := HA7.out.1
              rw [← HPV.out] at o
              unfold OwnPt
              rw [List.length_append]
              exact o, HBn.out.grown HA7.out.2 HBn.out.size HOB.out⟩)
            clear HA7
            rw [List.length_reverse, HLL.out] at HR
            go_roundw
            case rel => exact ⟨j + 1, by omega, by congr 1, HR⟩
            case measure => simp [intOf]; omega
        · have HPS := Lib.hid (show popTo c s = s by
            cases s with
            | nil => rfl
            | cons t s => cases s with
              | nil => rfl
              | cons u r => simp at hms; omega)
          have z7 : ¬ (1 : Int) < (m : Int) := by omega
          have z8 : decide ((m : Int) > 1) = false := decide_eq_false (by omega)
          clear HSF0
          go_upto_region 6 with fail
          refine wp_region_kept (by kernel_rfl) (by kernel_rfl) ?_
          repeat (go_big_quiet_step ((fail)))
          refine wpQuiet_nil ?_
          rintro w5 ⟨⟨_, K5⟩, rfl⟩
          have HSF := Lib.hid (show BoSt w (.slice xa m xc) s w5 from ⟨HS3.out.1.next K5, below_call HS3.out.2 K5⟩)
          have HXF := Lib.hid (HX3.out.next K5)
          have OW := Lib.hid (HSF.out.1.next (below_box w5 (.cells #[.int .i64 c.1, .int .i64 c.2] 28)))
          have HBn := Lib.hid (below_call HSF.out.2 (below_box w5 (.cells #[.int .i64 c.1, .int .i64 c.2] 28)))
          have HNn := Lib.hid (two_new6 w5 (.int .i64 c.1) (.int .i64 c.2) 28)
          have HOB := Lib.hid (fun k hk => (World.ownsRow.lt HSF.out.1 k hk).1)
          have HPV := Lib.hid (pvals_snoc6 s.reverse c)
          have HLL := Lib.hid hms
          have HWW := Lib.hid (show w.heap.size ≤ (w5.alloc (.cells #[.int .i64 c.1, .int .i64 c.2] 28)).heap.size from HBn.out.size)
          obtain ⟨_, c1, c2⟩ := HXF.out
          go_wp2_with (at_builtin; refine wpList_append_lies _ rfl (.tmp 38) (.tmp 40) 23 rfl w.heap.size 28 i0 (pt 0 0) 2 16 Try.underlying23 hi0 hz0 hz1 hz2 rfl (by decide) _ s.reverse.length (pvals s.reverse) rfl OW.out ⟨w5.heap.size, 0, none⟩ 1 1 [.int .i64 c.1, .int .i64 c.2] rfl rfl HNn.out (by intro u hu; simp at hu; rcases hu with rfl | rfl <;> rfl) (by omega) (by rw [List.length_reverse]; have := HLL.out; unfold maxLen; omega) (by rw [List.length_reverse]; have := HLL.out; omega) HWW.out _ rfl ?_; intro g7 cap7 w7 own7 grow7 at7 ltg7; have HA7 := Lib.hid (And.intro own7 grow7); clear own7 grow7 at7 ltg7)
          have HR := Lib.hid (show BoSt w (.slice (some ⟨g7, 0, none⟩) (s.reverse.length + 1) cap7) (bord [] (ps.take (j + 1))) w7 from ⟨by
            rw [HN.out, ← HPO.out, HPS.out, List.reverse_cons]
            have o := HA7.out.1
            rw [← HPV.out] at o
            unfold OwnPt
            rw [List.length_append]
            exact o, HBn.out.grown HA7.out.2 HBn.out.size HOB.out⟩)
          clear HA7
          rw [List.length_reverse, HLL.out] at HR
          go_roundw
          case rel => exact ⟨j + 1, by omega, by congr 1, HR⟩
          case measure => simp [intOf]; omega
    · obtain rfl : j = len := by omega
      have HE := Lib.hid (show ps.take j = ps from List.take_of_length_le (by rw [← HLE.out]; omega))
      obtain ⟨va, vn, vc, rfl⟩ : ∃ va vn vc, u3 = .slice va vn vc := by
        rcases HS.out.1.2 with ⟨hv, hn⟩ | ⟨g, cp, cur, hv, _⟩
        · exact ⟨none, 0, 0, hv⟩
        · exact ⟨_, _, _, hv⟩
      have HF := Lib.hid (show RowP (lowB ps) w (.returned (.slice va vn vc)) wr from ⟨⟨va, vn, vc⟩, rfl, by
        have := (own_len HS.out.1).1; rw [HE.out] at this; exact this, by have := HS.out.1; rw [HE.out] at this; exact this, HS.out.2⟩)
      go_wp2
      go_ret
      exact HF.out
end Go.Proofs.Ytkmopgdnaohcdaa
