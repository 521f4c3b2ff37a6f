/- Drawing a list of polygons from a code. -/
import Derived.Test.YtgpoknehbadddaaOs9
import Derived.Deep.AppendLies
namespace Go.Proofs.Ytgpoknehbadddaa
set_option maxRecDepth 100000
open Go.RowKit
attribute [local go_sem ↓] Go.wp_at_zero Go.wp_at_succ
theorem one_new9 (w : World) (a : Value) (t : Nat) : ∀ (j : Nat) u, [a][j]? = some u → (w.alloc (.cells #[a] t)).cell? ((⟨w.heap.size, 0, none⟩ : Addr).add j) = some u := by
  intro j u hu
  have hj : j = 0 := by
    have := (List.getElem?_eq_some_iff.1 hu).1
    simp at this; omega
  subst hj
  simp at hu; subst hu; simp [Addr.add]
def vLen9 : Value → Nat
  | .slice _ n _ => n
  | _ => 0
theorem OS.sl {w0 u : World} {B M r : Nat} {v : Value} {ss : List Sl} {pss : List (List P2)} (h : OS w0 B M r u v ss pss) : ∃ s : Sl, v = .slice s.a s.len s.cap ∧ s.len = pss.length := by
  obtain ⟨s, rfl, hp, _⟩ := h.got9
  exact ⟨s, rfl, hp.1⟩
def SceQ (w0 : World) (B M r : Nat) (v : Value) (u : World) : Prop := ∃ ss pss, pss.length ≤ 4 ∧ OS w0 B M r u v ss pss
theorem SceQ.any {w0 : World} {B M r : Nat} {v : Value} {u : World} (h : SceQ w0 B M r v u) : ∃ ss pss, pss.length ≤ 4 ∧ OS w0 B M r u v ss pss := h
def LoopF (w0 : World) (B M r k : Nat) (v : Value) (wr : World) : Prop := ∃ ss pss, pss.length = k ∧ OS w0 B (M + 200 * pss.length) r wr v ss pss
set_option maxHeartbeats 4000000 in
theorem l20Scene (B M r : Nat) (n : Int) (w : World) (hr : Rd B M w r) (hM : M ≤ 500000) (h0 : 0 < n) (h1 : n ≤ 500000) :
    Calls Try.prog 48 #[.pointer (some ⟨r, 0, none⟩), .int .i64 n] w (DrawnO B (M + 3000) r 9 w) := by
  obtain ⟨i0, hi0, hz0, hz1, hz2⟩ := info_parts infoSl9
  have hrlt := hr.lt
  have hrge := hr.ge
  have HBw := Lib.hid (show B ≤ w.heap.size by omega)
  have S0 := OS.new hr (World.grownBy.refl w (some r)) (Nat.le_refl _) 31 rfl
  go_enter Try.func48, Try.ntmps48
  go_wp2_with fail
  refine (pick B M r 4 _ S0.rd (by omega)).mono ?_
  rintro e w1 ⟨x1, a1, b1, rfl, hr1, hg1, hs1⟩
  have c1 := b1 (by omega)
  have S1 := Lib.hid (S0.pick hr1 hg1 hrlt)
  clear b1 hr1 hg1 hs1 S0 hr
  obtain ⟨q, rfl⟩ : ∃ q : Nat, x1 = (q : Int) := ⟨x1.toNat, by omega⟩
  have hq : q ≤ 3 := by omega
  have HL : Hid (LoopO w B (M + 1) r q q (.slice (some ⟨w.heap.size, 0, none⟩) 0 0) w1) := Lib.hid ⟨[], [], by simp, S1.out⟩
  clear S1
  go_wp2
  go_loopw [5, 6] (fun v i wr => ∃ k : Nat, k ≤ q ∧ i = .int .i64 (k : Int) ∧ Hid (LoopO w B (M + 1) r q k v wr)) (fun _ i _ => (intOf i).toNat)
  case atStart => exact ⟨q, Nat.le_refl _, rfl, HL⟩
  case round =>
    obtain ⟨k, hk, rfl, HS⟩ := hrel
    clear HL
    obtain ⟨ss, pss, hps, S⟩ := HS.out
    have hlen : pss.length ≤ 3 := by omega
    by_cases hlt : 0 < k
    · have j1 : (0 : Int) < (k : Int) := by omega
      go_wp2_with fail
      refine (l20Polygon B _ r 0 _ S.rd (by omega) (.inl rfl)).mono ?_
      rintro e w2 ⟨s, ps, rfl, hl, hn, hs, L⟩
      obtain ⟨S2', Q2⟩ := S.poly hrlt L hn
      have S2 := Lib.hid S2'
      have HQ := Lib.hid Q2
      clear S S2' Q2 L hs HS hl hn
      have S3 := Lib.hid (S2.out.alloc (.cells #[slQ s] 31))
      have Q3 := Lib.hid (HQ.out.next (below_box _ (.cells #[slQ s] 31)))
      have HN := Lib.hid (one_new9 w2 (slQ s) 31)
      have HW := Lib.hid S3.out.gr.size
      clear HQ
      unfold slQ at S3 Q3 HN
      go_wp2_with (at_builtin; refine wpList_append_lies _ rfl (.tmp 14) (.tmp 17) 37 rfl w.heap.size 31 i0 (.slice none 0 0) 1 24 Try.underlying37 hi0 hz0 hz1 hz2 rfl (by decide) _ pss.length (ss.map slQ) rfl S3.out.row ⟨w2.heap.size, 0, none⟩ 1 1 [.slice s.a s.len s.cap] rfl rfl HN.out (by intro u hu; simp at hu; subst hu; rfl) (by omega) (by unfold maxLen; omega) (by omega) HW.out _ rfl ?_; intro g cap6 w7 own7 grow7 at7 ltg7; have HA7 := Lib.hid (And.intro own7 (And.intro grow7 at7)); clear own7 grow7 at7 ltg7)
      have HR := Lib.hid (S3.out.app hrlt HBw.out Q3.out HA7.out.1 HA7.out.2.1 HA7.out.2.2)
      clear HA7 S3 Q3
      go_roundw
      case rel => exact ⟨k - 1, by omega, by congr 1; omega, Lib.hid ⟨_, _, by simp; omega, HR.out.mono (by simp; omega)⟩⟩
      case measure => simp [intOf]; omega
    · obtain rfl : k = 0 := by omega
      have S1 := Lib.hid (S.mono (show M + 1 + 200 * pss.length ≤ M + 700 by omega))
      clear HS S
      go_wp2_with fail
      refine (oddA B _ r n _ S1.out.rd (by omega) h0 (by omega)).mono ?_
      rintro e w2 ⟨b, rfl, hr2, hg2, hs2⟩
      have S2 := Lib.hid (S1.out.pick hr2 hg2 hrlt)
      clear hr2 hg2 hs2 S1
      go_upto_if 21 with fail
      go_cut [5] (fun v u => SceQ w B (M + 1000) r v u)
      case first =>
        cases b
        · have HF := Lib.hid (show SceQ w B (M + 1000) r _ w2 from ⟨ss, pss, by omega, S2.out.mono (by omega)⟩)
          clear S2
          go_wp2
          go_meet
          exact HF.out
        · go_wp2_with fail
          refine (l20Polygon B _ r 2 _ S2.out.rd (by omega) (.inr ⟨by omega, by omega⟩)).mono ?_
          rintro e w3 ⟨s, ps, rfl, hl, hn, hs, L⟩
          obtain ⟨S3', Q3'⟩ := S2.out.poly hrlt L hn
          have S4 := Lib.hid S3'
          have HQ := Lib.hid Q3'
          clear S2 S3' Q3' L hs hl hn
          have S3 := Lib.hid (S4.out.alloc (.cells #[slQ s] 31))
          have Q3 := Lib.hid (HQ.out.next (below_box _ (.cells #[slQ s] 31)))
          have HN := Lib.hid (one_new9 w3 (slQ s) 31)
          have HW := Lib.hid S3.out.gr.size
          clear HQ
          unfold slQ at S3 Q3 HN
          go_wp2_with (at_builtin; refine wpList_append_lies _ rfl (.tmp 22) (.tmp 25) 37 rfl w.heap.size 31 i0 (.slice none 0 0) 1 24 Try.underlying37 hi0 hz0 hz1 hz2 rfl (by decide) _ pss.length (ss.map slQ) rfl S3.out.row ⟨w3.heap.size, 0, none⟩ 1 1 [.slice s.a s.len s.cap] rfl rfl HN.out (by intro u hu; simp at hu; subst hu; rfl) (by omega) (by unfold maxLen; omega) (by omega) HW.out _ rfl ?_; intro g cap6 w7 own7 grow7 at7 ltg7; have HA7 := Lib.hid (And.intro own7 (And.intro grow7 at7)); clear own7 grow7 at7 ltg7)
          have HR := Lib.hid (S3.out.app hrlt HBw.out Q3.out HA7.out.1 HA7.out.2.1 HA7.out.2.2)
          clear HA7 S3 Q3
          have HF := Lib.hid (show SceQ w B (M + 1000) r _ w7 from ⟨_, _, by simp; omega, HR.out.mono (by omega)⟩)
          clear HR
          go_wp2
          go_meet
          exact HF.out
      case rest =>
        clear S2
        replace hcut := Lib.hid hcut
        obtain ⟨ss, pss, hn4, S4'⟩ := hcut.out.any
        clear hcut
        have S4 := Lib.hid S4'
        have ow : IntKind.i64.wrap (2 * n) = 2 * n := wrap_in (by omega) (by omega)
        clear S4' hlen
        go_wp2_with fail
        refine (oddA B _ r (2 * n) _ S4.out.rd (by omega) (by omega) (by omega)).mono ?_
        rintro e w5 ⟨b2, rfl, hr5, hg5, hs5⟩
        have S5 := Lib.hid (S4.out.pick hr5 hg5 hrlt)
        clear hr5 hg5 hs5 S4
        cases b2
        · go_wp2
          go_ret
          exact S5.out.drawn (by omega) (by omega)
        · have HL5 : Hid (LoopF w B (M + 1001) r pss.length _ w5) := Lib.hid ⟨ss, pss, rfl, S5.out.mono (by omega)⟩
          clear S5
          go_wp2
          generalize pss.length = n0 at *
          go_loopw [5] (fun v wr => ∃ k : Nat, k ≤ 9 ∧ Hid (LoopF w B (M + 1001) r k v wr)) (fun v _ => 9 - vLen9 v)
          case atStart => exact ⟨_, by omega, HL5⟩
          case round =>
            obtain ⟨k, hk9, HF⟩ := hrel
            clear HL5
            obtain ⟨ss, pss, hps, S⟩ := HF.out
            obtain ⟨⟨za, zl, zc⟩, rfl, hz⟩ := S.sl
            simp only at hz
            replace hz := Lib.hid hz
            replace hps := Lib.hid hps
            by_cases hlt9 : k ≤ 8
            · have j1 : (zl : Int) ≤ 8 := by have := hz.out; have := hps.out; omega
              go_wp2_with fail
              refine (l20Polygon B _ r 0 _ S.rd (by have := hps.out; omega) (.inl rfl)).mono ?_
              rintro e w6 ⟨s, ps, rfl, hl, hn, hs, L⟩
              obtain ⟨S6', Q6⟩ := S.poly hrlt L hn
              have S6 := Lib.hid S6'
              have HQ := Lib.hid Q6
              have hlp : pss.length ≤ 8 := by have := hps.out; omega
              clear S S6' Q6 L hs HF hl hn
              have S3 := Lib.hid (S6.out.alloc (.cells #[slQ s] 31))
              have Q3 := Lib.hid (HQ.out.next (below_box _ (.cells #[slQ s] 31)))
              have HN := Lib.hid (one_new9 w6 (slQ s) 31)
              have HW := Lib.hid S3.out.gr.size
              clear HQ
              unfold slQ at S3 Q3 HN
              go_wp2_with (at_builtin; refine wpList_append_lies _ rfl (.tmp 34) (.tmp 37) 37 rfl w.heap.size 31 i0 (.slice none 0 0) 1 24 Try.underlying37 hi0 hz0 hz1 hz2 rfl (by decide) _ pss.length (ss.map slQ) rfl S3.out.row ⟨w6.heap.size, 0, none⟩ 1 1 [.slice s.a s.len s.cap] rfl rfl HN.out (by intro u hu; simp at hu; subst hu; rfl) (by omega) (by unfold maxLen; omega) (by omega) HW.out _ rfl ?_; intro g cap6 w7 own7 grow7 at7 ltg7; have HA7 := Lib.hid (And.intro own7 (And.intro grow7 at7)); clear own7 grow7 at7 ltg7)
              have HR := Lib.hid (S3.out.app hrlt HBw.out Q3.out HA7.out.1 HA7.out.2.1 HA7.out.2.2)
              clear HA7 S3 Q3
              go_roundw
              case rel => exact ⟨k + 1, by omega, Lib.hid ⟨_, _, by have := hps.out; simp; omega, HR.out.mono (by simp; omega)⟩⟩
              case measure => have := hps.out; have := hz.out; simp [vLen9]; omega
            · have j1 : ¬ (zl : Int) ≤ 8 := by have := hz.out; have := hps.out; omega
              have HF9 := Lib.hid (S.drawn (M' := M + 3000) (N := 9) (by have := hps.out; omega) (by have := hps.out; omega))
              clear S HF
              go_wp2
              go_ret
              exact HF9.out
end Go.Proofs.Ytgpoknehbadddaa
