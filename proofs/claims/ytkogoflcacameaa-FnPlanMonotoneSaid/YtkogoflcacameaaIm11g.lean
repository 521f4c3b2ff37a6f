/- The program's search: path. -/
import Derived.Test.YtkogoflcacameaaIm11f
import Derived.Test.YtkogoflcacameaaRv11
namespace Go.Proofs.Ytkogoflcacameaa
set_option maxRecDepth 100000
open Go.RowKit
attribute [local go_sem ↓] Go.wp_at_zero Go.wp_at_succ
/-- The walk back, at a round's head. -/
structure Back (B : Nat) (w0 : World) (s : Qu) (a : C2) (i j : Nat) (L : List C2) (g n c bb : Nat) (u : World) : Prop where
  jl : j < s.length
  way : Way s i j L
  len : n = L.length
  lj : L.length + j ≤ i + 1
  own : Cel.OwnPt u B (.slice (some ⟨g, 0, none⟩) n c) L
  box : Blk u bb #[.int .i64 (qc s j).1, .int .i64 (qc s j).2] 33
  ga : g ≠ bb
  bB : B + 2 ≤ bb
  gB : B + 2 ≤ g
  fr : AtP u B a.1 a.2
  bel : Below B w0 u
/-- What the append of a cell leaves. -/
structure Apnd (w : World) (B : Nat) (qv : Value) (L : List C2) (c : C2) (w7 : World) (g n7 cap6 : Nat) : Prop where
  own : w7.ownsRow B 33 2 (.slice (some ⟨g, 0, none⟩) n7 cap6) n7 (Cel.pvals L ++ [.int .i64 c.1, .int .i64 c.2])
  grow : (w.alloc (.cells #[.int .i64 c.1, .int .i64 c.2] 33)).grownBy w7 qv.ownBlock
  at7 : qv.ownBlock = some g ∨ g = (w.alloc (.cells #[.int .i64 c.1, .int .i64 c.2] 33)).heap.size
  lt : g < w7.heap.size
theorem neT11 {a b : C2} (h : a = b) (u : World) : (if a.1 = b.1 then if a.2 = b.2 then Result.ok (Next.value (Value.bool false)) u else Result.ok (Next.value (Value.bool true)) u else Result.ok (Next.value (Value.bool true)) u) = Result.ok (Next.value (Value.bool false)) u := by
  rw [if_pos (by rw [h]), if_pos (by rw [h])]
theorem neF11 {a b : C2} (h : a ≠ b) (u : World) : (if a.1 = b.1 then if a.2 = b.2 then Result.ok (Next.value (Value.bool false)) u else Result.ok (Next.value (Value.bool true)) u else Result.ok (Next.value (Value.bool true)) u) = Result.ok (Next.value (Value.bool true)) u := by
  by_cases h1 : a.1 = b.1
  · rw [if_pos h1, if_neg (fun h2 => h (Prod.ext h1 h2))]
  · rw [if_neg h1]
set_option maxHeartbeats 8000000 in
theorem pathC (B v k g m fi i : Nat) (tv : Value) (T : List (List Bool)) (a b : C2) (s : Qu) (cs rs : Array Value) (V : Nat → Nat) (w : World) (h : Sea B w v tv s k g cs rs m fi V) (hA : At11 T a b s k) (hi : i < s.length) (hb : qc s i = b) :
    Calls Try.prog 46 #[.pointer (some ⟨v, 0, none⟩), pt a.1 a.2, pt b.1 b.2] w (Cel.PtRow (planV T a b) w) := by
  obtain ⟨i0, hi0, hz0, hz1, hz2⟩ := info_parts Cel.infoPt6
  have HPL := Lib.hid (hA.found hi hb)
  have HA := Lib.hid hA
  have HS := Lib.hid h
  have hil : i < 400 := Nat.lt_of_lt_of_le hi hA.len
  have HI := Lib.hid (And.intro hi hb)
  have HVL := Lib.hid h.rq.blk.lt
  have B0' := below_box2 w (.cells #[.int .i64 a.1, .int .i64 a.2] 33) (.cells #[.int .i64 b.1, .int .i64 b.2] 33)
  have HB := Lib.hid B0'
  have HP := Lib.hid ((AtP.box w a.1 a.2 33).alloc (.cells #[.int .i64 b.1, .int .i64 b.2] 33))
  have HQ0 := AtP.box (w.alloc (.cells #[.int .i64 a.1, .int .i64 a.2] 33)) b.1 b.2 33
  rw [show (w.alloc (.cells #[.int .i64 a.1, .int .i64 a.2] 33)).heap.size = w.heap.size + 1 by simp] at HQ0
  have HQ := Lib.hid HQ0
  have hsz : ((w.alloc (.cells #[.int .i64 a.1, .int .i64 a.2] 33)).alloc (.cells #[.int .i64 b.1, .int .i64 b.2] 33)).heap.size = w.heap.size + 2 := by simp
  have HSZ := Lib.hid hsz
  clear B0' HQ0 h hA hb hi hsz
  go_enter Try.func46, Try.ntmps46
  go_upto_region 1 with fail
  generalize (w.alloc (.cells #[.int .i64 a.1, .int .i64 a.2] 33)).alloc (.cells #[.int .i64 b.1, .int .i64 b.2] 33) = w1 at *
  have d0 := HQ.out.c0
  have d1 := HQ.out.c1
  have HO1 := Lib.hid (Cel.one w1 w.heap.size (by have := HSZ.out; omega) b 33 rfl)
  have B1 := below_box w1 (.cells #[.int .i64 b.1, .int .i64 b.2] 33)
  have HB2 := Lib.hid (below_call HB.out B1)
  have HP2 := Lib.hid (HP.out.next B1)
  have HQ2 := Lib.hid (HQ.out.next B1)
  have hsz2 : (w1.alloc (.cells #[.int .i64 b.1, .int .i64 b.2] 33)).heap.size = w.heap.size + 3 := by have := HSZ.out; simp; omega
  have HSZ2 := Lib.hid hsz2
  clear B1 hsz2 HB HP HQ
  go_upto_region 2 with fail
  generalize w1.alloc (.cells #[.int .i64 b.1, .int .i64 b.2] 33) = w2 at *
  clear d0 d1
  have d0 := HQ2.out.c0
  have d1 := HQ2.out.c1
  have B2 := below_box w2 (.cells #[.int .i64 b.1, .int .i64 b.2] 33)
  have HB3 := Lib.hid (below_call HB2.out B2)
  have HP3 := Lib.hid (HP2.out.next B2)
  have HO3 := Lib.hid (HO1.out.next B2)
  have HX3 := Lib.hid (Blk.new w2 #[.int .i64 b.1, .int .i64 b.2] 33)
  clear B2 HB2 HP2 HO1 HQ2
  go_wp2
  generalize w2.alloc (.cells #[.int .i64 b.1, .int .i64 b.2] 33) = w3 at *
  clear d0 d1
  have HK := Lib.hid (show Back w.heap.size w s a i i [b] w1.heap.size 1 1 w2.heap.size w3 from
    ⟨HI.out.1, by rw [← HI.out.2]; exact Way.start s i, rfl, by simp; omega, HO3.out, by rw [HI.out.2]; exact HX3.out, by have := HSZ.out; have := HSZ2.out; omega, by have := HSZ2.out; omega, by have := HSZ.out; omega, HP3.out, HB3.out⟩)
  clear HO3 HX3 HB3 HP3
  go_loopg [7, 8] i (fun gk lv bv wr => ∃ (j : Nat) (L : List C2) (lg n c bb : Nat), gk = j ∧ lv = .slice (some ⟨lg, 0, none⟩) n c ∧ bv = .pointer (some ⟨bb, 0, none⟩) ∧ Hid (Back w.heap.size w s a i j L lg n c bb wr))
  case atStart => exact ⟨_, _, _, _, _, _, rfl, rfl, rfl, HK⟩
  case round =>
    obtain ⟨j, L, lg, n, c, bb, rfl, rfl, rfl, HK2⟩ := hrel
    clear HK
    have hn4 : n ≤ 400 := by have := HK2.out.len; have := HK2.out.lj; omega
    have hn1 : 1 ≤ n := by have := HK2.out.way.len; have := HK2.out.len; omega
    have d0 := HK2.out.fr.c0
    have d1 := HK2.out.fr.c1
    have d2 := HK2.out.box.cell 0 rfl
    have d3 := HK2.out.box.cell 1 rfl
    by_cases he : qc s gk = a
    · have HX := Lib.hid he
      have hne := neT11 he wr
      clear he
      go_wp2_with fail
      refine (reverseC lg n c w.heap.size L wr HK2.out.own HK2.out.len hn1 (by omega)).mono ?_
      rintro e w5 ⟨rfl, O5, G5⟩
      have HE := Lib.hid (show Cel.PtRow (planV T a b) w (.returned (.slice (some ⟨lg, 0, none⟩) n c)) w5 from by
        have e : planV T a b = L.reverse := HPL.out.trans (HA.out.back0 HK2.out.way HK2.out.jl HX.out)
        rw [e]
        exact ⟨⟨some ⟨lg, 0, none⟩, n, c⟩, rfl, by rw [List.length_reverse]; exact HK2.out.len, O5, HK2.out.bel.grown G5 HK2.out.bel.size (fun q hq => by have := HK2.out.gB; injection hq with hq; omega)⟩)
      clear O5 G5 hne d0 d1 d2 d3
      go_wp2
      go_ret
      exact HE.out
    · have hne := neF11 he wr
      have HX := Lib.hid he
      clear he
      go_upto_region 4 with fail
      clear hne d0 d1 d2 d3
      obtain ⟨X, Y, hX, hY, hc⟩ := toNats (HS.out.small gk HK2.out.jl)
      obtain ⟨p, hp, hbf, hway⟩ := HA.out.back HK2.out.way HK2.out.jl HX.out
      have HBX := HK2.out.box
      rw [hc] at HBX
      have hbe := HS.out.bef gk HK2.out.jl
      rw [hc, show cno ((X : Int), (Y : Int)) = X * 20 + Y by simp [cno], show 11 + (X * 20 + Y) * 2 = 11 + X * 40 + Y * 2 by omega, hbf] at hbe
      obtain ⟨d, hd⟩ : ∃ d, qc s p = d := ⟨_, rfl⟩
      rw [hd] at hbe hway
      have HBV := HS.out.rq.blk.next HK2.out.bel
      have HW := Lib.hid (And.intro hp (And.intro hway hd))
      have HBB := Lib.hid HBX
      clear hc hbf hp hway hd
      have x0 : (0 : Int) ≤ (X : Int) := by omega
      have x1 : (X : Int) < 20 := by omega
      have x2 : (0 : Int) ≤ (Y : Int) := by omega
      have x3 : (Y : Int) < 20 := by omega
      have u0 := HBX.kept 0 rfl
      have u1 := HBX.kept 1 rfl
      have u2 := HBV.kept _ hbe.1
      have u3 := HBV.kept _ hbe.2
      clear HBX HBV hbe
      refine wp_region_ktail 10 (by kernel_rfl) (by kernel_rfl) ?_
      simp only [List.take_succ_cons, List.take_zero, List.drop_succ_cons, List.drop_zero]
      repeat (go_big_quiet_step (fail))
      refine wpQuiet_nil ?_
      rintro w4 ⟨⟨_, K4⟩, rfl⟩
      have HBB4 := Lib.hid (HBB.out.next K4)
      have HO4 := Lib.hid (HK2.out.own.next K4)
      have HF4 := Lib.hid (HK2.out.fr.next K4)
      have HB4 := Lib.hid (below_call HK2.out.bel K4)
      clear K4 u0 u1 u2 u3 HBB
      have d0 := HBB4.out.cell 0 rfl
      have d1 := HBB4.out.frozen 0
      have d2 := HBB4.out.cell 1 rfl
      have d3 := HBB4.out.frozen 1
      have F5 : Frm bb bb w4 ((w4.setCell ⟨bb, 0, none⟩ (.int .i64 d.1)).setCell ⟨bb, 1, none⟩ (.int .i64 d.2)) := ((Frm.of_below (Below.refl _ _) : Frm bb bb w4 w4).set bb (.inl rfl) 0 _).set bb (.inl rfl) 1 _
      have HBB5 := Lib.hid (show Blk ((w4.setCell ⟨bb, 0, none⟩ (.int .i64 d.1)).setCell ⟨bb, 1, none⟩ (.int .i64 d.2)) bb #[.int .i64 d.1, .int .i64 d.2] 33 from (HBB4.out.set 0 (.int .i64 d.1)).set 1 (.int .i64 d.2))
      have HO5 := Lib.hid (HO4.out.same (fun q hq => F5.block q (World.ownsRow.lt HO4.out q hq).2 (by have := HK2.out.ga; simp [Value.ownBlock] at hq; omega) (by have := HK2.out.ga; simp [Value.ownBlock] at hq; omega)))
      have HF5 := Lib.hid (HF4.out.frm F5 (by have := HK2.out.bB; omega) (by have := HK2.out.bB; omega))
      have HB5 := Lib.hid (F5.below HB4.out HB4.out.size (by have := HK2.out.bB; omega) (by have := HK2.out.bB; omega))
      clear F5
      go_upto_region 5 with fail
      generalize (w4.setCell ⟨bb, 0, none⟩ (.int .i64 d.1)).setCell ⟨bb, 1, none⟩ (.int .i64 d.2) = w5 at *
      clear d0 d1 d2 d3 HBB4 HO4 HF4 HB4
      have d0 := HBB5.out.cell 0 rfl
      have d1 := HBB5.out.cell 1 rfl
      have Bx := below_box w5 (.cells #[.int .i64 d.1, .int .i64 d.2] 33)
      have HOx := Lib.hid (show (w5.alloc (.cells #[.int .i64 d.1, .int .i64 d.2] 33)).ownsRow w.heap.size 33 2 (.slice (some ⟨lg, 0, none⟩) n c) n (Cel.pvals L) from by
        have o := HO5.out.next Bx
        unfold Cel.OwnPt at o
        rw [← HK2.out.len] at o
        exact o)
      have HBx := Lib.hid (below_call HB5.out Bx)
      have HFx := Lib.hid (HF5.out.next Bx)
      have HBBx := Lib.hid (HBB5.out.next Bx)
      have HNW := Lib.hid (Cel.two_new w5 (.int .i64 d.1) (.int .i64 d.2) 33)
      have HH := Lib.hid (show w.heap.size ≤ (w5.alloc (.cells #[.int .i64 d.1, .int .i64 d.2] 33)).heap.size from HBx.out.size)
      have HLT := Lib.hid (And.intro HBB5.out.lt (show w.heap.size + 2 ≤ w5.heap.size from by have := HBB5.out.lt; have := HK2.out.bB; omega))
      clear Bx HO5 HF5 HB5 HBB5
      go_upto_region 6 with (at_builtin; refine wpList_append_lies _ rfl (.tmp 25) (.tmp 27) 42 rfl w.heap.size 33 i0 (pt 0 0) 2 16 Try.underlying42 hi0 hz0 hz1 hz2 rfl (by decide) _ n (Cel.pvals L) rfl HOx.out ⟨w5.heap.size, 0, none⟩ 1 1 [.int .i64 d.1, .int .i64 d.2] rfl rfl HNW.out (by intro u hu; simp at hu; rcases hu with rfl | rfl <;> rfl) (by omega) (by unfold maxLen; omega) (by omega) HH.out _ rfl ?_; intro g7 cap6 w7 own7 grow7 at7 ltg7; have HA7 : Hid (Apnd w5 w.heap.size (.slice (some ⟨lg, 0, none⟩) n c) L d w7 g7 (n + 1) cap6) := Lib.hid ⟨own7, grow7, at7, ltg7⟩; clear own7 grow7 at7 ltg7)
      have hsz5 : bb < w5.heap.size ∧ (w5.alloc (.cells #[.int .i64 d.1, .int .i64 d.2] 33)).heap.size = w5.heap.size + 1 ∧ w.heap.size + 2 ≤ w5.heap.size := ⟨HLT.out.1, by simp, HLT.out.2⟩
      have F7 : Frm lg lg (w5.alloc (.cells #[.int .i64 d.1, .int .i64 d.2] 33)) w7 := Frm.of_g HA7.out.grow
      have HG7 := Lib.hid (show g7 ≠ bb ∧ w.heap.size + 2 ≤ g7 from by
        have g1 := HK2.out.ga; have g2 := HK2.out.gB
        rcases HA7.out.at7 with q | q
        · have q2 : lg = g7 := Option.some.inj q; omega
        · omega)
      have HB7 := Lib.hid (F7.below HBx.out HBx.out.size (by have := HK2.out.gB; omega) (by have := HK2.out.gB; omega))
      have HF7 := Lib.hid (HFx.out.frm F7 (by have := HK2.out.gB; omega) (by have := HK2.out.gB; omega))
      have HBB7 := Lib.hid (HBBx.out.frm F7 (fun e => HK2.out.ga e.symm) (fun e => HK2.out.ga e.symm))
      have HO7 := Lib.hid (show Cel.OwnPt w7 w.heap.size (.slice (some ⟨g7, 0, none⟩) (n + 1) cap6) (L ++ [d]) from by
        have o := HA7.out.own
        unfold Cel.OwnPt
        rw [Cel.pvals_snoc, List.length_append, List.length_singleton, ← HK2.out.len]
        exact o)
      have HL7 := Lib.hid HA7.out.lt
      clear F7 HA7 HBx HFx HBBx HOx HNW HH d0 d1 hsz5 HLT
      have d0 := HBB7.out.cell 0 rfl
      have d1 := HBB7.out.cell 1 rfl
      have By := below_box w7 (.cells #[.int .i64 d.1, .int .i64 d.2] 33)
      have HBK := Lib.hid (show Back w.heap.size w s a i p (L ++ [d]) g7 (n + 1) cap6 w7.heap.size (w7.alloc (.cells #[.int .i64 d.1, .int .i64 d.2] 33)) from
        ⟨by have := HW.out.1; have := HK2.out.jl; omega, HW.out.2.1, by rw [List.length_append, List.length_singleton, ← HK2.out.len], by rw [List.length_append, List.length_singleton]; have := HW.out.1; have := HK2.out.lj; omega, HO7.out.next By, by rw [HW.out.2.2]; exact Blk.new w7 _ _, by have := HL7.out; omega, by have := HG7.out.2; have := HL7.out; omega, HG7.out.2, HF7.out.next By, below_call HB7.out By⟩)
      have HPG := Lib.hid HW.out.1
      clear By HB7 HF7 HO7 HL7 HG7
      go_wp2
      go_roundg p
      case rel => exact ⟨_, _, _, _, _, _, rfl, rfl, rfl, HBK⟩
      case measure => exact HPG.out
end Go.Proofs.Ytkogoflcacameaa
