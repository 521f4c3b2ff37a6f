/- Several of my texts in one: Im11a, Im11b, Im11c, Im11d, Im11e. -/
import Derived.Test.YtkogoflcacameaaGreatDoorZc11p
import Derived.StillTailTactics
import Derived.Laws.CopyRow
import Derived.Test.YtkogoflcacameaaGreatDoorZbFx
import Derived.Laws.CopyOwn
import Derived.Deep.DeepCutAuto
namespace Go.Proofs.YtkogoflcacameaaGreatDoor
set_option maxRecDepth 100000
open Go.RowKit
attribute [local go_sem ↓] Go.wp_at_zero Go.wp_at_succ
theorem two64 {n : Nat} (h : n < 64) : 2 ^ n < 18446744073709551616 := by
  have := Nat.pow_lt_pow_right (a := 2) (by omega) h
  omega
set_option maxHeartbeats 2000000 in
theorem placeC (p : Option Addr) (X Y n bt : Nat) (hX : X < 20) (hY : Y < 20) (hn : X * 20 + Y = n) (hbt : 2 ^ (n % 64) = bt) (w : World) :
    Calls Tryz.prog 66 #[.pointer p, pt (X : Int) (Y : Int)] w fun e w' => e = .returned (.tuple #[.int .i64 ((n / 64 : Nat) : Int), .int .u64 (bt : Int)]) ∧ Below w.heap.size w w' := by
  have HB := Lib.hid (below_box w (.cells #[.int .i64 (X : Int), .int .i64 (Y : Int)] 37))
  have hn4 : n < 400 := by omega
  have o1 : IntKind.i64.wrap ((X : Int) * 20) = (X : Int) * 20 := wrap_in (by omega) (by omega)
  have o2 : IntKind.i64.wrap ((X : Int) * 20 + (Y : Int)) = (n : Int) := by rw [show (X : Int) * 20 + (Y : Int) = (n : Int) by omega]; exact wrap_in (by omega) (by omega)
  have o2' : (X : Int) * 20 + (Y : Int) = (n : Int) := by omega
  have o5 : IntKind.u64.wrap ((2 : Int) ^ (n % 64)) = (bt : Int) := by
    have h1 := two64 (n := n % 64) (by omega)
    have e : ((2 : Int) ^ (n % 64)) = ((2 ^ (n % 64) : Nat) : Int) := by simp
    rw [e, hbt, IntKind.wrap_u64]
    rw [hbt] at h1
    omega
  have HN := Lib.hid hn
  clear hn hbt
  go_enter Tryz.func66, Tryz.ntmps66
  go_upto_region 2 with fail
  refine wp_region_kept (by kernel_rfl) (by kernel_rfl) ?_
  repeat (go_big_quiet_step (fail))
  refine wpQuiet_nil ?_
  rintro w5 ⟨⟨_, K2⟩, rfl⟩
  have HB5 := Lib.hid (below_call HB.out K2)
  clear K2
  go_wp2
  exact bodyPost_ret (v := .tuple #[.int .i64 (((n / 64 : Nat) : Int)), .int .u64 (bt : Int)]) (by simp [results, Tryz.results66, go_sem, o5]) rfl ⟨rfl, HB5.out⟩
/-- The program's search lies in block v. -/
structure SrS (cs : Array Value) (tv : Value) (V : Nat → Nat) (rv : Value) (fi co : Nat) : Prop where
  size : cs.size = 811
  tab : cs[0]? = some tv
  rng : cs[1]? = some rv
  fst : cs[2]? = some (.int .i64 (fi : Int))
  cnt : cs[3]? = some (.int .i64 (co : Int))
  vis : ∀ q, q < 7 → cs[4 + q]? = some (.int .u64 (V q : Int))
theorem SrS.some {cs : Array Value} {tv rv : Value} {V : Nat → Nat} {fi co : Nat} (h : SrS cs tv V rv fi co) {i : Nat} (hi : i < 811) : ∃ x, cs[i]? = Option.some x :=
  ⟨cs[i]'(by rw [h.size]; exact hi), Array.getElem?_eq_getElem _⟩
set_option maxHeartbeats 2000000 in
theorem setHas (v : Nat) (cs : Array Value) (tv rv : Value) (V : Nat → Nat) (fi co X Y : Nat) (hX : X < 20) (hY : Y < 20) (w : World) (hb : Blk w v cs 67) (hs : SrS cs tv V rv fi co) (hV : ∀ q, q < 7 → V q < 18446744073709551616) :
    Calls Tryz.prog 47 #[.pointer (some ⟨v, 4, none⟩), pt (X : Int) (Y : Int)] w fun e w' => e = .returned (.bool ((V ((X * 20 + Y) / 64)).testBit ((X * 20 + Y) % 64))) ∧ Below w.heap.size w w' := by
  have HB := Lib.hid (below_box w (.cells #[.int .i64 (X : Int), .int .i64 (Y : Int)] 37))
  obtain ⟨n, hn⟩ : ∃ n, X * 20 + Y = n := ⟨_, rfl⟩
  obtain ⟨bt, hbt⟩ : ∃ bt, 2 ^ (n % 64) = bt := ⟨_, rfl⟩
  obtain ⟨q, hq⟩ : ∃ q, n / 64 = q := ⟨_, rfl⟩
  have hq7 : q < 7 := by omega
  have HPL := Lib.hid (placeC (some ⟨v, 4, none⟩) X Y n bt hX hY hn hbt (w.alloc (.cells #[.int .i64 (X : Int), .int .i64 (Y : Int)] 37)))
  rw [hn, hq]
  rw [hq] at HPL
  obtain ⟨z, hz⟩ : ∃ z, V q = z := ⟨_, rfl⟩
  have hz64 : z < 18446744073709551616 := by rw [← hz]; exact hV q hq7
  have hbt64 : bt < 18446744073709551616 := by rw [← hbt]; exact two64 (by omega)
  have hcq := hs.vis q hq7
  rw [hz] at hcq ⊢
  have HCQ := Lib.hid (And.intro hb hcq)
  have e1 : bits .and .u64 (z : Int) (bt : Int) = ((z &&& bt : Nat) : Int) := u64_and_nat z bt hz64 hbt64
  have HV := Lib.hid (show (((z &&& bt : Nat) : Int) != 0) = z.testBit (n % 64) by rw [← hbt]; exact and_bit z (n % 64))
  have q0 : (0 : Int) ≤ (q : Int) := by omega
  have q1 : (q : Int) < 7 := by omega
  clear hn hbt hq hz hcq hb hs hV hX hY
  generalize z.testBit (n % 64) = r at *
  generalize z &&& bt = zb at *
  go_enter Tryz.func47, Tryz.ntmps47
  go_wp2_with fail
  refine HPL.out.mono ?_
  rintro e w1 ⟨rfl, B1⟩
  have HB1 := Lib.hid (below_call HB.out B1)
  have hc := (HCQ.out.1.next HB1.out).cell (4 + q) HCQ.out.2
  clear B1 HPL
  go_wp2
  go_ret
  exact ⟨ret_bool HV.out, HB1.out⟩
theorem setV (V : Nat → Nat) (n : Nat) : setB V n (n / 64) = V (n / 64) ||| 2 ^ (n % 64) := if_pos rfl
set_option maxHeartbeats 2000000 in
theorem setAdd (v : Nat) (cs : Array Value) (tv rv : Value) (V : Nat → Nat) (fi co X Y : Nat) (hX : X < 20) (hY : Y < 20) (w : World) (hb : Blk w v cs 67) (hs : SrS cs tv V rv fi co) (hV : ∀ q, q < 7 → V q < 18446744073709551616) :
    Calls Tryz.prog 64 #[.pointer (some ⟨v, 4, none⟩), pt (X : Int) (Y : Int)] w fun e w' => e = .returned (.tuple #[]) ∧ Blk w' v (cs.setIfInBounds (4 + (X * 20 + Y) / 64) (.int .u64 (setB V (X * 20 + Y) ((X * 20 + Y) / 64) : Int))) 67 ∧ w.grownBy w' (some v) := by
  have HB := Lib.hid (below_box w (.cells #[.int .i64 (X : Int), .int .i64 (Y : Int)] 37))
  obtain ⟨n, hn⟩ : ∃ n, X * 20 + Y = n := ⟨_, rfl⟩
  obtain ⟨bt, hbt⟩ : ∃ bt, 2 ^ (n % 64) = bt := ⟨_, rfl⟩
  obtain ⟨q, hq⟩ : ∃ q, n / 64 = q := ⟨_, rfl⟩
  have hq7 : q < 7 := by omega
  have HPL := Lib.hid (placeC (some ⟨v, 4, none⟩) X Y n bt hX hY hn hbt (w.alloc (.cells #[.int .i64 (X : Int), .int .i64 (Y : Int)] 37)))
  rw [hn]
  have hsv := setV V n
  rw [hq] at HPL hsv ⊢
  rw [hbt] at hsv
  rw [hsv]
  obtain ⟨z, hz⟩ : ∃ z, V q = z := ⟨_, rfl⟩
  have hz64 : z < 18446744073709551616 := by rw [← hz]; exact hV q hq7
  have hbt64 : bt < 18446744073709551616 := by rw [← hbt]; exact two64 (by omega)
  have hcq := hs.vis q hq7
  rw [hz] at hcq ⊢
  have HCQ := Lib.hid (And.intro hb hcq)
  have e1 : bits .or .u64 (z : Int) (bt : Int) = ((z ||| bt : Nat) : Int) := u64_or_nat z bt hz64 hbt64
  have q0 : (0 : Int) ≤ (q : Int) := by omega
  have q1 : (q : Int) < 7 := by omega
  clear hn hbt hq hz hcq hb hs hV hX hY hsv
  generalize z ||| bt = zb at *
  go_enter Tryz.func64, Tryz.ntmps64
  go_wp2_with fail
  refine HPL.out.mono ?_
  rintro e w1 ⟨rfl, B1⟩
  have HB1 := Lib.hid (below_call HB.out B1)
  have HBK := Lib.hid (HCQ.out.1.next HB1.out)
  clear B1 HPL
  go_upto_region 2 with fail
  have u0 := HBK.out.kept (4 + q) HCQ.out.2
  refine wp_region_ktail 8 (by kernel_rfl) (by kernel_rfl) ?_
  simp only [List.take_succ_cons, List.take_zero, List.drop_succ_cons, List.drop_zero]
  repeat (go_big_quiet_step (fail))
  refine wpQuiet_nil ?_
  rintro w2 ⟨⟨_, K2⟩, rfl⟩
  have HB2 := Lib.hid (below_call HB1.out K2)
  have HK2 := Lib.hid (HBK.out.next K2)
  have d0 := HK2.out.cell (4 + q) HCQ.out.2
  have d1 := HK2.out.frozen (4 + q)
  clear u0 K2
  go_wp2
  go_end0
  exact ⟨rfl, HK2.out.set (4 + q) _, ⟨HB2.out.os, HB2.out.tape, HB2.out.output, by simpa [World.setCell] using HB2.out.size, fun k hk hne => (Below.heap_setCell _ _ _ k (by simpa using fun q => hne (by rw [q]))).trans (HB2.out.block k hk)⟩⟩
end Go.Proofs.YtkogoflcacameaaGreatDoor
namespace Go.Proofs.YtkogoflcacameaaGreatDoor
set_option maxRecDepth 100000
open Go.RowKit
attribute [local go_sem ↓] Go.wp_at_zero Go.wp_at_succ
/-- Nothing but the blocks v and g has changed. -/
structure Frm (v g : Nat) (w w' : World) : Prop where
  os : w'.os = w.os
  tape : w'.tape = w.tape
  output : w'.output = w.output
  size : w.heap.size ≤ w'.heap.size
  block : ∀ k, k < w.heap.size → k ≠ v → k ≠ g → w'.heap[k]? = w.heap[k]?
section
variable {v g g' B : Nat} {w w0 w1 w2 : World}
theorem Frm.of_below (h : Below w.heap.size w w1) : Frm v g w w1 := ⟨h.os, h.tape, h.output, h.size, fun k hk _ _ => h.block k hk⟩
theorem Frm.of_v (h : w.grownBy w1 (some v)) : Frm v g w w1 := ⟨h.os, h.tape, h.output, h.size, fun k hk h1 _ => h.block k hk (by simpa using h1)⟩
theorem Frm.of_g (h : w.grownBy w1 (some g)) : Frm v g w w1 := ⟨h.os, h.tape, h.output, h.size, fun k hk _ h1 => h.block k hk (by simpa using h1)⟩
theorem Frm.trans (h1 : Frm v g w w1) (h2 : Frm v g' w1 w2) (hg : g' = g ∨ w.heap.size ≤ g') : Frm v g w w2 :=
  ⟨h2.os.trans h1.os, h2.tape.trans h1.tape, h2.output.trans h1.output, Nat.le_trans h1.size h2.size, fun k hk a b => (h2.block k (Nat.lt_of_lt_of_le hk h1.size) a (by rcases hg with q | q; rw [q]; exact b; omega)).trans (h1.block k hk a b)⟩
theorem Frm.below (h : Frm v g w1 w2) (hb : Below B w0 w1) (hB : B ≤ w1.heap.size) (hv : B ≤ v) (hg : B ≤ g) : Below B w0 w2 :=
  hb.trans ⟨h.os, h.tape, h.output, h.size, fun k hk => h.block k (by omega) (by omega) (by omega)⟩
theorem Blk.frm {b : Nat} {cs : Array Value} {t : TypeId} (h : Blk w b cs t) (hf : Frm v g w w1) (h1 : b ≠ v) (h2 : b ≠ g) : Blk w1 b cs t := (hf.block b h.lt h1 h2).trans h
theorem AtP.frm {b : Nat} {x y : Int} (h : AtP w b x y) (hf : Frm v g w w1) (h1 : b ≠ v) (h2 : b ≠ g) : AtP w1 b x y :=
  have e := hf.block b h.lt h1 h2
  ⟨Nat.lt_of_lt_of_le h.lt hf.size, (World.cell?_of_block (a := ⟨b, 0, none⟩) e).trans h.c0, (World.cell?_of_block (a := ⟨b, 1, none⟩) e).trans h.c1⟩
theorem Blk.atp {b : Nat} {x y : Int} {t : TypeId} (h : Blk w b #[.int .i64 x, .int .i64 y] t) : AtP w b x y := ⟨h.lt, h.cell 0 rfl, h.cell 1 rfl⟩
theorem grown_of_below (h : Below w.heap.size w w1) : w.grownBy w1 (some v) := ⟨h.os, h.tape, h.output, h.size, fun k hk _ => h.block k hk⟩
theorem grown_set (h : w.grownBy w1 (some v)) (o : Nat) (x : Value) : w.grownBy (w1.setCell ⟨v, o, none⟩ x) (some v) :=
  ⟨h.os, h.tape, h.output, by simpa [World.setCell] using h.size, fun k hk hne => (Below.heap_setCell _ _ _ k (by simpa using fun q => hne (by rw [q]))).trans (h.block k hk hne)⟩
theorem grown_new (h : w.grownBy w1 (some v)) {b : Nat} (hb : w.heap.size ≤ b) (o : Nat) (x : Value) : w.grownBy (w1.setCell ⟨b, o, none⟩ x) (some v) :=
  ⟨h.os, h.tape, h.output, by simpa [World.setCell] using h.size, fun k hk hne => (Below.heap_setCell _ _ _ k (by show k ≠ b; omega)).trans (h.block k hk hne)⟩
end
/-- The program's queue: the cells L wait in the ring. -/
structure RQ (u : World) (v : Nat) (cs : Array Value) (L : List C2) (g : Nat) (rs : Array Value) (m fi : Nat) : Prop where
  blk : Blk u v cs 67
  size : cs.size = 811
  glt : g < u.heap.size
  rng : cs[1]? = some (if m = 0 then .slice none 0 0 else .slice (some ⟨g, 0, none⟩) m m)
  fst : cs[2]? = some (.int .i64 (fi : Int))
  cnt : cs[3]? = some (.int .i64 (L.length : Int))
  fit : L.length ≤ m
  top : m ≤ 3000
  f0 : m = 0 → fi = 0
  f1 : m ≠ 0 → fi < m
  ring : m ≠ 0 → Blk u g rs 37 ∧ rs.size = m * 2 ∧ g ≠ v
  one : ∀ (i : Nat) x, rs[i]? = some x → x.oneCell' = true
  cont : ∀ j, j < L.length → rs[((fi + j) % m) * 2]? = some (.int .i64 (L.getD j (0, 0)).1) ∧ rs[((fi + j) % m) * 2 + 1]? = some (.int .i64 (L.getD j (0, 0)).2)
theorem RQ.frm {u u' : World} {v g m fi : Nat} {cs rs : Array Value} {L : List C2} (h : RQ u v cs L g rs m fi) (hf : Below u.heap.size u u') : RQ u' v cs L g rs m fi :=
  ⟨h.blk.next hf, h.size, Nat.lt_of_lt_of_le h.glt hf.size, h.rng, h.fst, h.cnt, h.fit, h.top, h.f0, h.f1, fun q => ⟨(h.ring q).1.next hf, (h.ring q).2⟩, h.one, h.cont⟩
set_option maxHeartbeats 4000000 in
theorem queueTake (v : Nat) (cs : Array Value) (c : C2) (L : List C2) (g : Nat) (rs : Array Value) (m fi : Nat) (w : World) (h : RQ w v cs (c :: L) g rs m fi) :
    Calls Tryz.prog 48 #[.pointer (some ⟨v, 1, none⟩)] w fun e w' => e = .returned (pt c.1 c.2) ∧ RQ w' v ((cs.setIfInBounds 2 (.int .i64 (((fi + 1) % m : Nat) : Int))).setIfInBounds 3 (.int .i64 (L.length : Int))) L g rs m ((fi + 1) % m) ∧ w.grownBy w' (some v) := by
  have hm0 : m ≠ 0 := by have := h.fit; simp at this; omega
  obtain ⟨r1, r2, r3⟩ := h.ring hm0
  have hfi := h.f1 hm0
  have hrng := h.rng
  rw [if_neg hm0] at hrng
  have hcnt := h.cnt
  rw [List.length_cons] at hcnt
  obtain ⟨c0, c1⟩ := h.cont 0 (by simp)
  have hz0 : (fi + 0) % m = fi := by rw [Nat.add_zero]; exact Nat.mod_eq_of_lt hfi
  rw [hz0] at c0 c1
  simp only [List.getD_cons_zero] at c0 c1
  obtain ⟨f2, hf2⟩ : ∃ f2, (fi + 1) % m = f2 := ⟨_, rfl⟩
  have hf2m : f2 < m := by rw [← hf2]; exact Nat.mod_lt _ (by omega)
  have e1 : ((fi : Int) + 1) % (m : Int) = (f2 : Int) := by rw [← hf2, Int.natCast_emod]; rfl
  have e2 : ((fi : Int) + 1).tmod (m : Int) = (f2 : Int) := by rw [Int.tmod_eq_emod_of_nonneg (by omega)]; exact e1
  have z0 : ¬ (m : Int) = 0 := by omega
  have z1 : ((m : Int) == 0) = false := by simp; omega
  have hmt := h.top
  have hlm := h.fit
  simp only [List.length_cons] at hlm
  have j0 : (0 : Int) ≤ (fi : Int) := by omega
  have j1 : (fi : Int) < (m : Int) := by omega
  rw [hf2]
  have HQ : Hid (∀ u, Blk u v ((cs.setIfInBounds 2 (.int .i64 (f2 : Int))).setIfInBounds 3 (.int .i64 (L.length : Int))) 67 → Blk u g rs 37 → RQ u v ((cs.setIfInBounds 2 (.int .i64 (f2 : Int))).setIfInBounds 3 (.int .i64 (L.length : Int))) L g rs m f2) := Lib.hid fun u hb hg =>
    ⟨hb, by simp [h.size], hg.lt, by rw [Array.getElem?_setIfInBounds_ne (by omega), Array.getElem?_setIfInBounds_ne (by omega)]; exact h.rng, by rw [Array.getElem?_setIfInBounds_ne (by omega), Array.getElem?_setIfInBounds_self_of_lt (by rw [h.size]; omega)], by rw [Array.getElem?_setIfInBounds_self_of_lt (by simp [h.size])], by omega, hmt, fun q => absurd q hm0, fun _ => hf2m, fun _ => ⟨hg, r2, r3⟩, h.one, fun j hj => by
      have k := h.cont (j + 1) (by simp; omega)
      rw [show (fi + (j + 1)) % m = (f2 + j) % m by rw [← hf2, Nat.mod_add_mod]; congr 1; omega, List.getD_cons_succ] at k
      exact k⟩
  have HR := Lib.hid (Blk.new w #[.int .i64 0, .int .i64 0] 37)
  have B0 := below_box w (.cells #[.int .i64 0, .int .i64 0] 37)
  have HB := Lib.hid (And.intro (h.blk.next B0) (r1.next B0))
  have HG := Lib.hid (grown_of_below (v := v) B0)
  have HVL := Lib.hid (show v ≠ w.heap.size ∧ g ≠ w.heap.size ∧ g ≠ v ∧ v < w.heap.size from ⟨by have := h.blk.lt; omega, by have := r1.lt; omega, r3, h.blk.lt⟩)
  have HCS := Lib.hid (And.intro hrng (And.intro h.fst (And.intro hcnt (And.intro c0 (And.intro c1 h.size)))))
  clear h r1 r2 r3 hrng hcnt c0 c1 B0 hf2
  generalize L.length = n at *
  go_enter Tryz.func48, Tryz.ntmps48
  go_upto_region 1 with fail
  generalize w.alloc (.cells #[.int .i64 0, .int .i64 0] 37) = w0 at *
  have HB0 := Lib.hid HB.out
  refine wp_region_inv (fun listed act u => ∃ (l0 l1 l2 l3 l4 l5 l6 l7 l8 l9 l10 l11 : Bool) (v3 v4 v5 v6 v7 v8 v9 v10 v11 v12 v13 : Value), listed = #[l0, l1, l2, l3, l4, l5, l6, l7, l8, l9, l10, l11] ∧ act = { tmps := #[.pointer (some ⟨v, 1, none⟩), undef, .pointer (some ⟨w.heap.size, 0, none⟩), v3, v4, v5, v6, v7, v8, v9, v10, v11, v12, v13, undef, undef, undef, undef, undef, undef, undef, undef, undef, undef, undef, undef, undef, undef, undef, undef, undef, undef, undef, undef, undef, undef], defers := [] } ∧ (l0 = true → v4 = .pointer (some ⟨v, 1, none⟩)) ∧ (l1 = true → v5 = .pointer (some ⟨v, 1, none⟩)) ∧ (l2 = true → v6 = .pointer (some ⟨v, 1, none⟩)) ∧ (l3 = true → v7 = .slice (some ⟨g, 0, none⟩) m m) ∧ (l4 = true → v8 = .pointer (some ⟨v, 1, none⟩)) ∧ (l5 = true → v9 = .pointer (some ⟨v, 1, none⟩)) ∧ (l6 = true → v10 = .pointer (some ⟨v, 2, none⟩)) ∧ (l7 = true → v11 = .int .i64 (fi : Int)) ∧ (l8 = true → v12 = .pointer (some ⟨g, fi * 2, none⟩)) ∧ (l9 = true → v13 = pt c.1 c.2) ∧ (l10 = true → NewB w0.heap.size u l11 #[.int .i64 0, .int .i64 0] #[.int .i64 c.1, .int .i64 c.2] 37 v3) ∧ (l11 = true → l10 = true) ∧ Below w0.heap.size w0 u) (by kernel_rfl) ?_ ?_ ?_ ?_ ?_
  · intro j o ho
    have hj : j < 12 := by rcases Nat.lt_or_ge j 12 with h | h; exact h; rw [Array.getElem?_eq_none (by simpa using h)] at ho; cases ho
    have hj2 : j = 0 ∨ j = 1 ∨ j = 2 ∨ j = 3 ∨ j = 4 ∨ j = 5 ∨ j = 6 ∨ j = 7 ∨ j = 8 ∨ j = 9 ∨ j = 10 ∨ j = 11 := by omega
    rcases hj2 with rfl | rfl | rfl | rfl | rfl | rfl | rfl | rfl | rfl | rfl | rfl | rfl
    all_goals
      cases ho
      decide
  · rintro listed act u ⟨l0, l1, l2, l3, l4, l5, l6, l7, l8, l9, l10, l11, v3, v4, v5, v6, v7, v8, v9, v10, v11, v12, v13, rfl, _⟩
    rfl
  · exact ⟨false, false, false, false, false, false, false, false, false, false, false, false, undef, undef, undef, undef, undef, undef, undef, undef, undef, undef, undef, rfl, rfl, (by intro h; cases h), (by intro h; cases h), (by intro h; cases h), (by intro h; cases h), (by intro h; cases h), (by intro h; cases h), (by intro h; cases h), (by intro h; cases h), (by intro h; cases h), (by intro h; cases h), (by intro h; cases h), (by intro h; cases h), (Below.refl _ _).drew⟩
  · intro listed act u i o hR ho hl hd
    obtain ⟨l0, l1, l2, l3, l4, l5, l6, l7, l8, l9, l10, l11, v3, v4, v5, v6, v7, v8, v9, v10, v11, v12, v13, rfl, rfl, c0, c1, c2, c3, c4, c5, c6, c7, c8, c9, c10, c11, HB⟩ := hR
    have hi : i < 12 := by rcases Nat.lt_or_ge i 12 with h | h; exact h; rw [Array.getElem?_eq_none (by simpa using h)] at ho; cases ho
    have hi2 : i = 0 ∨ i = 1 ∨ i = 2 ∨ i = 3 ∨ i = 4 ∨ i = 5 ∨ i = 6 ∨ i = 7 ∨ i = 8 ∨ i = 9 ∨ i = 10 ∨ i = 11 := by omega
    rcases hi2 with rfl | rfl | rfl | rfl | rfl | rfl | rfl | rfl | rfl | rfl | rfl | rfl
    all_goals (cases ho)
    · refine wpOp_step rfl (fun K hK => ?_)
      go_simp
      refine hK _ _ ?_
      exact ⟨true, l1, l2, l3, l4, l5, l6, l7, l8, l9, l10, l11, _, _, _, _, _, _, _, _, _, _, _, rfl, rfl, fun _ => rfl, c1, c2, c3, c4, c5, c6, c7, c8, c9, c10, c11, HB⟩
    · obtain rfl := c0 (hd { on := 0, ground := Ground.data } (by simp) rfl)
      refine wpOp_step rfl (fun K hK => ?_)
      go_simp
      refine hK _ _ ?_
      exact ⟨l0, true, l2, l3, l4, l5, l6, l7, l8, l9, l10, l11, _, _, _, _, _, _, _, _, _, _, _, rfl, rfl, c0, fun _ => rfl, c2, c3, c4, c5, c6, c7, c8, c9, c10, c11, HB⟩
    · obtain rfl := c1 (hd { on := 1, ground := Ground.data } (by simp) rfl)
      refine wpOp_step rfl (fun K hK => ?_)
      go_simp
      refine hK _ _ ?_
      exact ⟨l0, l1, true, l3, l4, l5, l6, l7, l8, l9, l10, l11, _, _, _, _, _, _, _, _, _, _, _, rfl, rfl, c0, c1, fun _ => rfl, c3, c4, c5, c6, c7, c8, c9, c10, c11, HB⟩
    · obtain rfl := c2 (hd { on := 2, ground := Ground.data } (by simp) rfl)
      have k0 := (HB0.out.1.next HB).cell 1 HCS.out.1
      refine wpOp_step rfl (fun K hK => ?_)
      go_simp
      refine hK _ _ ?_
      exact ⟨l0, l1, l2, true, l4, l5, l6, l7, l8, l9, l10, l11, _, _, _, _, _, _, _, _, _, _, _, rfl, rfl, c0, c1, c2, fun _ => rfl, c4, c5, c6, c7, c8, c9, c10, c11, HB⟩
    · refine wpOp_step rfl (fun K hK => ?_)
      go_simp
      refine hK _ _ ?_
      exact ⟨l0, l1, l2, l3, true, l5, l6, l7, l8, l9, l10, l11, _, _, _, _, _, _, _, _, _, _, _, rfl, rfl, c0, c1, c2, c3, fun _ => rfl, c5, c6, c7, c8, c9, c10, c11, HB⟩
    · obtain rfl := c4 (hd { on := 4, ground := Ground.data } (by simp) rfl)
      refine wpOp_step rfl (fun K hK => ?_)
      go_simp
      refine hK _ _ ?_
      exact ⟨l0, l1, l2, l3, l4, true, l6, l7, l8, l9, l10, l11, _, _, _, _, _, _, _, _, _, _, _, rfl, rfl, c0, c1, c2, c3, c4, fun _ => rfl, c6, c7, c8, c9, c10, c11, HB⟩
    · obtain rfl := c5 (hd { on := 5, ground := Ground.data } (by simp) rfl)
      refine wpOp_step rfl (fun K hK => ?_)
      go_simp
      refine hK _ _ ?_
      exact ⟨l0, l1, l2, l3, l4, l5, true, l7, l8, l9, l10, l11, _, _, _, _, _, _, _, _, _, _, _, rfl, rfl, c0, c1, c2, c3, c4, c5, fun _ => rfl, c7, c8, c9, c10, c11, HB⟩
    · obtain rfl := c6 (hd { on := 6, ground := Ground.data } (by simp) rfl)
      have k0 := (HB0.out.1.next HB).cell 2 HCS.out.2.1
      refine wpOp_step rfl (fun K hK => ?_)
      go_simp
      refine hK _ _ ?_
      exact ⟨l0, l1, l2, l3, l4, l5, l6, true, l8, l9, l10, l11, _, _, _, _, _, _, _, _, _, _, _, rfl, rfl, c0, c1, c2, c3, c4, c5, c6, fun _ => rfl, c8, c9, c10, c11, HB⟩
    · obtain rfl := c3 (hd { on := 3, ground := Ground.data } (by simp) rfl)
      obtain rfl := c7 (hd { on := 7, ground := Ground.data } (by simp) rfl)
      refine wpOp_step rfl (fun K hK => ?_)
      go_simp
      refine hK _ _ ?_
      exact ⟨l0, l1, l2, l3, l4, l5, l6, l7, true, l9, l10, l11, _, _, _, _, _, _, _, _, _, _, _, rfl, rfl, c0, c1, c2, c3, c4, c5, c6, c7, fun _ => rfl, c9, c10, c11, HB⟩
    · obtain rfl := c8 (hd { on := 8, ground := Ground.data } (by simp) rfl)
      have k0 := (HB0.out.2.next HB).cell (fi * 2) HCS.out.2.2.2.1
      have k1 := (HB0.out.2.next HB).cell (fi * 2 + 1) HCS.out.2.2.2.2.1
      refine wpOp_step rfl (fun K hK => ?_)
      go_simp
      refine hK _ _ ?_
      exact ⟨l0, l1, l2, l3, l4, l5, l6, l7, l8, true, l10, l11, _, _, _, _, _, _, _, _, _, _, _, rfl, rfl, c0, c1, c2, c3, c4, c5, c6, c7, c8, fun _ => rfl, c10, c11, HB⟩
    · have e11 : l11 = false := by cases h : l11 with | false => rfl | true => exact absurd (c11 h) (by rw [show l10 = false from hl]; exact Bool.false_ne_true)
      subst e11
      refine wpOp_step rfl (fun K hK => ?_)
      go_simp
      refine hK _ _ ?_
      exact ⟨l0, l1, l2, l3, l4, l5, l6, l7, l8, l9, true, false, _, _, _, _, _, _, _, _, _, _, _, rfl, rfl, c0, c1, c2, c3, c4, c5, c6, c7, c8, c9, fun _ => NewB.new _ HB.size, fun _ => rfl, below_call HB (below_box _ _)⟩
    · obtain rfl := c9 (hd { on := 9, ground := Ground.data } (by simp) rfl)
      have q := c10 (hd { on := 10, ground := Ground.data } (by simp) rfl)
      rw [show l11 = false from hl] at q
      obtain ⟨b, rfl, hb, HQ⟩ := q
      have q0 := HQ.cell (i := 0) rfl
      have q1 := HQ.cell (i := 1) rfl
      have f0 := HQ.frozen (i := 0)
      have f1 := HQ.frozen (i := 1)
      refine wpOp_step rfl (fun K hK => ?_)
      go_simp
      refine hK _ _ ?_
      exact ⟨l0, l1, l2, l3, l4, l5, l6, l7, l8, l9, l10, true, _, _, _, _, _, _, _, _, _, _, _, rfl, rfl, c0, c1, c2, c3, c4, c5, c6, c7, c8, c9, fun _ => NewB.put2' hb HQ _ _ rfl, fun _ => (hd { on := 10, ground := Ground.data } (by simp) rfl), ((HB.setCell (p := ⟨b, 0, none⟩) hb _).setCell (p := ⟨b, 1, none⟩) hb _)⟩
  · rintro listed act u ⟨l0, l1, l2, l3, l4, l5, l6, l7, l8, l9, l10, l11, v3, v4, v5, v6, v7, v8, v9, v10, v11, v12, v13, rfl, rfl, c0, c1, c2, c3, c4, c5, c6, c7, c8, c9, c10, c11, HB⟩ hall
    obtain rfl := c0 (hall 0 (by decide))
    obtain rfl := c1 (hall 1 (by decide))
    obtain rfl := c2 (hall 2 (by decide))
    obtain rfl := c3 (hall 3 (by decide))
    obtain rfl := c4 (hall 4 (by decide))
    obtain rfl := c5 (hall 5 (by decide))
    obtain rfl := c6 (hall 6 (by decide))
    obtain rfl := c7 (hall 7 (by decide))
    obtain rfl := c8 (hall 8 (by decide))
    obtain rfl := c9 (hall 9 (by decide))
    obtain ⟨b3, rfl, hb3, HQ3⟩ := NewB.done (show l11 = true from hall 11 (by decide)) (c10 (hall 10 (by decide)))
    have HBR := Lib.hid HB
    have HN3 := Lib.hid HQ3
    clear c0 c1 c2 c3 c4 c5 c6 c7 c8 c9 c10 c11 HB HQ3 hall
    have HR2 := Lib.hid (HR.out.next HBR.out)
    have HB2 := Lib.hid (And.intro (HB0.out.1.next HBR.out) (HB0.out.2.next HBR.out))
    have HG2 := Lib.hid (HG.out.trans (grown_of_below HBR.out))
    have HC2 : Hid (Blk u b3 #[.int .i64 c.1, .int .i64 c.2] 37) := Lib.hid HN3.out
    have HCN := Lib.hid (show b3 ≠ v ∧ b3 ≠ w.heap.size ∧ w.heap.size ≤ b3 from ⟨by have := HB0.out.1.lt; omega, by have := HR.out.lt; omega, by have := HR.out.lt; omega⟩)
    clear HBR HN3
    go_upto_region 2 with fail
    have u0 := HB2.out.1.kept 1 HCS.out.1
    have u1 := HB2.out.1.kept 2 HCS.out.2.1
    refine wp_region_ktail 12 (by kernel_rfl) (by kernel_rfl) ?_
    simp only [List.take_succ_cons, List.take_zero, List.drop_succ_cons, List.drop_zero]
    repeat (go_big_quiet_step (fail))
    refine wpQuiet_nil ?_
    rintro w3 ⟨⟨_, K3⟩, rfl⟩
    have HR3 := Lib.hid (HR2.out.next K3)
    have HC3 := Lib.hid (HC2.out.next K3)
    have HB3 := Lib.hid (And.intro (HB2.out.1.next K3) (HB2.out.2.next K3))
    have HG3 := Lib.hid (HG2.out.trans (grown_of_below K3))
    clear u0 u1 K3
    have d0 := HB3.out.1.cell 2 HCS.out.2.1
    have d1 := HB3.out.1.frozen 2
    have HB4 := Lib.hid (And.intro (HB3.out.1.set 2 (.int .i64 (f2 : Int))) (HB3.out.2.other HVL.out.2.2.1 (i := 2) (.int .i64 (f2 : Int))))
    have HR4 := Lib.hid (HR3.out.other (fun e => HVL.out.1 e.symm) (i := 2) (.int .i64 (f2 : Int)))
    have HC4 := Lib.hid (HC3.out.other HCN.out.1 (i := 2) (.int .i64 (f2 : Int)))
    have HG4 := Lib.hid (grown_set HG3.out 2 (.int .i64 (f2 : Int)))
    have HCS4 := Lib.hid (show (cs.setIfInBounds 2 (.int .i64 (f2 : Int)))[3]? = some (.int .i64 ((n + 1 : Nat) : Int)) from by rw [Array.getElem?_setIfInBounds_ne (by omega)]; exact HCS.out.2.2.1)
    go_upto_region 3 with fail
    clear d0 d1
    generalize w3.setCell ⟨v, 2, none⟩ (.int .i64 (f2 : Int)) = w4 at *
    have d0 := HB4.out.1.cell 3 HCS4.out
    have d1 := HB4.out.1.frozen 3
    have HB5 := Lib.hid (And.intro (HB4.out.1.set 3 (.int .i64 (n : Int))) (HB4.out.2.other HVL.out.2.2.1 (i := 3) (.int .i64 (n : Int))))
    have HR5 := Lib.hid (HR4.out.other (fun e => HVL.out.1 e.symm) (i := 3) (.int .i64 (n : Int)))
    have HC5 := Lib.hid (HC4.out.other HCN.out.1 (i := 3) (.int .i64 (n : Int)))
    have HG5 := Lib.hid (grown_set HG4.out 3 (.int .i64 (n : Int)))
    go_upto_region 4 with fail
    clear d0 d1
    generalize w4.setCell ⟨v, 3, none⟩ (.int .i64 (n : Int)) = w5 at *
    have d0 := HC5.out.cell 0 rfl
    have d1 := HC5.out.cell 1 rfl
    have d2 := HR5.out.cell 0 rfl
    have d3 := HR5.out.cell 1 rfl
    have d4 := HR5.out.frozen 0
    have d5 := HR5.out.frozen 1
    have HB6 := Lib.hid (And.intro ((HB5.out.1.other HVL.out.1 (i := 0) (.int .i64 c.1)).other HVL.out.1 (i := 1) (.int .i64 c.2)) ((HB5.out.2.other HVL.out.2.1 (i := 0) (.int .i64 c.1)).other HVL.out.2.1 (i := 1) (.int .i64 c.2)))
    have HR6 := Lib.hid ((HR5.out.set 0 (.int .i64 c.1)).set 1 (.int .i64 c.2))
    have HG6 := Lib.hid (grown_new (grown_new HG5.out (Nat.le_refl _) 0 (.int .i64 c.1)) (Nat.le_refl _) 1 (.int .i64 c.2))
    go_wp2
    have t0 := HR6.out.cell 0 rfl
    have t1 := HR6.out.cell 1 rfl
    exact bodyPost_ret (v := pt c.1 c.2) (by simp [results, Tryz.results48, go_sem, t0, t1]) rfl ⟨rfl, HQ.out _ HB6.out.1 HB6.out.2, HG6.out⟩
end Go.Proofs.YtkogoflcacameaaGreatDoor
namespace Go.Proofs.YtkogoflcacameaaGreatDoor
set_option maxRecDepth 100000
open Go.RowKit
attribute [local go_sem ↓] Go.wp_at_zero Go.wp_at_succ
/-- copy of elements of two cells. -/
theorem run_copyC {P : Program} (w : World) (dT sT ty elem : TypeId) (g o dLen dCap : Nat) (a : Addr) (sLen sCap : Nat) (cur : Array Value) (t : TypeId) (cs : List Value)
    (hu : P.underlying dT = some (.slice elem)) (hs : (P.info? elem).map (·.size) = some 2)
    (hg : w.heap[g]? = some (.cells cur t (0, 0))) (hn : cs.length = Nat.min sLen dLen * 2)
    (hsrc : ∀ j v, cs[j]? = some v → w.cell? (a.add j) = some v) (hfit : o + cs.length ≤ cur.size) (h1 : ∀ v ∈ cs, v.oneCell' = true) :
    (Builtin.copy_ #[dT, sT] ty #[.slice (some ⟨g, o, none⟩) dLen dCap, .slice (some a) sLen sCap]).run P w =
      .ok (goInt (Nat.min sLen dLen)) (w.setRow g (cur.toList.take o ++ cs ++ cur.toList.drop (o + cs.length)).toArray) := by
  have hl := run_loadCells_list (P := P) w a cs hsrc
  have hst := run_storeCells_at P g o t cs 0 cur w hg (by simpa using hfit) h1
  cases hq : P.info? elem with
  | none => simp [hq] at hs
  | some i =>
    have hi : i.size = 2 := by simpa [hq] using hs
    simp [Builtin.copy_, run_underlying hu, Builtin.lenOf, Builtin.firstCells, sizeOf, typeInfo, hq, hi, ← hn, hl, hst]
theorem wpList_copyC {P : Program} {w : World} {ops : Array Oper} {rest : List Oper} {o : Oper} {a : Act} {Q : Exit → Act → World → Prop} (hgd : o.guard = none) (d s : Operand) (dT sT : TypeId)
    (ho : o.op = .call { callee := .builtin .copy, args := #[d, s], argTypes := #[dT, sT] }) (elem : TypeId) (hu : P.underlying dT = some (.slice elem)) (hsz : (P.info? elem).map (·.size) = some 2)
    (g off dLen dCap : Nat) (ad : Addr) (sLen sCap : Nat) (hd : a.eval d = .slice (some ⟨g, off, none⟩) dLen dCap) (hs : a.eval s = .slice (some ad) sLen sCap)
    (cur : List Value) (t : TypeId) (hg : w.heap[g]? = some (.cells cur.toArray t (0, 0))) (cs : List Value) (hn : cs.length = Nat.min sLen dLen * 2)
    (hsrc : ∀ j v, cs[j]? = some v → w.cell? (ad.add j) = some v) (hfit : off + cs.length ≤ cur.length) (h1 : ∀ v ∈ cs, v.oneCell' = true) (n : Nat) (hmn : Nat.min sLen dLen = n) (B : Nat) (w0 : World) (hb : Below B w0 w) (hBg : B ≤ g)
    (h : ∀ w', Hid (w'.heap[g]? = some (.cells (splice cur off cs).toArray t (0, 0))) → Below B w0 w' → wpList P ops Q rest (a.put o.dst (.int .i64 (n : Int))) w') :
    wpList P ops Q (o :: rest) a w := by
  refine wpList_plain hgd fun K hK => ?_
  have hrun := run_copyC (P := P) w dT sT o.type elem g off dLen dCap ad sLen sCap cur.toArray t cs hu hsz hg hn hsrc (by simpa using hfit) h1
  rw [hmn] at hrun
  unfold Oper.wp
  simp [execOp, ho, resolve, invoke, builtin, hd, hs, hrun, Result.andThen]
  exact hK _ _ (h _ (show _ = _ by simpa [splice] using setRow_heap w g _ _ t _ hg) (below_setRow hb hBg _))
theorem run_copyN {P : Program} (w : World) (dT sT ty elem : TypeId) (d : Option Addr) (dLen dCap sCap : Nat) (hu : P.underlying dT = some (.slice elem)) (hs : (P.info? elem).map (·.size) = some 2) :
    (Builtin.copy_ #[dT, sT] ty #[.slice d dLen dCap, .slice none 0 sCap]).run P w = .ok (goInt 0) w := by
  cases hq : P.info? elem with
  | none => simp [hq] at hs
  | some i => cases d <;> simp [Builtin.copy_, run_underlying hu, Builtin.lenOf, Builtin.firstCells, sizeOf, typeInfo, hq, storeCells]
theorem wpList_copyN {P : Program} {w : World} {ops : Array Oper} {rest : List Oper} {o : Oper} {a : Act} {Q : Exit → Act → World → Prop} (hgd : o.guard = none) (d s : Operand) (dT sT : TypeId)
    (ho : o.op = .call { callee := .builtin .copy, args := #[d, s], argTypes := #[dT, sT] }) (elem : TypeId) (hu : P.underlying dT = some (.slice elem)) (hsz : (P.info? elem).map (·.size) = some 2)
    (dp : Option Addr) (dLen dCap sCap : Nat) (hd : a.eval d = .slice dp dLen dCap) (hs : a.eval s = .slice none 0 sCap)
    (h : wpList P ops Q rest (a.put o.dst (goInt 0)) w) : wpList P ops Q (o :: rest) a w := by
  refine wpList_plain hgd fun K hK => ?_
  have hrun := run_copyN (P := P) w dT sT o.type elem dp dLen dCap sCap hu hsz
  unfold Oper.wp
  simp [execOp, ho, resolve, invoke, builtin, hd, hs, hrun, Result.andThen]
  exact hK _ _ h
theorem nmin {a b : Nat} (h : a ≤ b) : Nat.min a b = a := Nat.min_eq_left h
theorem mod_small {f j m : Nat} (hf : f < m) (hj : j < m) : (f + j) % m = if f + j < m then f + j else f + j - m := by
  split
  · exact Nat.mod_eq_of_lt (by assumption)
  · rw [Nat.mod_eq_sub_mod (by omega), Nat.mod_eq_of_lt (by omega)]
/-- The cells of a ring, the first one at the first place. -/
theorem ring_turn (rs Z : List Value) (m fi j : Nat) (hr : rs.length = m * 2) (hZ : m * 2 ≤ Z.length) (hf : fi < m) (hj : j < m) (e : Nat) (he : e < 2) :
    (splice (splice Z 0 (rs.drop (fi * 2))) ((m - fi) * 2) (rs.take (fi * 2)))[j * 2 + e]? = rs[((fi + j) % m) * 2 + e]? := by
  rw [mod_small hf hj]
  unfold splice
  simp only [List.take_zero, List.nil_append, List.length_drop, List.length_take, Nat.zero_add]
  rw [List.getElem?_append]
  split
  · rename_i h
    simp only [List.length_take, List.length_append, List.length_drop] at h
    rw [List.getElem?_take_of_lt (by omega), List.getElem?_append_left (by simp only [List.length_drop]; omega), List.getElem?_drop, if_pos (by omega)]
    congr 1
    omega
  · rename_i h
    simp only [List.length_take, List.length_append, List.length_drop] at h ⊢
    rw [List.getElem?_append_left (by simp only [List.length_take]; omega), List.getElem?_take_of_lt (by omega), if_neg (by omega)]
    congr 1
    omega
theorem Frm.set {v g : Nat} {w w1 : World} (h : Frm v g w w1) (b : Nat) (hb : b = v ∨ b = g ∨ w.heap.size ≤ b) (o : Nat) (x : Value) : Frm v g w (w1.setCell ⟨b, o, none⟩ x) :=
  ⟨h.os, h.tape, h.output, by simpa [World.setCell] using h.size, fun k hk h1 h2 => (Below.heap_setCell _ _ _ k (by show k ≠ b; omega)).trans (h.block k hk h1 h2)⟩
theorem RQ.push {u u' : World} {v g m fi p : Nat} {cs rs : Array Value} {L : List C2} (h : RQ u v cs L g rs m fi) (hlt : L.length < m) (hp : (fi + L.length) % m = p) (c : C2)
    (hb : Blk u' v (cs.setIfInBounds 3 (.int .i64 ((L.length : Int) + 1))) 67) (hg : Blk u' g ((rs.setIfInBounds (p * 2) (.int .i64 c.1)).setIfInBounds (p * 2 + 1) (.int .i64 c.2)) 37) :
    RQ u' v (cs.setIfInBounds 3 (.int .i64 ((L.length : Int) + 1))) (L ++ [c]) g ((rs.setIfInBounds (p * 2) (.int .i64 c.1)).setIfInBounds (p * 2 + 1) (.int .i64 c.2)) m fi := by
  have hm0 : m ≠ 0 := by omega
  obtain ⟨r1, r2, r3⟩ := h.ring hm0
  have hf := h.f1 hm0
  have hpm : p < m := by rw [← hp]; exact Nat.mod_lt _ (by omega)
  refine ⟨hb, by simp [h.size], hg.lt, by rw [Array.getElem?_setIfInBounds_ne (by omega)]; exact h.rng, by rw [Array.getElem?_setIfInBounds_ne (by omega)]; exact h.fst, by rw [Array.getElem?_setIfInBounds_self_of_lt (by rw [h.size]; omega)]; simp, by simp; omega, h.top, h.f0, h.f1, fun _ => ⟨hg, by simp [r2], r3⟩, fun i x hx => ?_, fun j hj => ?_⟩
  · rw [Array.getElem?_setIfInBounds] at hx
    split at hx
    · split at hx
      · cases hx; rfl
      · cases hx
    · rw [Array.getElem?_setIfInBounds] at hx
      split at hx
      · split at hx
        · cases hx; rfl
        · cases hx
      · exact h.one i x hx
  by_cases hjl : j < L.length
  · have hne : (fi + j) % m ≠ p := by
      rw [← hp, mod_small hf (by omega), mod_small hf hlt]
      split <;> split <;> omega
    obtain ⟨k1, k2⟩ := h.cont j hjl
    rw [Array.getElem?_setIfInBounds_ne (by omega), Array.getElem?_setIfInBounds_ne (by omega), Array.getElem?_setIfInBounds_ne (by omega), Array.getElem?_setIfInBounds_ne (by omega), List.getD_eq_getElem?_getD, List.getElem?_append_left hjl, ← List.getD_eq_getElem?_getD]
    exact ⟨k1, k2⟩
  · obtain rfl : j = L.length := by simp at hj; omega
    rw [hp, Array.getElem?_setIfInBounds_ne (by omega), Array.getElem?_setIfInBounds_self_of_lt (by rw [r2]; omega), Array.getElem?_setIfInBounds_self_of_lt (by simp [r2]; omega), List.getD_eq_getElem?_getD, List.getElem?_append_right (Nat.le_refl _)]
    simp
/-- The row of a make of cells. -/
theorem made_blk {w : World} {B n : Nat} (h : w.ownsRow B 37 2 (.slice (some ⟨B, 0, none⟩) n n) n (madeCells (pt 0 0).cells (n * 2)).toList) : ∃ Z : List Value, Blk w B Z.toArray 37 ∧ Z.length = n * 2 ∧ ∀ (i : Nat) x, Z[i]? = some x → x.oneCell' = true := by
  rw [Cel.made6 (fun _ => 0) n] at h
  rcases h.2 with ⟨hv, hn⟩ | ⟨g, c, cur, hv, hb, hg, hnc, hcm, hcs, htake⟩
  · cases hv
  · simp only [Value.slice.injEq, Option.some.injEq, Addr.mk.injEq] at hv
    obtain ⟨⟨rfl, _⟩, _, rfl⟩ := hv
    have hl : cur.toList.length = n * 2 := by simpa using hcs
    have e : cur.toList = Cel.cpart (fun _ => 0) (fun _ => 0) (n * 2) (0 * 2) := by rw [← htake, ← hl]; exact List.take_length.symm
    refine ⟨cur.toList, by simpa [Blk] using hg, hl, fun i x hx => ?_⟩
    have hi : i < n * 2 := by rw [← hl]; exact (List.getElem?_eq_some_iff.1 hx).1
    rw [e, Cel.cpart_at _ _ _ _ _ hi] at hx
    cases hx
    rfl
theorem one_splice {Z X : List Value} {o : Nat} (hZ : ∀ (i : Nat) x, Z[i]? = some x → x.oneCell' = true) (hX : ∀ (i : Nat) x, X[i]? = some x → x.oneCell' = true) : ∀ (i : Nat) x, (splice Z o X)[i]? = some x → x.oneCell' = true := by
  intro i x hx
  have hm := List.mem_of_getElem? hx
  unfold splice at hm
  simp only [List.mem_append] at hm
  rcases hm with q | q | q
  · obtain ⟨k, hk⟩ := List.getElem?_of_mem (List.mem_of_mem_take q); exact hZ k x hk
  · obtain ⟨k, hk⟩ := List.getElem?_of_mem q; exact hX k x hk
  · obtain ⟨k, hk⟩ := List.getElem?_of_mem (List.mem_of_mem_drop q); exact hZ k x hk
theorem src_drop (rl : List Value) (o : Nat) (h : ∀ (i : Nat) x, rl[i]? = some x → x.oneCell' = true) : (∀ (j : Nat) v, (rl.drop o)[j]? = some v → rl[o + j]? = some v) ∧ (∀ (i : Nat) x, (rl.drop o)[i]? = some x → x.oneCell' = true) ∧ ∀ v ∈ rl.drop o, v.oneCell' = true := by
  refine ⟨fun j x hx => by rw [List.getElem?_drop] at hx; exact hx, fun j x hx => by rw [List.getElem?_drop] at hx; exact h _ x hx, fun x hx => ?_⟩
  obtain ⟨k, hk⟩ := List.getElem?_of_mem (List.mem_of_mem_drop hx)
  exact h k x hk
theorem src_take (rl : List Value) (o : Nat) (h : ∀ (i : Nat) x, rl[i]? = some x → x.oneCell' = true) : (∀ (j : Nat) v, (rl.take o)[j]? = some v → rl[0 + j]? = some v) ∧ (∀ (i : Nat) x, (rl.take o)[i]? = some x → x.oneCell' = true) ∧ ∀ v ∈ rl.take o, v.oneCell' = true := by
  have key : ∀ (j : Nat) v, (rl.take o)[j]? = some v → rl[j]? = some v := fun j x hx => by
    rw [List.getElem?_take] at hx
    split at hx
    · exact hx
    · cases hx
  refine ⟨fun j x hx => by rw [Nat.zero_add]; exact key j x hx, fun j x hx => h j x (key j x hx), fun x hx => ?_⟩
  obtain ⟨k, hk⟩ := List.getElem?_of_mem (List.mem_of_mem_take hx)
  exact h k x hk
theorem src_of {u : World} {g : Nat} {rl : List Value} {T : TypeId} (h : Blk u g rl.toArray T) (o : Nat) (X : List Value) (hX : ∀ (j : Nat) v, X[j]? = some v → rl[o + j]? = some v) : ∀ j v, X[j]? = some v → u.cell? ((⟨g, o, none⟩ : Addr).add j) = some v := by
  intro j x hx
  have e : (⟨g, o, none⟩ : Addr).add j = ⟨g, o + j, none⟩ := by unfold Addr.add; split <;> simp_all
  rw [e]
  exact h.cell (o + j) (by simpa using hX j x hx)
/-- What grow leaves. -/
def Grown (v : Nat) (cs : Array Value) (L : List C2) (g m : Nat) (w : World) (e : Ending) (w' : World) : Prop :=
  e = .returned (.tuple #[]) ∧ ∃ rs2, RQ w' v ((cs.setIfInBounds 1 (.slice (some ⟨w.heap.size, 0, none⟩) (2 * m + 4) (2 * m + 4))).setIfInBounds 2 (.int .i64 0)) L w.heap.size rs2 (2 * m + 4) 0 ∧ Frm v g w w'
theorem RQ.grown {u u' : World} {v g m fi b M : Nat} {cs rs : Array Value} {L : List C2} (h : RQ u v cs L g rs m fi) (hM : 2 * m + 4 = M) (hm : m ≤ 400) (hbv : b ≠ v) (row : List Value) (hrow : row.length = M * 2) (hone : ∀ (i : Nat) x, row[i]? = some x → x.oneCell' = true)
    (hc : ∀ j, j < L.length → ∀ e, e < 2 → row[j * 2 + e]? = rs[((fi + j) % m) * 2 + e]?)
    (hb : Blk u' v ((cs.setIfInBounds 1 (.slice (some ⟨b, 0, none⟩) M M)).setIfInBounds 2 (.int .i64 0)) 67) (hg : Blk u' b row.toArray 37) :
    RQ u' v ((cs.setIfInBounds 1 (.slice (some ⟨b, 0, none⟩) M M)).setIfInBounds 2 (.int .i64 0)) L b row.toArray M 0 := by
  have hfit := h.fit
  refine ⟨hb, by simp [h.size], hg.lt, by rw [Array.getElem?_setIfInBounds_ne (by omega), Array.getElem?_setIfInBounds_self_of_lt (by rw [h.size]; omega), if_neg (by omega)], by rw [Array.getElem?_setIfInBounds_self_of_lt (by simp [h.size])]; rfl, by rw [Array.getElem?_setIfInBounds_ne (by omega), Array.getElem?_setIfInBounds_ne (by omega)]; exact h.cnt, by omega, by omega, fun q => rfl, fun q => by omega, fun _ => ⟨hg, by simpa using hrow, hbv⟩, fun i x hx => hone i x (by simpa using hx), fun j hj => ?_⟩
  obtain ⟨k1, k2⟩ := h.cont j hj
  rw [Nat.zero_add, Nat.mod_eq_of_lt (by omega)]
  have q0 := hc j hj 0 (by omega)
  have q1 := hc j hj 1 (by omega)
  simp only [Nat.add_zero] at q0
  simp only [List.getElem?_toArray]
  exact ⟨q0.trans k1, q1.trans k2⟩
set_option maxHeartbeats 4000000 in
theorem queueGrow (v : Nat) (cs : Array Value) (L : List C2) (g : Nat) (rs : Array Value) (m fi : Nat) (w : World) (h : RQ w v cs L g rs m fi) (hm : m ≤ 400) (hm0 : m ≠ 0) :
    Calls Tryz.prog 81 #[.pointer (some ⟨v, 1, none⟩)] w (Grown v cs L g m w) := by
  unfold Grown
  obtain ⟨i0, hi0, hz0, hz1, hz2⟩ := info_parts Cel.infoPt6
  obtain ⟨M, hM⟩ : ∃ M, 2 * m + 4 = M := ⟨_, rfl⟩
  rw [hM]
  have HQ := Lib.hid h
  obtain ⟨r1, r2, r3⟩ := h.ring hm0
  have HRG := Lib.hid r1
  have hrng := h.rng
  rw [if_neg hm0] at hrng
  have HCS := Lib.hid (And.intro hrng h.fst)
  have hfi := h.f1 hm0
  have hvl := h.blk.lt
  have hgl := r1.lt
  obtain ⟨rl, rfl⟩ : ∃ rl : List Value, rs = rl.toArray := ⟨rs.toList, by simp⟩
  have HRL := Lib.hid (show rl.length = m * 2 by simpa using r2)
  obtain ⟨X1, hX1⟩ : ∃ X1, X1 = rl.drop (fi * 2) := ⟨_, rfl⟩
  obtain ⟨X2, hX2⟩ : ∃ X2, X2 = rl.take (fi * 2) := ⟨_, rfl⟩
  have one1 : ∀ (i : Nat) x, rl[i]? = some x → x.oneCell' = true := fun i x hx => h.one i x (by simpa using hx)
  have HS1 := Lib.hid (hX1 ▸ src_drop rl (fi * 2) one1)
  have HS2 := Lib.hid (hX2 ▸ src_take rl (fi * 2) one1)
  have HXE := Lib.hid (And.intro hX1 hX2)
  clear hX1 hX2 one1
  have HV := Lib.hid h.blk
  have o1 : IntKind.i64.wrap (2 * (m : Int)) = 2 * (m : Int) := wrap_in (by omega) (by omega)
  have o2 : IntKind.i64.wrap (2 * (m : Int) + 4) = (M : Int) := by rw [show 2 * (m : Int) + 4 = (M : Int) by omega]; exact wrap_in (by omega) (by omega)
  have o2' : 2 * (m : Int) + 4 = (M : Int) := by omega
  have j0 : (0 : Int) ≤ (fi : Int) := by omega
  have j1 : (fi : Int) ≤ (m : Int) := by omega
  have j2 : ¬ ((fi : Int) = (m : Int)) := by omega
  have j3 : ¬ (fi = m) := by omega
  have j4 : fi < m := hfi
  have u0 := h.blk.cell 1 hrng
  clear h r1 r2 hrng
  go_enter Tryz.func81, Tryz.ntmps81
  go_upto_region 1 with (first
    | (at_make; refine wpList_make_full _ rfl _ _ 34 rfl w.heap.size 37 i0 (pt 0 0) 2 Tryz.underlying34 hi0 hz0 hz1 .i64 .i64 _ _ M rfl rfl (by omega) (by omega) (by rw [hz2]; omega) (by unfold maxLen; omega) (Nat.le_refl _) ?_; intro w1 own1 grow1))
  obtain ⟨Z, HZ0, hzl, hz1c⟩ := made_blk own1
  have HG : Below w.heap.size w w1 := (Below.refl _ _).grown grow1 (Nat.le_refl _) (fun k hk => by cases hk)
  have HZ := Lib.hid HZ0
  have HZL := Lib.hid (And.intro hzl hz1c)
  have HB := Lib.hid HG
  clear own1 grow1 HZ0 HG u0 o1 o2 o2' hzl hz1c
  have u0 := (HV.out.next HB.out).kept 1 HCS.out.1
  have u1 := (HV.out.next HB.out).kept 2 HCS.out.2
  refine wp_region_ktail 10 (by kernel_rfl) (by kernel_rfl) ?_
  simp only [List.take_succ_cons, List.take_zero, List.drop_succ_cons, List.drop_zero]
  repeat (go_big_quiet_step (fail))
  refine wpQuiet_nil ?_
  rintro w2 ⟨⟨_, K2⟩, rfl⟩
  have HZ2 := Lib.hid (HZ.out.next K2)
  have HB2 := Lib.hid (below_call HB.out K2)
  have HR2 := Lib.hid ((HRG.out.next HB.out).next K2)
  clear K2 u0 u1 HZ HB
  obtain ⟨k1, hk1⟩ : ∃ k, m - fi = k := ⟨_, rfl⟩
  have HX1 := Lib.hid (show X1.length = k1 * 2 from by rw [HXE.out.1, List.length_drop, HRL.out]; omega)
  have HX2 := Lib.hid (show X2.length = fi * 2 from by rw [HXE.out.2, List.length_take, HRL.out]; omega)
  have HK1 := Lib.hid hk1
  clear hk1
  refine wpList_copyC rfl (.tmp 12) (.tmp 21) 34 34 rfl 37 Tryz.underlying34 (by kernel_rfl) w.heap.size 0 M M ⟨g, fi * 2, none⟩ (m - fi) (m - fi) rfl rfl Z 37 HZ2.out X1 (by have q := HK1.out; rw [HX1.out, nmin (by omega)]; omega) (src_of HR2.out (fi * 2) X1 HS1.out.1) (by have q := HK1.out; rw [HX1.out, HZL.out.1]; omega) HS1.out.2.2 k1 (by have q := HK1.out; rw [nmin (by omega)]; exact q) w.heap.size w HB2.out (Nat.le_refl _) ?_
  intro w3 HZ3 HB3
  go_upto_region 2 with fail
  have HR3 := Lib.hid (show Blk w3 g rl.toArray 37 from (HB3.block g hgl).trans ((HB2.out.block g hgl).symm.trans HR2.out))
  have HV3 := Lib.hid (HV.out.next HB3)
  have HB3' := Lib.hid HB3
  have hk1 := HK1.out
  have k0 : (0 : Int) ≤ (k1 : Int) := by omega
  have k2 : (k1 : Int) ≤ (M : Int) := by omega
  have k3 : ¬ ((k1 : Int) = (M : Int)) := by omega
  have k4 : ¬ (k1 = M) := by omega
  have k5 : k1 < M := by omega
  clear hk1
  have u0 := HV3.out.kept 1 HCS.out.1
  have u1 := HV3.out.kept 2 HCS.out.2
  clear HB3 HB2 HR2 HZ2
  obtain ⟨Z1, hZ1⟩ : ∃ Z1, Z1 = splice Z 0 X1 := ⟨_, rfl⟩
  rw [← hZ1] at HZ3
  have HZ1 := Lib.hid hZ1
  have HL1 := Lib.hid (show Z1.length = M * 2 from by rw [hZ1, length_splice _ _ _ (by have q := HK1.out; rw [HX1.out, HZL.out.1]; omega), HZL.out.1])
  clear hZ1
  refine wp_region_ktail 12 (by kernel_rfl) (by kernel_rfl) ?_
  simp only [List.take_succ_cons, List.take_zero, List.drop_succ_cons, List.drop_zero]
  repeat (go_big_quiet_step (fail))
  refine wpQuiet_nil ?_
  rintro w4 ⟨⟨_, K4⟩, rfl⟩
  have HZ4 := Lib.hid (show Blk w4 w.heap.size Z1.toArray 37 from Blk.next HZ3.out K4)
  have HB4 := Lib.hid (below_call HB3'.out K4)
  have HR4 := Lib.hid (HR3.out.next K4)
  clear K4 u0 u1 HZ3 HB3' HR3 HV3
  refine wpList_copyC rfl (.tmp 25) (.tmp 34) 34 34 rfl 37 Tryz.underlying34 (by kernel_rfl) w.heap.size (k1 * 2) (M - k1) (M - k1) ⟨g, 0, none⟩ fi m rfl rfl Z1 37 HZ4.out X2 (by have q := HK1.out; rw [HX2.out, nmin (by omega)]) (src_of HR4.out 0 X2 HS2.out.1) (by have q := HK1.out; rw [HX2.out, HL1.out]; omega) HS2.out.2.2 fi (by have q := HK1.out; rw [nmin (by omega)]) w.heap.size w HB4.out (Nat.le_refl _) ?_
  intro w5 HZ5 HB5
  go_upto_region 3 with fail
  have HB5' := Lib.hid HB5
  have HV5 := Lib.hid (HV.out.next HB5)
  have d0 := HV5.out.cell 1 HCS.out.1
  have d1 := HV5.out.frozen 1
  have d2 := HV5.out.cell 2 HCS.out.2
  have d3 := HV5.out.frozen 2
  clear HB5 HB4 HR4 HZ4
  go_wp2
  go_end0
  have hk1 := HK1.out
  subst hM
  refine ⟨rfl, _, RQ.grown HQ.out rfl hm (by omega) (splice Z1 (k1 * 2) X2) (by rw [length_splice _ _ _ (by have q := HK1.out; rw [HX2.out, HL1.out]; omega), HL1.out]) (one_splice (by rw [HZ1.out]; exact one_splice HZL.out.2 HS1.out.2.1) HS2.out.2.1) (fun j hj e he => by rw [HZ1.out, HXE.out.1, HXE.out.2, ← hk1, List.getElem?_toArray]; exact ring_turn rl Z m fi j HRL.out (by rw [HZL.out.1]; omega) hfi (by have := HQ.out.fit; omega) e he) ((HV5.out.set 1 _).set 2 _) (((show Blk w5 w.heap.size _ _ from HZ5.out).other (by omega) _).other (by omega) _), ((Frm.of_below HB5'.out).set v (.inl rfl) 1 _).set v (.inl rfl) 2 _⟩
set_option maxHeartbeats 4000000 in
theorem queueGrow0 (v : Nat) (cs : Array Value) (L : List C2) (g : Nat) (rs : Array Value) (fi : Nat) (w : World) (h : RQ w v cs L g rs 0 fi) :
    Calls Tryz.prog 81 #[.pointer (some ⟨v, 1, none⟩)] w (Grown v cs L g 0 w) := by
  unfold Grown
  obtain ⟨i0, hi0, hz0, hz1, hz2⟩ := info_parts Cel.infoPt6
  have HQ := Lib.hid h
  have hrng := h.rng
  rw [if_pos rfl] at hrng
  obtain rfl : fi = 0 := h.f0 rfl
  have HCS := Lib.hid (And.intro hrng h.fst)
  have hvl := h.blk.lt
  have HV := Lib.hid h.blk
  have u0 := h.blk.cell 1 hrng
  clear h hrng
  go_enter Tryz.func81, Tryz.ntmps81
  go_upto_region 1 with (first
    | (at_make; refine wpList_make_full _ rfl _ _ 34 rfl w.heap.size 37 i0 (pt 0 0) 2 Tryz.underlying34 hi0 hz0 hz1 .i64 .i64 _ _ 4 rfl rfl (by omega) (by omega) (by rw [hz2]; omega) (by unfold maxLen; omega) (Nat.le_refl _) ?_; intro w1 own1 grow1))
  obtain ⟨Z, HZ0, hzl, hz1c⟩ := made_blk own1
  have HG : Below w.heap.size w w1 := (Below.refl _ _).grown grow1 (Nat.le_refl _) (fun k hk => by cases hk)
  have HZ := Lib.hid HZ0
  have HZL := Lib.hid (And.intro hzl hz1c)
  have HB := Lib.hid HG
  clear own1 grow1 HZ0 HG u0 hzl hz1c
  have u0 := (HV.out.next HB.out).kept 1 HCS.out.1
  have u1 := (HV.out.next HB.out).kept 2 HCS.out.2
  refine wp_region_ktail 10 (by kernel_rfl) (by kernel_rfl) ?_
  simp only [List.take_succ_cons, List.take_zero, List.drop_succ_cons, List.drop_zero]
  repeat (go_big_quiet_step (fail))
  refine wpQuiet_nil ?_
  rintro w2 ⟨⟨_, K2⟩, rfl⟩
  have HZ2 := Lib.hid (HZ.out.next K2)
  have HB2 := Lib.hid (below_call HB.out K2)
  clear K2 u0 u1 HZ HB
  refine wpList_copyN rfl (.tmp 12) (.tmp 21) 34 34 rfl 37 Tryz.underlying34 (by kernel_rfl) (some ⟨w.heap.size, 0, none⟩) 4 4 0 rfl rfl ?_
  go_upto_region 2 with fail
  have u0 := (HV.out.next HB2.out).kept 1 HCS.out.1
  have u1 := (HV.out.next HB2.out).kept 2 HCS.out.2
  refine wp_region_ktail 12 (by kernel_rfl) (by kernel_rfl) ?_
  simp only [List.take_succ_cons, List.take_zero, List.drop_succ_cons, List.drop_zero]
  repeat (go_big_quiet_step (fail))
  refine wpQuiet_nil ?_
  rintro w4 ⟨⟨_, K4⟩, rfl⟩
  have HZ4 := Lib.hid (HZ2.out.next K4)
  have HB4 := Lib.hid (below_call HB2.out K4)
  clear K4 u0 u1 HZ2 HB2
  refine wpList_copyN rfl (.tmp 25) (.tmp 34) 34 34 rfl 37 Tryz.underlying34 (by kernel_rfl) (some ⟨w.heap.size, 0, none⟩) 4 4 0 rfl rfl ?_
  go_upto_region 3 with fail
  have HV5 := Lib.hid (HV.out.next HB4.out)
  have d0 := HV5.out.cell 1 HCS.out.1
  have d1 := HV5.out.frozen 1
  have d2 := HV5.out.cell 2 HCS.out.2
  have d3 := HV5.out.frozen 2
  go_wp2
  go_end0
  refine ⟨rfl, _, RQ.grown HQ.out rfl (by omega) (by omega) Z HZL.out.1 HZL.out.2 (fun j hj => by have := HQ.out.fit; omega) ((HV5.out.set 1 _).set 2 _) ((HZ4.out.other (by omega) _).other (by omega) _), ((Frm.of_below HB4.out).set v (.inl rfl) 1 _).set v (.inl rfl) 2 _⟩
end Go.Proofs.YtkogoflcacameaaGreatDoor
namespace Go.Proofs.YtkogoflcacameaaGreatDoor
set_option maxRecDepth 100000
open Go.RowKit
attribute [local go_sem ↓] Go.wp_at_zero Go.wp_at_succ
/-- What add leaves. -/
def Added (v : Nat) (cs : Array Value) (L : List C2) (c : C2) (g : Nat) (w : World) (e : Ending) (w' : World) : Prop :=
  e = .returned (.tuple #[]) ∧ ∃ (cs' : Array Value) (g' : Nat) (rs' : Array Value) (m' fi' : Nat), RQ w' v cs' (L ++ [c]) g' rs' m' fi' ∧ (∀ i, i = 0 ∨ 4 ≤ i → cs'[i]? = cs[i]?) ∧ Frm v g w w' ∧ (g' = g ∨ w.heap.size ≤ g')
theorem RQ.half {u : World} {v g m fi n : Nat} {cs rs : Array Value} {L : List C2} (h : RQ u v cs L g rs m fi) (hlt : L.length < m) (hn : L.length = n) :
    m ≠ 0 ∧ Hid (Blk u g rs 37) ∧ Hid (g ≠ v) ∧ Hid (cs[1]? = some (.slice (some ⟨g, 0, none⟩) m m)) ∧ Hid (cs[2]? = some (.int .i64 (fi : Int))) ∧ Hid (cs[3]? = some (.int .i64 (n : Int))) ∧ fi < m ∧ m ≤ 3000 ∧ n < m ∧ ∃ p, Hid ((fi + n) % m = p) ∧ p < m ∧ ((fi : Int) + (n : Int)) % (m : Int) = (p : Int) ∧ ((fi : Int) + (n : Int)).tmod (m : Int) = (p : Int) ∧ ∃ x y, Hid (rs[p * 2]? = some x) ∧ Hid (rs[p * 2 + 1]? = some y) := by
  have hm0 : m ≠ 0 := by omega
  obtain ⟨r1, r2, r3⟩ := h.ring hm0
  have hrng := h.rng
  rw [if_neg hm0] at hrng
  have hcnt := h.cnt
  rw [hn] at hcnt
  have hpm : (fi + n) % m < m := Nat.mod_lt _ (by omega)
  have e1 : ((fi : Int) + (n : Int)) % (m : Int) = (((fi + n) % m : Nat) : Int) := by rw [Int.natCast_emod]; rfl
  exact ⟨hm0, Lib.hid r1, Lib.hid r3, Lib.hid hrng, Lib.hid h.fst, Lib.hid hcnt, h.f1 hm0, h.top, by omega, _, Lib.hid rfl, hpm, e1, by rw [Int.tmod_eq_emod_of_nonneg (by omega)]; exact e1, _, _, Lib.hid (Array.getElem?_eq_getElem (by omega)), Lib.hid (Array.getElem?_eq_getElem (by omega))⟩
theorem Grown.any {v g m : Nat} {cs : Array Value} {L : List C2} {w w' : World} {e : Ending} (h : Grown v cs L g m w e w') (hL : L.length = m) :
    e = .returned (.tuple #[]) ∧ ∃ (cs' : Array Value) (g' : Nat) (rs' : Array Value) (m' fi' : Nat), Hid (RQ w' v cs' L g' rs' m' fi') ∧ L.length < m' ∧ Hid (∀ i, i = 0 ∨ 4 ≤ i → cs'[i]? = cs[i]?) ∧ Frm v g w w' ∧ w.heap.size ≤ g' := by
  obtain ⟨h1, rs2, h2, h3⟩ := h
  exact ⟨h1, _, _, _, _, _, Lib.hid h2, by omega, Lib.hid (fun i hi => by rw [Array.getElem?_setIfInBounds_ne (by omega), Array.getElem?_setIfInBounds_ne (by omega)]), h3, Nat.le_refl _⟩
set_option maxHeartbeats 4000000 in
theorem queueAdd (v : Nat) (cs : Array Value) (L : List C2) (c : C2) (g : Nat) (rs : Array Value) (m fi : Nat) (w : World) (h : RQ w v cs L g rs m fi) (hL : L.length ≤ 400) :
    Calls Tryz.prog 65 #[.pointer (some ⟨v, 1, none⟩), pt c.1 c.2] w (Added v cs L c g w) := by
  unfold Added
  obtain ⟨c1, c2⟩ := c
  have B0 := below_box w (.cells #[.int .i64 c1, .int .i64 c2] 37)
  have HB := Lib.hid B0
  have HQ := Lib.hid (h.frm B0)
  have HX := Lib.hid (Blk.new w #[.int .i64 c1, .int .i64 c2] 37)
  have HF := Lib.hid (Frm.of_below B0 : Frm v g w _)
  have HGL := Lib.hid (show v < w.heap.size ∧ g < w.heap.size from ⟨h.blk.lt, h.glt⟩)
  have htop := h.top
  have hfit := h.fit
  have HCN := Lib.hid h.cnt
  have HRN := Lib.hid h.rng
  clear B0 h
  by_cases hlt : L.length < m
  · have hne : ¬ ((L.length : Int) = (m : Int)) := by omega
    have hm1 : m ≠ 0 := by omega
    rw [if_neg hm1] at HRN
    go_enter Tryz.func65, Tryz.ntmps65
    have u0 := HQ.out.blk.kept 1 HRN.out
    have u1 := HQ.out.blk.kept 3 HCN.out
    go_upto_region 1 with fail
    generalize w.alloc (.cells #[.int .i64 c1, .int .i64 c2] 37) = w1 at *
    refine wp_region_kept (by kernel_rfl) (by kernel_rfl) ?_
    repeat (go_big_quiet_step (fail))
    refine wpQuiet_nil ?_
    rintro w2 ⟨⟨_, K2⟩, rfl⟩
    have HQ2 := Lib.hid (HQ.out.frm K2)
    have HX2 := Lib.hid (HX.out.next K2)
    have HF2 := Lib.hid (HF.out.trans (Frm.of_below K2 : Frm v g _ _) (.inl rfl))
    clear K2 u0 u1
    go_upto_region 3 with fail
    obtain ⟨hm0, HR1, HR3, HRG, HFS, HCT, hfi, hmt, hnm, p, HP, hpm, e1, e2, x0, y0, HX0, HY0⟩ := HQ2.out.half hlt rfl
    have HU := Lib.hid (And.intro HQ2.out.blk (And.intro HR1.out HX2.out))
    have z0 : ¬ (m : Int) = 0 := by omega
    have z1 : ((m : Int) == 0) = false := by simp; omega
    have p0 : (0 : Int) ≤ (p : Int) := by omega
    have p1 : (p : Int) < (m : Int) := by omega
    obtain ⟨n, hn⟩ : ∃ n, L.length = n := ⟨_, rfl⟩
    have HLN := Lib.hid hn
    rw [hn] at e1 e2 HP HCT
    have hn4 : n ≤ 400 := by omega
    have u0 := HU.out.1.kept 1 HRG.out
    have u1 := HU.out.1.kept 2 HFS.out
    have u2 := HU.out.1.kept 3 HCT.out
    have u3 := HU.out.2.2.kept 0 rfl
    have u4 := HU.out.2.2.kept 1 rfl
    clear hn hlt
    refine wp_region_ktail 20 (by kernel_rfl) (by kernel_rfl) ?_
    simp only [List.take_succ_cons, List.take_zero, List.drop_succ_cons, List.drop_zero]
    repeat (go_big_quiet_step (fail))
    refine wpQuiet_nil ?_
    rintro w5 ⟨⟨_, K5⟩, rfl⟩
    have HV6 := Lib.hid (((HU.out.1.next K5).other (fun e => HR3.out e.symm) (i := p * 2) (.int .i64 c1)).other (fun e => HR3.out e.symm) (i := p * 2 + 1) (.int .i64 c2))
    have HG5 := Lib.hid (HU.out.2.1.next K5)
    have HF5 := Lib.hid (HF2.out.trans (Frm.of_below K5 : Frm v g _ _) (.inl rfl))
    clear K5 u0 u1 u2 u3 u4
    have d0 := HG5.out.cell (p * 2) HX0.out
    have d1 := HG5.out.frozen (p * 2)
    have d2 := HG5.out.cell (p * 2 + 1) HY0.out
    have d3 := HG5.out.frozen (p * 2 + 1)
    have HG6 := Lib.hid ((HG5.out.set (p * 2) (.int .i64 c1)).set (p * 2 + 1) (.int .i64 c2))
    have HF6 := Lib.hid ((HF5.out.set g (.inr (.inl rfl)) (p * 2) (.int .i64 c1)).set g (.inr (.inl rfl)) (p * 2 + 1) (.int .i64 c2))
    go_upto_region 4 with fail
    clear d0 d1 d2 d3
    generalize (w5.setCell ⟨g, p * 2, none⟩ (.int .i64 c1)).setCell ⟨g, p * 2 + 1, none⟩ (.int .i64 c2) = w6 at *
    have d0 := HV6.out.cell 3 HCT.out
    have d1 := HV6.out.frozen 3
    go_wp2
    go_end0
    refine ⟨rfl, _, _, _, _, _, RQ.push HQ2.out (by have := HLN.out; omega) (by rw [HLN.out]; exact HP.out) (c1, c2) (by rw [HLN.out]; exact HV6.out.set 3 _) (HG6.out.other (HR3.out) (i := 3) _), ?_, HF6.out.set v (.inl rfl) 3 _, .inl rfl⟩
    intro i hi
    exact Array.getElem?_setIfInBounds_ne (by omega)
  · have hLm : L.length = m := by omega
    by_cases hm0 : m = 0
    · subst hm0
      replace HCN := Lib.hid (show cs[3]? = some (.int .i64 0) from by have q := HCN.out; rw [hLm] at q; exact q)
      replace HRN := Lib.hid (show cs[1]? = some (.slice none 0 0) from by have q := HRN.out; rw [if_pos rfl] at q; exact q)
      have HGR : Hid (∀ u, RQ u v cs L g rs 0 fi → Calls Tryz.prog 81 #[.pointer (some ⟨v, 1, none⟩)] u (Grown v cs L g 0 u)) := Lib.hid fun u hu => queueGrow0 v cs L g rs fi u hu
      have HLM := Lib.hid hLm
      clear hLm
      go_enter Tryz.func65, Tryz.ntmps65
      have u0 := HQ.out.blk.kept 1 HRN.out
      have u1 := HQ.out.blk.kept 3 HCN.out
      go_upto_region 1 with fail
      generalize w.alloc (.cells #[.int .i64 c1, .int .i64 c2] 37) = w1 at *
      refine wp_region_kept (by kernel_rfl) (by kernel_rfl) ?_
      repeat (go_big_quiet_step (fail))
      refine wpQuiet_nil ?_
      rintro w2 ⟨⟨_, K2⟩, rfl⟩
      have HQ2 := Lib.hid (HQ.out.frm K2)
      have HX2 := Lib.hid (HX.out.next K2)
      have HF2 := Lib.hid (HF.out.trans (Frm.of_below K2 : Frm v g _ _) (.inl rfl))
      clear K2 u0 u1
      go_wp2_with fail
      refine (HGR.out _ HQ2.out).mono ?_
      rintro e w3 hG
      obtain ⟨rfl, cs3, g3, rs3, m3, fi3, HQ3, hlt, HC3, F3, hg3⟩ := hG.any HLM.out
      have HF3 := Lib.hid (HF2.out.trans F3 (.inl rfl))
      have HX3 := Lib.hid (HX2.out.frm F3 (by have := HGL.out.1; omega) (by have := HGL.out.2; omega))
      have HG3 := Lib.hid (Nat.le_trans HF2.out.size hg3)
      clear F3 hg3 HF2 HX2
      go_upto_region 3 with fail
      obtain ⟨hm03, HR1, HR3, HRG, HFS, HCT, hfi, hmt, hnm, p, HP, hpm, e1, e2, x0, y0, HX0, HY0⟩ := HQ3.out.half hlt rfl
      have HU := Lib.hid (And.intro HQ3.out.blk (And.intro HR1.out HX3.out))
      have z0 : ¬ (m3 : Int) = 0 := by omega
      have z1 : ((m3 : Int) == 0) = false := by simp; omega
      have p0 : (0 : Int) ≤ (p : Int) := by omega
      have p1 : (p : Int) < (m3 : Int) := by omega
      obtain ⟨n, hn⟩ : ∃ n, L.length = n := ⟨_, rfl⟩
      have HLN := Lib.hid hn
      rw [hn] at e1 e2 HP HCT
      have hn4 : n ≤ 400 := by omega
      have u0 := HU.out.1.kept 1 HRG.out
      have u1 := HU.out.1.kept 2 HFS.out
      have u2 := HU.out.1.kept 3 HCT.out
      have u3 := HU.out.2.2.kept 0 rfl
      have u4 := HU.out.2.2.kept 1 rfl
      clear hn hlt
      refine wp_region_ktail 20 (by kernel_rfl) (by kernel_rfl) ?_
      simp only [List.take_succ_cons, List.take_zero, List.drop_succ_cons, List.drop_zero]
      repeat (go_big_quiet_step (fail))
      refine wpQuiet_nil ?_
      rintro w5 ⟨⟨_, K5⟩, rfl⟩
      have HV6 := Lib.hid (((HU.out.1.next K5).other (fun e => HR3.out e.symm) (i := p * 2) (.int .i64 c1)).other (fun e => HR3.out e.symm) (i := p * 2 + 1) (.int .i64 c2))
      have HG5 := Lib.hid (HU.out.2.1.next K5)
      have HF5 := Lib.hid (HF3.out.trans (Frm.of_below K5 : Frm v g _ _) (.inl rfl))
      clear K5 u0 u1 u2 u3 u4
      have d0 := HG5.out.cell (p * 2) HX0.out
      have d1 := HG5.out.frozen (p * 2)
      have d2 := HG5.out.cell (p * 2 + 1) HY0.out
      have d3 := HG5.out.frozen (p * 2 + 1)
      have HG6 := Lib.hid ((HG5.out.set (p * 2) (.int .i64 c1)).set (p * 2 + 1) (.int .i64 c2))
      have HF6 := Lib.hid ((HF5.out.set g3 (.inr (.inr HG3.out)) (p * 2) (.int .i64 c1)).set g3 (.inr (.inr HG3.out)) (p * 2 + 1) (.int .i64 c2))
      go_upto_region 4 with fail
      clear d0 d1 d2 d3
      generalize (w5.setCell ⟨g3, p * 2, none⟩ (.int .i64 c1)).setCell ⟨g3, p * 2 + 1, none⟩ (.int .i64 c2) = w6 at *
      have d0 := HV6.out.cell 3 HCT.out
      have d1 := HV6.out.frozen 3
      go_wp2
      go_end0
      refine ⟨rfl, _, _, _, _, _, RQ.push HQ3.out (by have := HLN.out; omega) (by rw [HLN.out]; exact HP.out) (c1, c2) (by rw [HLN.out]; exact HV6.out.set 3 _) (HG6.out.other (HR3.out) (i := 3) _), ?_, HF6.out.set v (.inl rfl) 3 _, .inr HG3.out⟩
      intro i hi
      rw [Array.getElem?_setIfInBounds_ne (by omega)]
      exact HC3.out i hi
    · skip
      replace HCN := Lib.hid (show cs[3]? = some (.int .i64 (m : Int)) from by have q := HCN.out; rw [hLm] at q; exact q)
      replace HRN := Lib.hid (show cs[1]? = some (.slice (some ⟨g, 0, none⟩) m m) from by have q := HRN.out; rw [if_neg hm0] at q; exact q)
      have HGR : Hid (∀ u, RQ u v cs L g rs m fi → Calls Tryz.prog 81 #[.pointer (some ⟨v, 1, none⟩)] u (Grown v cs L g m u)) := Lib.hid fun u hu => queueGrow v cs L g rs m fi u hu (by omega) hm0
      have HLM := Lib.hid hLm
      clear hLm
      go_enter Tryz.func65, Tryz.ntmps65
      have u0 := HQ.out.blk.kept 1 HRN.out
      have u1 := HQ.out.blk.kept 3 HCN.out
      go_upto_region 1 with fail
      generalize w.alloc (.cells #[.int .i64 c1, .int .i64 c2] 37) = w1 at *
      refine wp_region_kept (by kernel_rfl) (by kernel_rfl) ?_
      repeat (go_big_quiet_step (fail))
      refine wpQuiet_nil ?_
      rintro w2 ⟨⟨_, K2⟩, rfl⟩
      have HQ2 := Lib.hid (HQ.out.frm K2)
      have HX2 := Lib.hid (HX.out.next K2)
      have HF2 := Lib.hid (HF.out.trans (Frm.of_below K2 : Frm v g _ _) (.inl rfl))
      clear K2 u0 u1
      go_wp2_with fail
      refine (HGR.out _ HQ2.out).mono ?_
      rintro e w3 hG
      obtain ⟨rfl, cs3, g3, rs3, m3, fi3, HQ3, hlt, HC3, F3, hg3⟩ := hG.any HLM.out
      have HF3 := Lib.hid (HF2.out.trans F3 (.inl rfl))
      have HX3 := Lib.hid (HX2.out.frm F3 (by have := HGL.out.1; omega) (by have := HGL.out.2; omega))
      have HG3 := Lib.hid (Nat.le_trans HF2.out.size hg3)
      clear F3 hg3 HF2 HX2
      go_upto_region 3 with fail
      obtain ⟨hm03, HR1, HR3, HRG, HFS, HCT, hfi, hmt, hnm, p, HP, hpm, e1, e2, x0, y0, HX0, HY0⟩ := HQ3.out.half hlt rfl
      have HU := Lib.hid (And.intro HQ3.out.blk (And.intro HR1.out HX3.out))
      have z0 : ¬ (m3 : Int) = 0 := by omega
      have z1 : ((m3 : Int) == 0) = false := by simp; omega
      have p0 : (0 : Int) ≤ (p : Int) := by omega
      have p1 : (p : Int) < (m3 : Int) := by omega
      obtain ⟨n, hn⟩ : ∃ n, L.length = n := ⟨_, rfl⟩
      have HLN := Lib.hid hn
      rw [hn] at e1 e2 HP HCT
      have hn4 : n ≤ 400 := by omega
      have u0 := HU.out.1.kept 1 HRG.out
      have u1 := HU.out.1.kept 2 HFS.out
      have u2 := HU.out.1.kept 3 HCT.out
      have u3 := HU.out.2.2.kept 0 rfl
      have u4 := HU.out.2.2.kept 1 rfl
      clear hn hlt
      refine wp_region_ktail 20 (by kernel_rfl) (by kernel_rfl) ?_
      simp only [List.take_succ_cons, List.take_zero, List.drop_succ_cons, List.drop_zero]
      repeat (go_big_quiet_step (fail))
      refine wpQuiet_nil ?_
      rintro w5 ⟨⟨_, K5⟩, rfl⟩
      have HV6 := Lib.hid (((HU.out.1.next K5).other (fun e => HR3.out e.symm) (i := p * 2) (.int .i64 c1)).other (fun e => HR3.out e.symm) (i := p * 2 + 1) (.int .i64 c2))
      have HG5 := Lib.hid (HU.out.2.1.next K5)
      have HF5 := Lib.hid (HF3.out.trans (Frm.of_below K5 : Frm v g _ _) (.inl rfl))
      clear K5 u0 u1 u2 u3 u4
      have d0 := HG5.out.cell (p * 2) HX0.out
      have d1 := HG5.out.frozen (p * 2)
      have d2 := HG5.out.cell (p * 2 + 1) HY0.out
      have d3 := HG5.out.frozen (p * 2 + 1)
      have HG6 := Lib.hid ((HG5.out.set (p * 2) (.int .i64 c1)).set (p * 2 + 1) (.int .i64 c2))
      have HF6 := Lib.hid ((HF5.out.set g3 (.inr (.inr HG3.out)) (p * 2) (.int .i64 c1)).set g3 (.inr (.inr HG3.out)) (p * 2 + 1) (.int .i64 c2))
      go_upto_region 4 with fail
      clear d0 d1 d2 d3
      generalize (w5.setCell ⟨g3, p * 2, none⟩ (.int .i64 c1)).setCell ⟨g3, p * 2 + 1, none⟩ (.int .i64 c2) = w6 at *
      have d0 := HV6.out.cell 3 HCT.out
      have d1 := HV6.out.frozen 3
      go_wp2
      go_end0
      refine ⟨rfl, _, _, _, _, _, RQ.push HQ3.out (by have := HLN.out; omega) (by rw [HLN.out]; exact HP.out) (c1, c2) (by rw [HLN.out]; exact HV6.out.set 3 _) (HG6.out.other (HR3.out) (i := 3) _), ?_, HF6.out.set v (.inl rfl) 3 _, .inr HG3.out⟩
      intro i hi
      rw [Array.getElem?_setIfInBounds_ne (by omega)]
      exact HC3.out i hi
end Go.Proofs.YtkogoflcacameaaGreatDoor
namespace Go.Proofs.YtkogoflcacameaaGreatDoor
set_option maxRecDepth 100000
open Go.RowKit
attribute [local go_sem ↓] Go.wp_at_zero Go.wp_at_succ
theorem RQ.swap {u u' : World} {v g m fi : Nat} {cs cs2 rs : Array Value} {L : List C2} (h : RQ u v cs L g rs m fi) (hb : Blk u' v cs2 67) (hs : cs2.size = 811) (h1 : ∀ i, i = 1 ∨ i = 2 ∨ i = 3 → cs2[i]? = cs[i]?) (hg : m ≠ 0 → Blk u' g rs 37) (hgl : g < u'.heap.size) : RQ u' v cs2 L g rs m fi :=
  ⟨hb, hs, hgl, (h1 1 (by omega)).trans h.rng, (h1 2 (by omega)).trans h.fst, (h1 3 (by omega)).trans h.cnt, h.fit, h.top, h.f0, h.f1, fun q => ⟨hg q, (h.ring q).2⟩, h.one, h.cont⟩
/-- The search's state: the queue s has been visited, k cells of it have been taken. -/
structure Sea (B : Nat) (u : World) (v : Nat) (tv : Value) (s : Qu) (k : Nat) (g : Nat) (cs rs : Array Value) (m fi : Nat) (V : Nat → Nat) : Prop where
  rq : RQ u v cs ((s.map Prod.fst).drop k) g rs m fi
  tab : cs[0]? = some tv
  vis : ∀ q, q < 7 → cs[4 + q]? = some (.int .u64 (V q : Int))
  bits : Bits11 V s
  small : ∀ i, i < s.length → smC (qc s i)
  par : ∀ i, i < s.length → (qb s i).toNat < s.length
  bef : ∀ i, i < s.length → cs[11 + cno (qc s i) * 2]? = some (.int .i64 (befV s i).1) ∧ cs[11 + cno (qc s i) * 2 + 1]? = some (.int .i64 (befV s i).2)
  vB : B ≤ v
  gB : B ≤ g
  kl : k ≤ s.length
section
variable {B v k g m fi : Nat} {u u' : World} {tv : Value} {s : Qu} {cs rs : Array Value} {V : Nat → Nat}
theorem Sea.next (h : Sea B u v tv s k g cs rs m fi V) (hb : Below u.heap.size u u') : Sea B u' v tv s k g cs rs m fi V :=
  ⟨h.rq.frm hb, h.tab, h.vis, h.bits, h.small, h.par, h.bef, h.vB, h.gB, h.kl⟩
theorem Sea.srs (h : Sea B u v tv s k g cs rs m fi V) : SrS cs tv V (if m = 0 then .slice none 0 0 else .slice (some ⟨g, 0, none⟩) m m) fi ((s.map Prod.fst).drop k).length :=
  ⟨h.rq.size, h.tab, h.rq.rng, h.rq.fst, h.rq.cnt, h.vis⟩
theorem befV_app (hp : ∀ i, i < s.length → (qb s i).toNat < s.length) (x : C2 × Int) {i : Nat} (hi : i < s.length) : befV (s ++ [x]) i = befV s i := by
  unfold befV
  rw [qb_app hi, qc_app hi, qc_app (hp i hi)]
theorem Sea.has (h : Sea B u v tv s k g cs rs m fi V) (X Y : Nat) (hX : X < 20) (hY : Y < 20) : (V ((X * 20 + Y) / 64)).testBit ((X * 20 + Y) % 64) = decide (Has s ((X : Int), (Y : Int))) :=
  h.bits.has h.small (c := ((X : Int), (Y : Int))) ⟨by simp only; omega, by simp only; omega, by simp only; omega, by simp only; omega⟩
/-- What visit leaves in the search's block, the queue aside. -/
def befC (cs : Array Value) (V : Nat → Nat) (n : Nat) (p : C2) : Array Value :=
  ((cs.setIfInBounds (4 + n / 64) (.int .u64 (setB V n (n / 64) : Int))).setIfInBounds (11 + n * 2) (.int .i64 p.1)).setIfInBounds (11 + n * 2 + 1) (.int .i64 p.2)
theorem Sea.push {cs' rs' : Array Value} {g' m' fi' X Y : Nat} (h : Sea B u v tv s k g cs rs m fi V) (hX : X < 20) (hY : Y < 20) (hn : ¬ Has s ((X : Int), (Y : Int))) (j : Int) (p : C2) (hj : befV (s ++ [(((X : Int), (Y : Int)), j)]) s.length = p) (hj2 : j.toNat ≤ s.length)
    (hq : RQ u' v cs' ((s.map Prod.fst).drop k ++ [((X : Int), (Y : Int))]) g' rs' m' fi') (hc : ∀ i, i = 0 ∨ 4 ≤ i → cs'[i]? = (befC cs V (X * 20 + Y) p)[i]?) (hg : B ≤ g') :
    Sea B u' v tv (s ++ [(((X : Int), (Y : Int)), j)]) k g' cs' rs' m' fi' (setB V (X * 20 + Y)) := by
  have hsz := h.rq.size
  have hno : X * 20 + Y < 400 := by omega
  have hsm : smC ((X : Int), (Y : Int)) := ⟨by simp only; omega, by simp only; omega, by simp only; omega, by simp only; omega⟩
  have hcn : cno ((X : Int), (Y : Int)) = X * 20 + Y := by simp [cno]
  refine ⟨?_, ?_, fun q hq7 => ?_, ?_, fun i hi => ?_, fun i hi => ?_, fun i hi => ?_, h.vB, hg, by have := h.kl; simp; omega⟩
  · rw [List.map_append, List.drop_append_of_le_length (by have := h.kl; simp; omega)]
    exact hq
  · rw [hc 0 (by omega)]
    unfold befC
    rw [Array.getElem?_setIfInBounds_ne (by omega), Array.getElem?_setIfInBounds_ne (by omega), Array.getElem?_setIfInBounds_ne (by omega)]
    exact h.tab
  · rw [hc (4 + q) (by omega)]
    unfold befC
    rw [Array.getElem?_setIfInBounds_ne (by omega), Array.getElem?_setIfInBounds_ne (by omega)]
    by_cases e : q = (X * 20 + Y) / 64
    · subst e
      rw [Array.getElem?_setIfInBounds_self_of_lt (by omega)]
    · rw [Array.getElem?_setIfInBounds_ne (by omega), h.vis q hq7]
      unfold setB
      rw [if_neg e]
  · have hb := h.bits.add (c := ((X : Int), (Y : Int))) j
    rw [hcn] at hb
    exact hb
  · by_cases e : i < s.length
    · rw [qc_app e]; exact h.small i e
    · obtain rfl : i = s.length := by simp at hi; omega
      rw [qc_last]; exact hsm
  · by_cases e : i < s.length
    · rw [qb_app e]; have := h.par i e; simp; omega
    · obtain rfl : i = s.length := by simp at hi; omega
      rw [qb_last]; simp; omega
  · rw [hc _ (by omega), hc _ (by omega)]
    unfold befC
    by_cases e : i < s.length
    · rw [qc_app e, befV_app h.par _ e]
      have hne : cno (qc s i) ≠ X * 20 + Y := fun q => hn ⟨i, e, cno_inj (h.small i e) hsm (by rw [q, hcn])⟩
      have hlt := cno_lt (h.small i e)
      rw [Array.getElem?_setIfInBounds_ne (by omega), Array.getElem?_setIfInBounds_ne (by omega), Array.getElem?_setIfInBounds_ne (by omega), Array.getElem?_setIfInBounds_ne (by omega), Array.getElem?_setIfInBounds_ne (by omega), Array.getElem?_setIfInBounds_ne (by omega)]
      exact h.bef i e
    · obtain rfl : i = s.length := by simp at hi; omega
      rw [qc_last, hj, hcn, Array.getElem?_setIfInBounds_ne (by omega), Array.getElem?_setIfInBounds_self_of_lt (by simp; omega), Array.getElem?_setIfInBounds_self_of_lt (by simp; omega)]
      exact ⟨rfl, rfl⟩
end
set_option maxHeartbeats 4000000 in
theorem visitNo (B v k g m fi : Nat) (a : Option Addr) (len cap : Nat) (T : List (List Bool)) (s : Qu) (cs rs : Array Value) (V : Nat → Nat) (cx cy : Int) (p : C2) (w : World) (h : Sea B w v (.slice a len cap) s k g cs rs m fi V) (hT : Bol.RSA w a len T) (hl : len ≤ 9223372036854775807) (hs : squV T) (hn : Has s (cx, cy) ∨ freeV T (cx, cy) = false) :
    Calls Tryz.prog 46 #[.pointer (some ⟨v, 0, none⟩), pt cx cy, pt p.1 p.2] w fun e w' => e = .returned (.tuple #[]) ∧ Below w.heap.size w w' := by
  by_cases hf : freeV T (cx, cy) = true
  rotate_left
  · have hf' : freeV T (cx, cy) = false := by simpa using hf
    have B0 := below_box2 w (.cells #[.int .i64 cx, .int .i64 cy] 37) (.cells #[.int .i64 p.1, .int .i64 p.2] 37)
    have HB := Lib.hid B0
    have HS := Lib.hid (h.next B0)
    have HT := Lib.hid (hT.next B0)
    have HX := Lib.hid ((Blk.new w #[.int .i64 cx, .int .i64 cy] 37).alloc (.cells #[.int .i64 p.1, .int .i64 p.2] 37))
    have HP0 := Blk.new (w.alloc (.cells #[.int .i64 cx, .int .i64 cy] 37)) #[.int .i64 p.1, .int .i64 p.2] 37
    rw [show (w.alloc (.cells #[.int .i64 cx, .int .i64 cy] 37)).heap.size = w.heap.size + 1 by simp] at HP0
    have HP := Lib.hid HP0
    have HVG := Lib.hid (And.intro h.rq.blk.lt h.rq.glt)
    clear B0 HP0 h hT
    go_enter Tryz.func46, Tryz.ntmps46
    go_upto_region 1 with fail
    generalize (w.alloc (.cells #[.int .i64 cx, .int .i64 cy] 37)).alloc (.cells #[.int .i64 p.1, .int .i64 p.2] 37) = w0 at *
    have u0 := HX.out.kept 0 rfl
    have u1 := HX.out.kept 1 rfl
    have u2 := HS.out.rq.blk.kept 0 HS.out.tab
    have HF := Lib.hid (fun (q : Kept w0) => keptCall (isFreeC a len cap T cx cy q.u (HT.out.next q.b) hl))
    rw [hf'] at HF
    clear hf hf'
    refine wp_region_kept (by kernel_rfl) (by kernel_rfl) ?_
    repeat (go_big_quiet_step ((go_at_call 25; with_reducible exact HF.out _)))
    refine wpQuiet_nil ?_
    rintro w1 ⟨⟨_, K1⟩, rfl⟩
    have HB1 := Lib.hid (below_call HB.out K1)
    clear K1 u0 u1 u2 HF
    go_wp2
    exact bodyPost_ret (v := .tuple #[]) (by simp [results, Tryz.results46, go_sem]) rfl ⟨rfl, HB1.out⟩
  · obtain ⟨h1, h2, h3, h4⟩ := freeV_small hs hf
    simp only at h1 h2 h3 h4
    obtain ⟨X, rfl⟩ := Int.eq_ofNat_of_zero_le h1
    obtain ⟨Y, rfl⟩ := Int.eq_ofNat_of_zero_le h3
    have hX : X < 20 := by omega
    have hY : Y < 20 := by omega
    have hh : Has s ((X : Int), (Y : Int)) := by
      rcases hn with q | q
      · exact q
      · rw [hf] at q; cases q
    clear h1 h2 h3 h4 hn
    have B0 := below_box2 w (.cells #[.int .i64 (X : Int), .int .i64 (Y : Int)] 37) (.cells #[.int .i64 p.1, .int .i64 p.2] 37)
    have HB := Lib.hid B0
    have HS := Lib.hid (h.next B0)
    have HT := Lib.hid (hT.next B0)
    have HX := Lib.hid ((Blk.new w #[.int .i64 (X : Int), .int .i64 (Y : Int)] 37).alloc (.cells #[.int .i64 p.1, .int .i64 p.2] 37))
    have HP0 := Blk.new (w.alloc (.cells #[.int .i64 (X : Int), .int .i64 (Y : Int)] 37)) #[.int .i64 p.1, .int .i64 p.2] 37
    rw [show (w.alloc (.cells #[.int .i64 (X : Int), .int .i64 (Y : Int)] 37)).heap.size = w.heap.size + 1 by simp] at HP0
    have HP := Lib.hid HP0
    have HVG := Lib.hid (And.intro h.rq.blk.lt h.rq.glt)
    clear B0 HP0 h hT
    go_enter Tryz.func46, Tryz.ntmps46
    go_upto_region 1 with fail
    generalize (w.alloc (.cells #[.int .i64 (X : Int), .int .i64 (Y : Int)] 37)).alloc (.cells #[.int .i64 p.1, .int .i64 p.2] 37) = w0 at *
    have u0 := HX.out.kept 0 rfl
    have u1 := HX.out.kept 1 rfl
    have u2 := HS.out.rq.blk.kept 0 HS.out.tab
    have HF := Lib.hid (fun (q : Kept w0) => keptCall (isFreeC a len cap T (X : Int) (Y : Int) q.u (HT.out.next q.b) hl))
    have HH := Lib.hid (fun (q : Kept w0) => keptCall (setHas v cs _ _ V fi _ X Y hX hY q.u (HS.out.rq.blk.next q.b) HS.out.srs HS.out.bits.1))
    rw [hf] at HF
    rw [HS.out.has X Y hX hY, decide_eq_true hh] at HH
    clear hf hh
    refine wp_region_kept (by kernel_rfl) (by kernel_rfl) ?_
    repeat (go_big_quiet_step (first | (go_at_call 25; with_reducible exact HF.out _) | (go_at_call 47; with_reducible exact HH.out _)))
    refine wpQuiet_nil ?_
    rintro w1 ⟨⟨_, K1⟩, rfl⟩
    have HB1 := Lib.hid (below_call HB.out K1)
    clear K1 u0 u1 u2 HF HH
    go_wp2
    exact bodyPost_ret (v := .tuple #[]) (by simp [results, Tryz.results46, go_sem]) rfl ⟨rfl, HB1.out⟩
/-- What a visit of a new cell leaves. -/
def Visited (B v : Nat) (tv : Value) (s : Qu) (k g : Nat) (w : World) (e : Ending) (w' : World) : Prop :=
  e = .returned (.tuple #[]) ∧ ∃ (cs' : Array Value) (g' : Nat) (rs' : Array Value) (m' fi' : Nat) (V' : Nat → Nat), Sea B w' v tv s k g' cs' rs' m' fi' V' ∧ Frm v g w w' ∧ (g' = g ∨ w.heap.size ≤ g')
set_option maxHeartbeats 4000000 in
theorem visitYes (B v k g m fi : Nat) (a : Option Addr) (len cap : Nat) (T : List (List Bool)) (s : Qu) (cs rs : Array Value) (V : Nat → Nat) (X Y : Nat) (j : Int) (p : C2) (w : World) (h : Sea B w v (.slice a len cap) s k g cs rs m fi V) (hT : Bol.RSA w a len T) (hl : len ≤ 9223372036854775807) (hlen : s.length ≤ 400) (hX : X < 20) (hY : Y < 20) (hf : freeV T ((X : Int), (Y : Int)) = true) (hn : ¬ Has s ((X : Int), (Y : Int)))
    (hj : befV (s ++ [(((X : Int), (Y : Int)), j)]) s.length = p) (hj2 : j.toNat ≤ s.length) (hBw : B ≤ w.heap.size) :
    Calls Tryz.prog 46 #[.pointer (some ⟨v, 0, none⟩), pt (X : Int) (Y : Int), pt p.1 p.2] w (Visited B v (.slice a len cap) (s ++ [(((X : Int), (Y : Int)), j)]) k g w) := by
  unfold Visited
  have HJ := Lib.hid (And.intro hj hj2)
  have HNH := Lib.hid hn
  have hpl : ((s.map Prod.fst).drop k).length ≤ 400 := by simp; omega
  clear hj hj2
  have B0 := below_box2 w (.cells #[.int .i64 (X : Int), .int .i64 (Y : Int)] 37) (.cells #[.int .i64 p.1, .int .i64 p.2] 37)
  have HB := Lib.hid B0
  have HS := Lib.hid (h.next B0)
  have HT := Lib.hid (hT.next B0)
  have HX := Lib.hid ((Blk.new w #[.int .i64 (X : Int), .int .i64 (Y : Int)] 37).alloc (.cells #[.int .i64 p.1, .int .i64 p.2] 37))
  have HP0 := Blk.new (w.alloc (.cells #[.int .i64 (X : Int), .int .i64 (Y : Int)] 37)) #[.int .i64 p.1, .int .i64 p.2] 37
  rw [show (w.alloc (.cells #[.int .i64 (X : Int), .int .i64 (Y : Int)] 37)).heap.size = w.heap.size + 1 by simp] at HP0
  have HP := Lib.hid HP0
  have HVG := Lib.hid (And.intro h.rq.blk.lt h.rq.glt)
  clear B0 HP0 h hT
  go_enter Tryz.func46, Tryz.ntmps46
  go_upto_region 1 with fail
  generalize (w.alloc (.cells #[.int .i64 (X : Int), .int .i64 (Y : Int)] 37)).alloc (.cells #[.int .i64 p.1, .int .i64 p.2] 37) = w0 at *
  have u0 := HX.out.kept 0 rfl
  have u1 := HX.out.kept 1 rfl
  have u2 := HS.out.rq.blk.kept 0 HS.out.tab
  have HF := Lib.hid (fun (q : Kept w0) => keptCall (isFreeC a len cap T (X : Int) (Y : Int) q.u (HT.out.next q.b) hl))
  have HH := Lib.hid (fun (q : Kept w0) => keptCall (setHas v cs _ _ V fi _ X Y hX hY q.u (HS.out.rq.blk.next q.b) HS.out.srs HS.out.bits.1))
  rw [hf] at HF
  rw [HS.out.has X Y hX hY, decide_eq_false hn] at HH
  clear hf hn
  refine wp_region_kept (by kernel_rfl) (by kernel_rfl) ?_
  repeat (go_big_quiet_step (first | (go_at_call 25; with_reducible exact HF.out _) | (go_at_call 47; with_reducible exact HH.out _)))
  refine wpQuiet_nil ?_
  rintro w1 ⟨⟨_, K1⟩, rfl⟩
  have HF1 := Lib.hid ((Frm.of_below HB.out : Frm v g _ _).trans (Frm.of_below K1 : Frm v g _ _) (.inl rfl))
  have HS1 := Lib.hid (HS.out.next K1)
  have HX1 := Lib.hid (HX.out.next K1)
  have HP1 := Lib.hid (HP.out.next K1)
  clear K1 u0 u1 u2 HF HH HS HX HP HT
  go_upto_region 2 with fail
  have u0 := HX1.out.kept 0 rfl
  have u1 := HX1.out.kept 1 rfl
  refine wp_region_ktail 4 (by kernel_rfl) (by kernel_rfl) ?_
  simp only [List.take_succ_cons, List.take_zero, List.drop_succ_cons, List.drop_zero]
  repeat (go_big_quiet_step (fail))
  refine wpQuiet_nil ?_
  rintro w2 ⟨⟨_, K2⟩, rfl⟩
  have HF2 := Lib.hid (HF1.out.trans (Frm.of_below K2 : Frm v g _ _) (.inl rfl))
  have HS2 := Lib.hid (HS1.out.next K2)
  have HX2 := Lib.hid (HX1.out.next K2)
  have HP2 := Lib.hid (HP1.out.next K2)
  clear K2 u0 u1 HF1 HS1 HX1 HP1
  go_wp2_with fail
  refine (setAdd v cs _ _ V fi _ X Y hX hY _ HS2.out.rq.blk HS2.out.srs HS2.out.bits.1).mono ?_
  rintro e w3 ⟨rfl, BL3, G3⟩
  have HF3 := Lib.hid (HF2.out.trans (Frm.of_v G3 : Frm v g _ _) (.inl rfl))
  have HBL3 := Lib.hid BL3
  have HX3 := Lib.hid (HX2.out.row G3 (by have := HVG.out.1; intro q; injection q; omega))
  have HP3 := Lib.hid (HP2.out.row G3 (by have := HVG.out.1; intro q; injection q; omega))
  have HR3 := Lib.hid (fun (q : m ≠ 0) => (HS2.out.rq.ring q).1.row G3 (by have := (HS2.out.rq.ring q).2.2; intro e; injection e; omega))
  clear BL3 G3 HF2 HX2 HP2
  go_upto_region 3 with fail
  have x0 : (0 : Int) ≤ (X : Int) := by omega
  have x1 : (X : Int) < 20 := by omega
  have x2 : (0 : Int) ≤ (Y : Int) := by omega
  have x3 : (Y : Int) < 20 := by omega
  have u0 := HX3.out.kept 0 rfl
  have u1 := HX3.out.kept 1 rfl
  have u2 := HP3.out.kept 0 rfl
  have u3 := HP3.out.kept 1 rfl
  refine wp_region_ktail 9 (by kernel_rfl) (by kernel_rfl) ?_
  simp only [List.take_succ_cons, List.take_zero, List.drop_succ_cons, List.drop_zero]
  repeat (go_big_quiet_step (fail))
  refine wpQuiet_nil ?_
  rintro w4 ⟨⟨_, K4⟩, rfl⟩
  have HBL4 := Lib.hid (HBL3.out.next K4)
  have HF4 := Lib.hid (HF3.out.trans (Frm.of_below K4 : Frm v g _ _) (.inl rfl))
  have HX4 := Lib.hid (HX3.out.next K4)
  have HR4 := Lib.hid (fun q => (HR3.out q).next K4)
  clear K4 u0 u1 u2 u3 HF3 HBL3 HX3 HP3 HR3
  obtain ⟨y0, hy0⟩ : ∃ y, (cs.setIfInBounds (4 + (X * 20 + Y) / 64) (.int .u64 (setB V (X * 20 + Y) ((X * 20 + Y) / 64) : Int)))[11 + X * 40 + Y * 2]? = some y := ⟨_, Array.getElem?_eq_getElem (by have := HS2.out.rq.size; simp; omega)⟩
  obtain ⟨y1, hy1⟩ : ∃ y, (cs.setIfInBounds (4 + (X * 20 + Y) / 64) (.int .u64 (setB V (X * 20 + Y) ((X * 20 + Y) / 64) : Int)))[11 + X * 40 + Y * 2 + 1]? = some y := ⟨_, Array.getElem?_eq_getElem (by have := HS2.out.rq.size; simp; omega)⟩
  have d0 := HBL4.out.cell _ hy0
  have d1 := HBL4.out.frozen (11 + X * 40 + Y * 2)
  have d2 := HBL4.out.cell _ hy1
  have d3 := HBL4.out.frozen (11 + X * 40 + Y * 2 + 1)
  have HX5 := Lib.hid ((HX4.out.other (c := v) (by have := HVG.out.1; omega) (i := 11 + X * 40 + Y * 2) (.int .i64 p.1)).other (c := v) (by have := HVG.out.1; omega) (i := 11 + X * 40 + Y * 2 + 1) (.int .i64 p.2))
  have HF5 := Lib.hid ((HF4.out.set v (.inl rfl) (11 + X * 40 + Y * 2) (.int .i64 p.1)).set v (.inl rfl) (11 + X * 40 + Y * 2 + 1) (.int .i64 p.2))
  have HQ5 := Lib.hid (show RQ ((w4.setCell ⟨v, 11 + X * 40 + Y * 2, none⟩ (.int .i64 p.1)).setCell ⟨v, 11 + X * 40 + Y * 2 + 1, none⟩ (.int .i64 p.2)) v (befC cs V (X * 20 + Y) p) ((s.map Prod.fst).drop k) g rs m fi from
    HS2.out.rq.swap (by unfold befC; rw [show 11 + (X * 20 + Y) * 2 = 11 + X * 40 + Y * 2 by omega]; exact (HBL4.out.set _ _).set _ _) (by unfold befC; simp [HS2.out.rq.size]) (fun i hi => by unfold befC; rw [Array.getElem?_setIfInBounds_ne (by omega), Array.getElem?_setIfInBounds_ne (by omega), Array.getElem?_setIfInBounds_ne (by omega)])
      (fun q => ((HR4.out q).other (HS2.out.rq.ring q).2.2 _).other (HS2.out.rq.ring q).2.2 _) (Nat.lt_of_lt_of_le HVG.out.2 HF5.out.size))
  clear hy0 hy1 HR4 HBL4 HX4 HF4
  go_upto_region 4 with fail
  clear d0 d1 d2 d3
  generalize (w4.setCell ⟨v, 11 + X * 40 + Y * 2, none⟩ (.int .i64 p.1)).setCell ⟨v, 11 + X * 40 + Y * 2 + 1, none⟩ (.int .i64 p.2) = w5 at *
  have u0 := HX5.out.kept 0 rfl
  have u1 := HX5.out.kept 1 rfl
  refine wp_region_ktail 4 (by kernel_rfl) (by kernel_rfl) ?_
  simp only [List.take_succ_cons, List.take_zero, List.drop_succ_cons, List.drop_zero]
  repeat (go_big_quiet_step (fail))
  refine wpQuiet_nil ?_
  rintro w6 ⟨⟨_, K6⟩, rfl⟩
  have HF6 := Lib.hid (HF5.out.trans (Frm.of_below K6 : Frm v g _ _) (.inl rfl))
  have HQ6 := Lib.hid (HQ5.out.frm K6)
  clear K6 u0 u1 HF5 HQ5 HX5
  go_wp2_with fail
  refine (queueAdd v (befC cs V (X * 20 + Y) p) ((s.map Prod.fst).drop k) ((X : Int), (Y : Int)) g rs m fi _ HQ6.out hpl).mono ?_
  rintro e w7 hA
  obtain ⟨rfl, cs', g', rs', m', fi', hq, hc, F7, hg'⟩ := hA
  have HEND := Lib.hid (show ∃ (cs' : Array Value) (g' : Nat) (rs' : Array Value) (m' fi' : Nat) (V' : Nat → Nat), Sea B w7 v (.slice a len cap) (s ++ [(((X : Int), (Y : Int)), j)]) k g' cs' rs' m' fi' V' ∧ Frm v g w w7 ∧ (g' = g ∨ w.heap.size ≤ g') from
    have hs6 := HF6.out.size
    have hg2 : g' = g ∨ w.heap.size ≤ g' := by omega
    ⟨cs', g', rs', m', fi', _, HS2.out.push hX hY HNH.out j p HJ.out.1 HJ.out.2 hq hc (by have := HS2.out.gB; omega), HF6.out.trans F7 (.inl rfl), hg2⟩)
  clear hq hc F7 hg'
  go_wp2
  go_end0
  exact ⟨rfl, HEND.out⟩
end Go.Proofs.YtkogoflcacameaaGreatDoor
