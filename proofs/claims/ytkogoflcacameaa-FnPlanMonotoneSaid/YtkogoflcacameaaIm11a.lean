/- The program's set of bits: place, has, add. -/
import Derived.Test.YtkogoflcacameaaPv11
import Derived.StillTailTactics
namespace Go.Proofs.Ytkogoflcacameaa
set_option maxRecDepth 100000
open Go.RowKit
attribute [local go_sem ↓] Go.wp_at_zero Go.wp_at_succ
theorem two64 {n : Nat} (h : n < 64) : 2 ^ n < 18446744073709551616 := by
  have := Nat.pow_lt_pow_right (a := 2) (by omega) h
  omega
set_option maxHeartbeats 2000000 in
theorem placeC (p : Option Addr) (X Y n bt : Nat) (hX : X < 20) (hY : Y < 20) (hn : X * 20 + Y = n) (hbt : 2 ^ (n % 64) = bt) (w : World) :
    Calls Try.prog 69 #[.pointer p, pt (X : Int) (Y : Int)] w fun e w' => e = .returned (.tuple #[.int .i64 ((n / 64 : Nat) : Int), .int .u64 (bt : Int)]) ∧ Below w.heap.size w w' := by
  have HB := Lib.hid (below_box w (.cells #[.int .i64 (X : Int), .int .i64 (Y : Int)] 33))
  have hn4 : n < 400 := by omega
  have o1 : IntKind.i64.wrap ((X : Int) * 20) = (X : Int) * 20 := wrap_in (by omega) (by omega)
  have o2 : IntKind.i64.wrap ((X : Int) * 20 + (Y : Int)) = (n : Int) := by rw [show (X : Int) * 20 + (Y : Int) = (n : Int) by omega]; exact wrap_in (by omega) (by omega)
  have o2' : (X : Int) * 20 + (Y : Int) = (n : Int) := by omega
  have o5 : IntKind.u64.wrap ((2 : Int) ^ (n % 64)) = (bt : Int) := by
    have h1 := two64 (n := n % 64) (by omega)
    have e : ((2 : Int) ^ (n % 64)) = ((2 ^ (n % 64) : Nat) : Int) := by simp
    rw [e, hbt, IntKind.wrap_u64]
    rw [hbt] at h1
    omega
  have HN := Lib.hid hn
  clear hn hbt
  go_enter Try.func69, Try.ntmps69
  go_upto_region 2 with fail
  refine wp_region_kept (by kernel_rfl) (by kernel_rfl) ?_
  repeat (go_big_quiet_step (fail))
  refine wpQuiet_nil ?_
  rintro w5 ⟨⟨_, K2⟩, rfl⟩
  have HB5 := Lib.hid (below_call HB.out K2)
  clear K2
  go_wp2
  exact bodyPost_ret (v := .tuple #[.int .i64 (((n / 64 : Nat) : Int)), .int .u64 (bt : Int)]) (by simp [results, Try.results69, go_sem, o5]) rfl ⟨rfl, HB5.out⟩
/-- The program's search lies in block v. -/
structure SrS (cs : Array Value) (tv : Value) (V : Nat → Nat) (rv : Value) (fi co : Nat) : Prop where
  size : cs.size = 811
  tab : cs[0]? = some tv
  rng : cs[1]? = some rv
  fst : cs[2]? = some (.int .i64 (fi : Int))
  cnt : cs[3]? = some (.int .i64 (co : Int))
  vis : ∀ q, q < 7 → cs[4 + q]? = some (.int .u64 (V q : Int))
theorem SrS.some {cs : Array Value} {tv rv : Value} {V : Nat → Nat} {fi co : Nat} (h : SrS cs tv V rv fi co) {i : Nat} (hi : i < 811) : ∃ x, cs[i]? = Option.some x :=
  ⟨cs[i]'(by rw [h.size]; exact hi), Array.getElem?_eq_getElem _⟩
set_option maxHeartbeats 2000000 in
theorem setHas (v : Nat) (cs : Array Value) (tv rv : Value) (V : Nat → Nat) (fi co X Y : Nat) (hX : X < 20) (hY : Y < 20) (w : World) (hb : Blk w v cs 77) (hs : SrS cs tv V rv fi co) (hV : ∀ q, q < 7 → V q < 18446744073709551616) :
    Calls Try.prog 60 #[.pointer (some ⟨v, 4, none⟩), pt (X : Int) (Y : Int)] w fun e w' => e = .returned (.bool ((V ((X * 20 + Y) / 64)).testBit ((X * 20 + Y) % 64))) ∧ Below w.heap.size w w' := by
  have HB := Lib.hid (below_box w (.cells #[.int .i64 (X : Int), .int .i64 (Y : Int)] 33))
  obtain ⟨n, hn⟩ : ∃ n, X * 20 + Y = n := ⟨_, rfl⟩
  obtain ⟨bt, hbt⟩ : ∃ bt, 2 ^ (n % 64) = bt := ⟨_, rfl⟩
  obtain ⟨q, hq⟩ : ∃ q, n / 64 = q := ⟨_, rfl⟩
  have hq7 : q < 7 := by omega
  have HPL := Lib.hid (placeC (some ⟨v, 4, none⟩) X Y n bt hX hY hn hbt (w.alloc (.cells #[.int .i64 (X : Int), .int .i64 (Y : Int)] 33)))
  rw [hn, hq]
  rw [hq] at HPL
  obtain ⟨z, hz⟩ : ∃ z, V q = z := ⟨_, rfl⟩
  have hz64 : z < 18446744073709551616 := by rw [← hz]; exact hV q hq7
  have hbt64 : bt < 18446744073709551616 := by rw [← hbt]; exact two64 (by omega)
  have hcq := hs.vis q hq7
  rw [hz] at hcq ⊢
  have HCQ := Lib.hid (And.intro hb hcq)
  have e1 : bits .and .u64 (z : Int) (bt : Int) = ((z &&& bt : Nat) : Int) := u64_and_nat z bt hz64 hbt64
  have HV := Lib.hid (show (((z &&& bt : Nat) : Int) != 0) = z.testBit (n % 64) by rw [← hbt]; exact and_bit z (n % 64))
  have q0 : (0 : Int) ≤ (q : Int) := by omega
  have q1 : (q : Int) < 7 := by omega
  clear hn hbt hq hz hcq hb hs hV hX hY
  generalize z.testBit (n % 64) = r at *
  generalize z &&& bt = zb at *
  go_enter Try.func60, Try.ntmps60
  go_wp2_with fail
  refine HPL.out.mono ?_
  rintro e w1 ⟨rfl, B1⟩
  have HB1 := Lib.hid (below_call HB.out B1)
  have hc := (HCQ.out.1.next HB1.out).cell (4 + q) HCQ.out.2
  clear B1 HPL
  go_wp2
  go_ret
  exact ⟨ret_bool HV.out, HB1.out⟩
theorem setV (V : Nat → Nat) (n : Nat) : setB V n (n / 64) = V (n / 64) ||| 2 ^ (n % 64) := if_pos rfl
set_option maxHeartbeats 2000000 in
theorem setAdd (v : Nat) (cs : Array Value) (tv rv : Value) (V : Nat → Nat) (fi co X Y : Nat) (hX : X < 20) (hY : Y < 20) (w : World) (hb : Blk w v cs 77) (hs : SrS cs tv V rv fi co) (hV : ∀ q, q < 7 → V q < 18446744073709551616) :
    Calls Try.prog 67 #[.pointer (some ⟨v, 4, none⟩), pt (X : Int) (Y : Int)] w fun e w' => e = .returned (.tuple #[]) ∧ Blk w' v (cs.setIfInBounds (4 + (X * 20 + Y) / 64) (.int .u64 (setB V (X * 20 + Y) ((X * 20 + Y) / 64) : Int))) 77 ∧ w.grownBy w' (some v) := by
  have HB := Lib.hid (below_box w (.cells #[.int .i64 (X : Int), .int .i64 (Y : Int)] 33))
  obtain ⟨n, hn⟩ : ∃ n, X * 20 + Y = n := ⟨_, rfl⟩
  obtain ⟨bt, hbt⟩ : ∃ bt, 2 ^ (n % 64) = bt := ⟨_, rfl⟩
  obtain ⟨q, hq⟩ : ∃ q, n / 64 = q := ⟨_, rfl⟩
  have hq7 : q < 7 := by omega
  have HPL := Lib.hid (placeC (some ⟨v, 4, none⟩) X Y n bt hX hY hn hbt (w.alloc (.cells #[.int .i64 (X : Int), .int .i64 (Y : Int)] 33)))
  rw [hn]
  have hsv := setV V n
  rw [hq] at HPL hsv ⊢
  rw [hbt] at hsv
  rw [hsv]
  obtain ⟨z, hz⟩ : ∃ z, V q = z := ⟨_, rfl⟩
  have hz64 : z < 18446744073709551616 := by rw [← hz]; exact hV q hq7
  have hbt64 : bt < 18446744073709551616 := by rw [← hbt]; exact two64 (by omega)
  have hcq := hs.vis q hq7
  rw [hz] at hcq ⊢
  have HCQ := Lib.hid (And.intro hb hcq)
  have e1 : bits .or .u64 (z : Int) (bt : Int) = ((z ||| bt : Nat) : Int) := u64_or_nat z bt hz64 hbt64
  have q0 : (0 : Int) ≤ (q : Int) := by omega
  have q1 : (q : Int) < 7 := by omega
  clear hn hbt hq hz hcq hb hs hV hX hY hsv
  generalize z ||| bt = zb at *
  go_enter Try.func67, Try.ntmps67
  go_wp2_with fail
  refine HPL.out.mono ?_
  rintro e w1 ⟨rfl, B1⟩
  have HB1 := Lib.hid (below_call HB.out B1)
  have HBK := Lib.hid (HCQ.out.1.next HB1.out)
  clear B1 HPL
  go_upto_region 2 with fail
  have u0 := HBK.out.kept (4 + q) HCQ.out.2
  refine wp_region_ktail 8 (by kernel_rfl) (by kernel_rfl) ?_
  simp only [List.take_succ_cons, List.take_zero, List.drop_succ_cons, List.drop_zero]
  repeat (go_big_quiet_step (fail))
  refine wpQuiet_nil ?_
  rintro w2 ⟨⟨_, K2⟩, rfl⟩
  have HB2 := Lib.hid (below_call HB1.out K2)
  have HK2 := Lib.hid (HBK.out.next K2)
  have d0 := HK2.out.cell (4 + q) HCQ.out.2
  have d1 := HK2.out.frozen (4 + q)
  clear u0 K2
  go_wp2
  go_end0
  exact ⟨rfl, HK2.out.set (4 + q) _, ⟨HB2.out.os, HB2.out.tape, HB2.out.output, by simpa [World.setCell] using HB2.out.size, fun k hk hne => (Below.heap_setCell _ _ _ k (by simpa using fun q => hne (by rw [q]))).trans (HB2.out.block k hk)⟩⟩
end Go.Proofs.Ytkogoflcacameaa
