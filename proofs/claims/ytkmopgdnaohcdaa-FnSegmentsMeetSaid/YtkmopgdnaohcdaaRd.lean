/- The reader from which the laws draw their inputs: what opening it and picking a number from it do, at every code. -/
import Derived.Test.YtkmopgdnaohcdaaRows
import Derived.WalkKit
import Derived.ProofKit
import Derived.Outline
import Derived.IntWalk
import Derived.Lib.Hide
import Derived.Below
import Derived.OwnWalk
import Derived.Deep.QuietTactic
import Derived.BigQuiet
import Derived.Deep.AppendLies
import Derived.Maps.AppendAt
import Derived.Deep.RegionHeld
import Derived.OpenShut
namespace Go.Proofs.Ytkmopgdnaohcdaa
set_option maxRecDepth 100000
open Go.RowKit

/-- The bytes of a slice that lies below block B: the first len of them can be read. -/
def Code (B : Nat) (w : World) (a : Option Addr) (len : Nat) : Prop :=
  len = 0 ∨ ∃ b off, a = some ⟨b, off, none⟩ ∧ b < B ∧ ∀ i, i < len → ∃ z : Int, 0 ≤ z ∧ z ≤ 255 ∧ w.cell? ⟨b, off + i, none⟩ = some (.int .u8 z)

/-- A reader in block r, not below block B, that has been asked at most M times. -/
structure Rd (B M : Nat) (w : World) (r : Nat) : Prop where
  ge : B ≤ r
  lt : r < w.heap.size
  ex : ∃ (a : Option Addr) (len cap p : Nat), len ≤ 2000 ∧ p ≤ M ∧ w.cell? ⟨r, 0, none⟩ = some (.slice a len cap) ∧ w.cell? ⟨r, 1, none⟩ = some (.int .i64 p) ∧ w.frozen? ⟨r, 1, none⟩ = false ∧ Code B w a len

theorem Code.below {B : Nat} {w w' : World} {a : Option Addr} {len : Nat} (h : Code B w a len) (hb : ∀ x : Addr, x.block < B → w'.cell? x = w.cell? x) : Code B w' a len := by
  rcases h with h | ⟨b, off, rfl, hlt, hc⟩
  · exact .inl h
  · refine .inr ⟨b, off, rfl, hlt, fun i hi => ?_⟩
    obtain ⟨z, h0, h1, hz⟩ := hc i hi
    exact ⟨z, h0, h1, by rw [hb _ hlt]; exact hz⟩

/-- What a pick says: a number below n, the reader asked once more, nothing else changed. -/
def Picked (B M r : Nat) (n : Int) (w : World) (e : Ending) (w' : World) : Prop :=
  ∃ x : Int, 0 ≤ x ∧ (1 ≤ n → x < n) ∧ e = .returned (.int .i64 x) ∧ Rd B (M + 1) w' r ∧ w.grownBy w' (some r) ∧ w'.heap.size = w.heap.size

theorem rd_step {B M r : Nat} {w : World} (hr : Rd B M w r) {a : Option Addr} {len cap p : Nat} (m : Nat) (hlen : len ≤ 2000) (hp : p ≤ M) (h0 : w.cell? ⟨r, 0, none⟩ = some (.slice a len cap))
    (h1 : w.cell? ⟨r, 1, none⟩ = some (.int .i64 p)) (hf : w.frozen? ⟨r, 1, none⟩ = false) (hc : Code B w a len) :
    Rd B (M + 1) ((w.setCell ⟨r, 1, none⟩ (.int .i64 ((p : Int) + 1))).drewN m) r ∧ w.grownBy ((w.setCell ⟨r, 1, none⟩ (.int .i64 ((p : Int) + 1))).drewN m) (some r) ∧
    ((w.setCell ⟨r, 1, none⟩ (.int .i64 ((p : Int) + 1))).drewN m).heap.size = w.heap.size := by
  have hg : w.grownBy ((w.setCell ⟨r, 1, none⟩ (.int .i64 ((p : Int) + 1))).drewN m) (some r) :=
    ⟨rfl, rfl, rfl, by simp [World.setCell], fun i hi hne => Below.heap_setCell w _ _ i (by rintro rfl; exact hne rfl)⟩
  refine ⟨⟨hr.ge, by simpa [World.setCell] using hr.lt, a, len, cap, p + 1, hlen, by omega, ?_, ?_, ?_, ?_⟩, hg, by simp [World.setCell]⟩
  · exact (World.cell?_setCell_other _ _ _ _ (by simp)).trans h0
  · exact World.cell?_setCell_same _ _ _ h1
  · exact (World.frozen?_setCell _ _ _ _).trans hf
  · exact hc.below fun x hx => hg.cell_far x (by have := hr.ge; have := hr.lt; omega) (by have := hr.ge; intro e; injection e with e; omega)
theorem pick_zero (B M r : Nat) (n : Int) (w : World) (hr : Rd B M w r) (hM : M ≤ 1000000) (hn : n < 1) :
    Calls Try.prog 66 #[.pointer (some ⟨r, 0, none⟩), .int .i64 n] w (Picked B M r n w) := by
  obtain ⟨a, len, cap, p, hlen, hp, h0, h1, hf, hc⟩ := hr.ex
  have HS := Lib.hid (fun m => rd_step hr m hlen hp h0 h1 hf hc)
  clear hr hc
  go_enter Try.func66, Try.ntmps66
  go_wp2
  go_ret
  exact ⟨0, by omega, by omega, rfl, HS.out 0⟩
theorem pick_none (B M r : Nat) (n : Int) (w : World) (hr : Rd B M w r) (hM : M ≤ 1000000) (hn : 1 ≤ n) (a : Option Addr) (cap p : Nat) (hp : p ≤ M)
    (h0 : w.cell? ⟨r, 0, none⟩ = some (.slice a 0 cap)) (h1 : w.cell? ⟨r, 1, none⟩ = some (.int .i64 p)) (hf : w.frozen? ⟨r, 1, none⟩ = false) (hc : Code B w a 0) :
    Calls Try.prog 66 #[.pointer (some ⟨r, 0, none⟩), .int .i64 n] w (Picked B M r n w) := by
  have HS := Lib.hid (fun m => rd_step hr m (by omega) hp h0 h1 hf hc)
  clear hr hc
  go_enter Try.func66, Try.ntmps66
  go_wp2
  go_ret
  exact ⟨0, by omega, by omega, rfl, HS.out 0⟩
theorem pick_byte (B M r : Nat) (n : Int) (w : World) (hr : Rd B M w r) (hM : M ≤ 1000000) (hn : 1 ≤ n) (b off len cap p : Nat) (hlen : len ≤ 2000) (hp : p ≤ M)
    (h0 : w.cell? ⟨r, 0, none⟩ = some (.slice (some ⟨b, off, none⟩) len cap)) (h1 : w.cell? ⟨r, 1, none⟩ = some (.int .i64 p)) (hf : w.frozen? ⟨r, 1, none⟩ = false) (hc : Code B w (some ⟨b, off, none⟩) len)
    (hlt : p < len) (z : Int) (hz0 : 0 ≤ z) (hz1 : z ≤ 255) (hz : w.cell? ⟨b, off + p, none⟩ = some (.int .u8 z)) (hbr : b ≠ r) :
    Calls Try.prog 66 #[.pointer (some ⟨r, 0, none⟩), .int .i64 n] w (Picked B M r n w) := by
  have HS := Lib.hid (fun m => rd_step hr m hlen hp h0 h1 hf hc)
  clear hr hc
  have hl0 : ((len : Int) == 0) = false := by simp; omega
  have hn0 : (n == 0) = false := by simp; omega
  go_enter Try.func66, Try.ntmps66
  go_wp2
  go_ret
  exact ⟨z % n, Int.emod_nonneg _ (by omega), fun _ => Int.emod_lt_of_pos _ (by omega), rfl, HS.out 0⟩
theorem xor_nonneg (x y : Int) (hx0 : 0 ≤ x) (hx1 : x ≤ 1000000000) (hy0 : 0 ≤ y) (hy1 : y ≤ 1000000000) : 0 ≤ bits .xor .i64 x y := by
  have h : ∀ u : Int, 0 ≤ u → u ≤ 1000000000 → (BitVec.ofInt 64 u).toNat < 2 ^ 30 := by
    intro u h0 h1
    rw [BitVec.toNat_ofInt]; omega
  have e : (BitVec.ofInt 64 x ^^^ BitVec.ofInt 64 y).toNat < 2 ^ 30 := by
    rw [BitVec.toNat_xor]; exact Nat.xor_lt_two_pow (h x hx0 hx1) (h y hy0 hy1)
  show 0 ≤ IntKind.i64.wrap ((BitVec.ofInt 64 x ^^^ BitVec.ofInt 64 y).toNat : Int)
  rw [IntWalk.i64_in _ (by omega)]; omega
theorem pick_far (B M r : Nat) (n : Int) (w : World) (hr : Rd B M w r) (hM : M ≤ 1000000) (hn : 1 ≤ n) (b off len cap p k1 k2 q : Nat) (hlen : len ≤ 2000) (hp : p ≤ M)
    (h0 : w.cell? ⟨r, 0, none⟩ = some (.slice (some ⟨b, off, none⟩) len cap)) (h1 : w.cell? ⟨r, 1, none⟩ = some (.int .i64 p)) (hf : w.frozen? ⟨r, 1, none⟩ = false) (hc : Code B w (some ⟨b, off, none⟩) len)
    (hpos : 0 < len) (hge : len ≤ p) (hk1 : k1 = p % len) (hk2 : k2 = (p * 7 + 3) % len) (hq : q = p / len) (y : Int) (hy0 : 0 ≤ y) (hy1 : y ≤ 255) (hy : w.cell? ⟨b, off + k1, none⟩ = some (.int .u8 y))
    (z : Int) (hz0 : 0 ≤ z) (hz1 : z ≤ 255) (hz : w.cell? ⟨b, off + k2, none⟩ = some (.int .u8 z)) (hbr : b ≠ r) :
    Calls Try.prog 66 #[.pointer (some ⟨r, 0, none⟩), .int .i64 n] w (Picked B M r n w) := by
  have HS := Lib.hid (fun m => rd_step hr m hlen hp h0 h1 hf hc)
  clear hr hc
  have hl0 : ((len : Int) == 0) = false := by simp; omega
  have hne : ¬ len = 0 := by omega
  have hn0 : (n == 0) = false := by simp; omega
  have hb1 : k1 < len := by rw [hk1]; exact Nat.mod_lt _ hpos
  have hb2 : k2 < len := by rw [hk2]; exact Nat.mod_lt _ hpos
  have hb3 : q ≤ p := by rw [hq]; exact Nat.div_le_self _ _
  have hz3 : (0 : Int) ≤ (k1 : Int) := by omega
  have hz4 : (0 : Int) ≤ (k2 : Int) := by omega
  have hz5 : (k1 : Int) < (len : Int) := by omega
  have hz6 : (k2 : Int) < (len : Int) := by omega
  have e1 : (p : Int).tmod (len : Int) = (k1 : Int) := by rw [hk1]; rfl
  have e4 : ((p : Int) * 7 + 3).tmod (len : Int) = (k2 : Int) := by rw [hk2]; rfl
  have e5 : IntKind.i64.wrap ((p : Int).tdiv (len : Int)) = (q : Int) := by
    rw [show (p : Int).tdiv (len : Int) = (q : Int) by rw [hq]; rfl]; exact IntWalk.i64_in _ (by omega)
  have e15 : (p : Int) / (len : Int) = (q : Int) := by rw [hq]; rfl
  have e16 : IntKind.i64.wrap (q : Int) = (q : Int) := IntWalk.i64_in _ (by omega)
  have e2 : IntKind.i64.wrap ((p : Int) * 7) = (p : Int) * 7 := IntWalk.i64_in _ (by omega)
  have e3 : IntKind.i64.wrap ((p : Int) * 7 + 3) = (p : Int) * 7 + 3 := IntWalk.i64_in _ (by omega)
  have e6 : IntKind.i64.wrap y = y := IntWalk.i64_in _ (by omega)
  have e7 : IntKind.i64.wrap z = z := IntWalk.i64_in _ (by omega)
  have e8 : IntKind.i64.wrap (y * 131) = y * 131 := IntWalk.i64_in _ (by omega)
  have e9 : IntKind.i64.wrap (z * 1117) = z * 1117 := IntWalk.i64_in _ (by omega)
  have e10 : IntKind.i64.wrap (y * 131 + z * 1117) = y * 131 + z * 1117 := IntWalk.i64_in _ (by omega)
  have e11 : IntKind.i64.wrap ((p : Int) * 29) = (p : Int) * 29 := IntWalk.i64_in _ (by omega)
  have e12 : IntKind.i64.wrap (y * 131 + z * 1117 + (p : Int) * 29) = y * 131 + z * 1117 + (p : Int) * 29 := IntWalk.i64_in _ (by omega)
  have e13 : IntKind.i64.wrap ((q : Int) * 53) = (q : Int) * 53 := IntWalk.i64_in _ (by omega)
  have e14 : IntKind.i64.wrap (y * 131 + z * 1117 + (p : Int) * 29 + (q : Int) * 53) = y * 131 + z * 1117 + (p : Int) * 29 + (q : Int) * 53 := IntWalk.i64_in _ (by omega)
  clear hk1 hk2 hq
  go_enter Try.func66, Try.ntmps66
  go_wp2
  go_quiet (fail)
  clear e1 e2 e3 e4 e5 e6 e7 e8 e9 e10 e11 e12 e13 e14 e15 e16
  have hx0 : 0 ≤ y * 131 + z * 1117 + (p : Int) * 29 + (q : Int) * 53 := by omega
  have hx1 : y * 131 + z * 1117 + (p : Int) * 29 + (q : Int) * 53 ≤ 1000000000 := by omega
  generalize y * 131 + z * 1117 + (p : Int) * 29 + (q : Int) * 53 = x at *
  have hx2 := xor_nonneg x (x / 64) hx0 hx1 (by omega) (by omega)
  go_wp2
  go_ret
  exact ⟨bits .xor .i64 x (x / 64) % n, Int.emod_nonneg _ (by omega), fun _ => Int.emod_lt_of_pos _ (by omega), rfl, HS.out nq⟩
theorem pick (B M r : Nat) (n : Int) (w : World) (hr : Rd B M w r) (hM : M ≤ 1000000) :
    Calls Try.prog 66 #[.pointer (some ⟨r, 0, none⟩), .int .i64 n] w (Picked B M r n w) := by
  by_cases hn : n < 1
  · exact pick_zero B M r n w hr hM hn
  · obtain ⟨a, len, cap, p, hlen, hp, h0, h1, hf, hc⟩ := hr.ex
    by_cases hl : len = 0
    · subst hl
      exact pick_none B M r n w hr hM (by omega) a cap p hp h0 h1 hf hc
    · rcases hc with h | ⟨b, off, rfl, hlt, hcell⟩
      · exact absurd h hl
      · have hc : Code B w (some ⟨b, off, none⟩) len := .inr ⟨b, off, rfl, hlt, hcell⟩
        have hbr : b ≠ r := by have := hr.ge; omega
        by_cases hpl : p < len
        · obtain ⟨z, hz0, hz1, hz⟩ := hcell p hpl
          exact pick_byte B M r n w hr hM (by omega) b off len cap p hlen hp h0 h1 hf hc hpl z hz0 hz1 hz hbr
        · obtain ⟨y, hy0, hy1, hy⟩ := hcell (p % len) (Nat.mod_lt _ (by omega))
          obtain ⟨z, hz0, hz1, hz⟩ := hcell ((p * 7 + 3) % len) (Nat.mod_lt _ (by omega))
          exact pick_far B M r n w hr hM (by omega) b off len cap p _ _ _ hlen hp h0 h1 hf hc (by omega) (by omega) rfl rfl rfl y hy0 hy1 hy z hz0 hz1 hz hbr
end Go.Proofs.Ytkmopgdnaohcdaa
