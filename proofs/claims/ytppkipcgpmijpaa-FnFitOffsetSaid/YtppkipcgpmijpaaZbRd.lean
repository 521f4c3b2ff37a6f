/- Several of my texts in one: Rd, Op, Draw2, Draw2b. -/
import Derived.Test.YtppkipcgpmijpaaRows
import Derived.WalkKit
import Derived.ProofKit
import Derived.Outline
import Derived.IntWalk
import Derived.Lib.Hide
import Derived.Below
import Derived.OwnWalk
import Derived.Deep.QuietTactic
import Derived.BigQuiet
import Derived.Deep.AppendLies
import Derived.Maps.AppendAt
import Derived.Deep.RegionHeld
import Derived.OpenShut
import Derived.Test.YtppkipcgpmijpaaZcPts
import Derived.Deep.RegionWith
import Derived.Deep.DrawnRows
import Derived.Deep.RegionHeld3
namespace Go.Proofs.Ytppkipcgpmijpaa
set_option maxRecDepth 100000
open Go.RowKit

/-- The bytes of a slice that lies below block B: the first len of them can be read. -/
def Code (B : Nat) (w : World) (a : Option Addr) (len : Nat) : Prop :=
  len = 0 ∨ ∃ b off, a = some ⟨b, off, none⟩ ∧ b < B ∧ ∀ i, i < len → ∃ z : Int, 0 ≤ z ∧ z ≤ 255 ∧ w.cell? ⟨b, off + i, none⟩ = some (.int .u8 z)

/-- A reader in block r, not below block B, that has been asked at most M times. -/
structure Rd (B M : Nat) (w : World) (r : Nat) : Prop where
  ge : B ≤ r
  lt : r < w.heap.size
  ex : ∃ (a : Option Addr) (len cap p : Nat), len ≤ 2000 ∧ p ≤ M ∧ w.cell? ⟨r, 0, none⟩ = some (.slice a len cap) ∧ w.cell? ⟨r, 1, none⟩ = some (.int .i64 p) ∧ w.frozen? ⟨r, 1, none⟩ = false ∧ Code B w a len

theorem Code.below {B : Nat} {w w' : World} {a : Option Addr} {len : Nat} (h : Code B w a len) (hb : ∀ x : Addr, x.block < B → w'.cell? x = w.cell? x) : Code B w' a len := by
  rcases h with h | ⟨b, off, rfl, hlt, hc⟩
  · exact .inl h
  · refine .inr ⟨b, off, rfl, hlt, fun i hi => ?_⟩
    obtain ⟨z, h0, h1, hz⟩ := hc i hi
    exact ⟨z, h0, h1, by rw [hb _ hlt]; exact hz⟩

/-- What a pick says: a number below n, the reader asked once more, nothing else changed. -/
def Picked (B M r : Nat) (n : Int) (w : World) (e : Ending) (w' : World) : Prop :=
  ∃ x : Int, 0 ≤ x ∧ (1 ≤ n → x < n) ∧ e = .returned (.int .i64 x) ∧ Rd B (M + 1) w' r ∧ w.grownBy w' (some r) ∧ w'.heap.size = w.heap.size

theorem rd_step {B M r : Nat} {w : World} (hr : Rd B M w r) {a : Option Addr} {len cap p : Nat} (m : Nat) (hlen : len ≤ 2000) (hp : p ≤ M) (h0 : w.cell? ⟨r, 0, none⟩ = some (.slice a len cap))
    (h1 : w.cell? ⟨r, 1, none⟩ = some (.int .i64 p)) (hf : w.frozen? ⟨r, 1, none⟩ = false) (hc : Code B w a len) :
    Rd B (M + 1) ((w.setCell ⟨r, 1, none⟩ (.int .i64 ((p : Int) + 1))).drewN m) r ∧ w.grownBy ((w.setCell ⟨r, 1, none⟩ (.int .i64 ((p : Int) + 1))).drewN m) (some r) ∧
    ((w.setCell ⟨r, 1, none⟩ (.int .i64 ((p : Int) + 1))).drewN m).heap.size = w.heap.size := by
  have hg : w.grownBy ((w.setCell ⟨r, 1, none⟩ (.int .i64 ((p : Int) + 1))).drewN m) (some r) :=
    ⟨rfl, rfl, rfl, by simp [World.setCell], fun i hi hne => Below.heap_setCell w _ _ i (by rintro rfl; exact hne rfl)⟩
  refine ⟨⟨hr.ge, by simpa [World.setCell] using hr.lt, a, len, cap, p + 1, hlen, by omega, ?_, ?_, ?_, ?_⟩, hg, by simp [World.setCell]⟩
  · exact (World.cell?_setCell_other _ _ _ _ (by simp)).trans h0
  · exact World.cell?_setCell_same _ _ _ h1
  · exact (World.frozen?_setCell _ _ _ _).trans hf
  · exact hc.below fun x hx => hg.cell_far x (by have := hr.ge; have := hr.lt; omega) (by have := hr.ge; intro e; injection e with e; omega)
theorem pick_zero (B M r : Nat) (n : Int) (w : World) (hr : Rd B M w r) (hM : M ≤ 1000000) (hn : n < 1) :
    Calls Try.prog 45 #[.pointer (some ⟨r, 0, none⟩), .int .i64 n] w (Picked B M r n w) := by
  obtain ⟨a, len, cap, p, hlen, hp, h0, h1, hf, hc⟩ := hr.ex
  have HS := Lib.hid (fun m => rd_step hr m hlen hp h0 h1 hf hc)
  clear hr hc
  go_enter Try.func45, Try.ntmps45
  go_wp2
  go_ret
  exact ⟨0, by omega, by omega, rfl, HS.out 0⟩
theorem pick_none (B M r : Nat) (n : Int) (w : World) (hr : Rd B M w r) (hM : M ≤ 1000000) (hn : 1 ≤ n) (a : Option Addr) (cap p : Nat) (hp : p ≤ M)
    (h0 : w.cell? ⟨r, 0, none⟩ = some (.slice a 0 cap)) (h1 : w.cell? ⟨r, 1, none⟩ = some (.int .i64 p)) (hf : w.frozen? ⟨r, 1, none⟩ = false) (hc : Code B w a 0) :
    Calls Try.prog 45 #[.pointer (some ⟨r, 0, none⟩), .int .i64 n] w (Picked B M r n w) := by
  have HS := Lib.hid (fun m => rd_step hr m (by omega) hp h0 h1 hf hc)
  clear hr hc
  go_enter Try.func45, Try.ntmps45
  go_wp2
  go_ret
  exact ⟨0, by omega, by omega, rfl, HS.out 0⟩
theorem pick_byte (B M r : Nat) (n : Int) (w : World) (hr : Rd B M w r) (hM : M ≤ 1000000) (hn : 1 ≤ n) (b off len cap p : Nat) (hlen : len ≤ 2000) (hp : p ≤ M)
    (h0 : w.cell? ⟨r, 0, none⟩ = some (.slice (some ⟨b, off, none⟩) len cap)) (h1 : w.cell? ⟨r, 1, none⟩ = some (.int .i64 p)) (hf : w.frozen? ⟨r, 1, none⟩ = false) (hc : Code B w (some ⟨b, off, none⟩) len)
    (hlt : p < len) (z : Int) (hz0 : 0 ≤ z) (hz1 : z ≤ 255) (hz : w.cell? ⟨b, off + p, none⟩ = some (.int .u8 z)) (hbr : b ≠ r) :
    Calls Try.prog 45 #[.pointer (some ⟨r, 0, none⟩), .int .i64 n] w (Picked B M r n w) := by
  have HS := Lib.hid (fun m => rd_step hr m hlen hp h0 h1 hf hc)
  clear hr hc
  have hl0 : ((len : Int) == 0) = false := by simp; omega
  have hn0 : (n == 0) = false := by simp; omega
  go_enter Try.func45, Try.ntmps45
  go_wp2
  go_ret
  exact ⟨z % n, Int.emod_nonneg _ (by omega), fun _ => Int.emod_lt_of_pos _ (by omega), rfl, HS.out 0⟩
theorem xor_nonneg (x y : Int) (hx0 : 0 ≤ x) (hx1 : x ≤ 1000000000) (hy0 : 0 ≤ y) (hy1 : y ≤ 1000000000) : 0 ≤ bits .xor .i64 x y := by
  have h : ∀ u : Int, 0 ≤ u → u ≤ 1000000000 → (BitVec.ofInt 64 u).toNat < 2 ^ 30 := by
    intro u h0 h1
    rw [BitVec.toNat_ofInt]; omega
  have e : (BitVec.ofInt 64 x ^^^ BitVec.ofInt 64 y).toNat < 2 ^ 30 := by
    rw [BitVec.toNat_xor]; exact Nat.xor_lt_two_pow (h x hx0 hx1) (h y hy0 hy1)
  show 0 ≤ IntKind.i64.wrap ((BitVec.ofInt 64 x ^^^ BitVec.ofInt 64 y).toNat : Int)
  rw [IntWalk.i64_in _ (by omega)]; omega
theorem pick_far (B M r : Nat) (n : Int) (w : World) (hr : Rd B M w r) (hM : M ≤ 1000000) (hn : 1 ≤ n) (b off len cap p k1 k2 q : Nat) (hlen : len ≤ 2000) (hp : p ≤ M)
    (h0 : w.cell? ⟨r, 0, none⟩ = some (.slice (some ⟨b, off, none⟩) len cap)) (h1 : w.cell? ⟨r, 1, none⟩ = some (.int .i64 p)) (hf : w.frozen? ⟨r, 1, none⟩ = false) (hc : Code B w (some ⟨b, off, none⟩) len)
    (hpos : 0 < len) (hge : len ≤ p) (hk1 : k1 = p % len) (hk2 : k2 = (p * 7 + 3) % len) (hq : q = p / len) (y : Int) (hy0 : 0 ≤ y) (hy1 : y ≤ 255) (hy : w.cell? ⟨b, off + k1, none⟩ = some (.int .u8 y))
    (z : Int) (hz0 : 0 ≤ z) (hz1 : z ≤ 255) (hz : w.cell? ⟨b, off + k2, none⟩ = some (.int .u8 z)) (hbr : b ≠ r) :
    Calls Try.prog 45 #[.pointer (some ⟨r, 0, none⟩), .int .i64 n] w (Picked B M r n w) := by
  have HS := Lib.hid (fun m => rd_step hr m hlen hp h0 h1 hf hc)
  clear hr hc
  have hl0 : ((len : Int) == 0) = false := by simp; omega
  have hne : ¬ len = 0 := by omega
  have hn0 : (n == 0) = false := by simp; omega
  have hb1 : k1 < len := by rw [hk1]; exact Nat.mod_lt _ hpos
  have hb2 : k2 < len := by rw [hk2]; exact Nat.mod_lt _ hpos
  have hb3 : q ≤ p := by rw [hq]; exact Nat.div_le_self _ _
  have hz3 : (0 : Int) ≤ (k1 : Int) := by omega
  have hz4 : (0 : Int) ≤ (k2 : Int) := by omega
  have hz5 : (k1 : Int) < (len : Int) := by omega
  have hz6 : (k2 : Int) < (len : Int) := by omega
  have e1 : (p : Int).tmod (len : Int) = (k1 : Int) := by rw [hk1]; rfl
  have e4 : ((p : Int) * 7 + 3).tmod (len : Int) = (k2 : Int) := by rw [hk2]; rfl
  have e5 : IntKind.i64.wrap ((p : Int).tdiv (len : Int)) = (q : Int) := by
    rw [show (p : Int).tdiv (len : Int) = (q : Int) by rw [hq]; rfl]; exact IntWalk.i64_in _ (by omega)
  have e15 : (p : Int) / (len : Int) = (q : Int) := by rw [hq]; rfl
  have e16 : IntKind.i64.wrap (q : Int) = (q : Int) := IntWalk.i64_in _ (by omega)
  have e2 : IntKind.i64.wrap ((p : Int) * 7) = (p : Int) * 7 := IntWalk.i64_in _ (by omega)
  have e3 : IntKind.i64.wrap ((p : Int) * 7 + 3) = (p : Int) * 7 + 3 := IntWalk.i64_in _ (by omega)
  have e6 : IntKind.i64.wrap y = y := IntWalk.i64_in _ (by omega)
  have e7 : IntKind.i64.wrap z = z := IntWalk.i64_in _ (by omega)
  have e8 : IntKind.i64.wrap (y * 131) = y * 131 := IntWalk.i64_in _ (by omega)
  have e9 : IntKind.i64.wrap (z * 1117) = z * 1117 := IntWalk.i64_in _ (by omega)
  have e10 : IntKind.i64.wrap (y * 131 + z * 1117) = y * 131 + z * 1117 := IntWalk.i64_in _ (by omega)
  have e11 : IntKind.i64.wrap ((p : Int) * 29) = (p : Int) * 29 := IntWalk.i64_in _ (by omega)
  have e12 : IntKind.i64.wrap (y * 131 + z * 1117 + (p : Int) * 29) = y * 131 + z * 1117 + (p : Int) * 29 := IntWalk.i64_in _ (by omega)
  have e13 : IntKind.i64.wrap ((q : Int) * 53) = (q : Int) * 53 := IntWalk.i64_in _ (by omega)
  have e14 : IntKind.i64.wrap (y * 131 + z * 1117 + (p : Int) * 29 + (q : Int) * 53) = y * 131 + z * 1117 + (p : Int) * 29 + (q : Int) * 53 := IntWalk.i64_in _ (by omega)
  clear hk1 hk2 hq
  go_enter Try.func45, Try.ntmps45
  go_wp2
  go_quiet (fail)
  clear e1 e2 e3 e4 e5 e6 e7 e8 e9 e10 e11 e12 e13 e14 e15 e16
  have hx0 : 0 ≤ y * 131 + z * 1117 + (p : Int) * 29 + (q : Int) * 53 := by omega
  have hx1 : y * 131 + z * 1117 + (p : Int) * 29 + (q : Int) * 53 ≤ 1000000000 := by omega
  generalize y * 131 + z * 1117 + (p : Int) * 29 + (q : Int) * 53 = x at *
  have hx2 := xor_nonneg x (x / 64) hx0 hx1 (by omega) (by omega)
  go_wp2
  go_ret
  exact ⟨bits .xor .i64 x (x / 64) % n, Int.emod_nonneg _ (by omega), fun _ => Int.emod_lt_of_pos _ (by omega), rfl, HS.out nq⟩
theorem pick (B M r : Nat) (n : Int) (w : World) (hr : Rd B M w r) (hM : M ≤ 1000000) :
    Calls Try.prog 45 #[.pointer (some ⟨r, 0, none⟩), .int .i64 n] w (Picked B M r n w) := by
  by_cases hn : n < 1
  · exact pick_zero B M r n w hr hM hn
  · obtain ⟨a, len, cap, p, hlen, hp, h0, h1, hf, hc⟩ := hr.ex
    by_cases hl : len = 0
    · subst hl
      exact pick_none B M r n w hr hM (by omega) a cap p hp h0 h1 hf hc
    · rcases hc with h | ⟨b, off, rfl, hlt, hcell⟩
      · exact absurd h hl
      · have hc : Code B w (some ⟨b, off, none⟩) len := .inr ⟨b, off, rfl, hlt, hcell⟩
        have hbr : b ≠ r := by have := hr.ge; omega
        by_cases hpl : p < len
        · obtain ⟨z, hz0, hz1, hz⟩ := hcell p hpl
          exact pick_byte B M r n w hr hM (by omega) b off len cap p hlen hp h0 h1 hf hc hpl z hz0 hz1 hz hbr
        · obtain ⟨y, hy0, hy1, hy⟩ := hcell (p % len) (Nat.mod_lt _ (by omega))
          obtain ⟨z, hz0, hz1, hz⟩ := hcell ((p * 7 + 3) % len) (Nat.mod_lt _ (by omega))
          exact pick_far B M r n w hr hM (by omega) b off len cap p _ _ _ hlen hp h0 h1 hf hc (by omega) (by omega) rfl rfl rfl y hy0 hy1 hy z hz0 hz1 hz hbr
end Go.Proofs.Ytppkipcgpmijpaa
namespace Go.Proofs.Ytppkipcgpmijpaa
set_option maxRecDepth 100000
open Go.RowKit

theorem Rd.alloc {B M : Nat} {w : World} {r : Nat} (h : Rd B M w r) (o : Obj) : Rd B M (w.alloc o) r := by
  obtain ⟨a, len, cap, p, hlen, hp, h0, h1, hf, hc⟩ := h.ex
  have hlt := h.lt
  have hge := h.ge
  refine ⟨hge, by simp; omega, a, len, cap, p, hlen, hp, ?_, ?_, ?_, ?_⟩
  · rw [World.cell?_alloc_past _ _ _ hlt]; exact h0
  · rw [World.cell?_alloc_past _ _ _ hlt]; exact h1
  · rw [World.frozen?_of_block (w := w) (Below.heap_alloc w o r hlt)]; exact hf
  · exact hc.below fun x hx => World.cell?_alloc_lt _ _ _ (by omega)
theorem Rd.mono {B M M' : Nat} {w : World} {r : Nat} (h : Rd B M w r) (hM : M ≤ M') : Rd B M' w r := by
  obtain ⟨a, len, cap, p, hlen, hp, h0, h1, hf, hc⟩ := h.ex
  exact ⟨h.ge, h.lt, a, len, cap, p, hlen, by omega, h0, h1, hf, hc⟩
theorem only_alloc {a w : World} {row : Option Nat} (h : a.grownBy w row) (o : Obj) : a.grownBy (w.alloc o) row :=
  ⟨h.os, h.tape, h.output, Nat.le_trans h.size (by simp), fun i hi hne => (Below.heap_alloc w o i (Nat.lt_of_lt_of_le hi h.size)).trans (h.block i hi hne)⟩
theorem Rd.drew {B M : Nat} {w : World} {r : Nat} (h : Rd B M w r) : Rd B M w.drew r := by
  obtain ⟨a, len, cap, p, hlen, hp, h0, h1, hf, hc⟩ := h.ex
  exact ⟨h.ge, h.lt, a, len, cap, p, hlen, by omega, h0, h1, hf, hc⟩
theorem only_drew {a w : World} {row : Option Nat} (h : a.grownBy w row) : a.grownBy w.drew row := ⟨h.os, h.tape, h.output, h.size, h.block⟩
/-- What a law is told of the bytes that it draws from. -/
def Bytes (w : World) (a : Option Addr) (len cap : Nat) (zs : List Int) : Prop :=
  (a = none ∧ len = 0 ∧ cap = 0 ∧ zs = []) ∨
  ∃ x, a = some x ∧ len ≤ cap ∧ cap ≤ maxLen ∧ zs.length = cap ∧ (∀ i, i < zs.length → w.cell? (x.add i) = some (.int .u8 (zs.getD i 0))) ∧ ∀ n ∈ zs, (Lit.int .u8 n).wf = true
theorem Bytes.below {w w' : World} {a : Option Addr} {len cap : Nat} {zs : List Int} (h : Bytes w a len cap zs) (hb : Below w.heap.size w w') : Bytes w' a len cap zs := by
  rcases h with h | ⟨x, rfl, hl, hm, hz, hcell, hwz⟩
  · exact .inl h
  · refine .inr ⟨x, rfl, hl, hm, hz, fun i hi => ?_, hwz⟩
    have := hcell i hi
    rw [hb.cell (World.block_lt_of_cell? w _ this)]; exact this
theorem Bytes.len_le {w : World} {a : Option Addr} {len cap : Nat} {zs : List Int} (h : Bytes w a len cap zs) : len ≤ cap ∧ cap ≤ maxLen := by
  rcases h with ⟨rfl, rfl, rfl, rfl⟩ | ⟨x, rfl, hl, hm, hz, hcell, hwz⟩
  · exact ⟨Nat.le_refl _, Nat.zero_le _⟩
  · exact ⟨hl, hm⟩
theorem Bytes.code {w : World} {a : Option Addr} {len cap : Nat} {zs : List Int} (h : Bytes w a len cap zs) (k : Nat) (hk : k ≤ len) : Code w.heap.size w a k := by
  by_cases hk0 : k = 0
  · exact .inl hk0
  rcases h with ⟨rfl, rfl, rfl, rfl⟩ | ⟨⟨b, off, spot⟩, rfl, hl, hm, hz, hcell, hwz⟩
  · exact .inl (by omega)
  · have hc := hcell 0 (by omega)
    have hspot : spot = none := by simpa [Addr.add] using World.cell?_spot hc
    subst hspot
    refine .inr ⟨b, off, rfl, ?_, fun i hi => ?_⟩
    · exact World.block_lt_of_cell? w ⟨b, off + 0, none⟩ (by simpa [Addr.add] using hc)
    · have hi' : i < zs.length := by omega
      have hw := bounds_u8 (hwz (zs.getD i 0) (by rw [List.getD_eq_getElem?_getD, List.getElem?_eq_getElem hi']; exact List.getElem_mem hi'))
      exact ⟨zs.getD i 0, hw.1, hw.2, by
        have := hcell i hi'
        by_cases h0 : i = 0
        · subst h0; simpa [Addr.add] using this
        · simpa [Addr.add, h0] using this⟩
/-- What opening a reader says. -/
def Opened (w : World) (e : Ending) (w' : World) : Prop :=
  e = .returned (.pointer (some ⟨w.heap.size, 0, none⟩)) ∧ Rd w.heap.size 0 w' w.heap.size ∧ Below w.heap.size w w' ∧ w'.heap.size = w.heap.size + 1
theorem opened {w : World} {a : Option Addr} {len cap t : Nat} (hc : Code w.heap.size w a len) (hl : len ≤ 2000) :
    Rd w.heap.size 0 (w.alloc (.cells #[.slice a len cap, .int .i64 0] t)) w.heap.size ∧ Below w.heap.size w (w.alloc (.cells #[.slice a len cap, .int .i64 0] t)) ∧
    (w.alloc (.cells #[.slice a len cap, .int .i64 0] t)).heap.size = w.heap.size + 1 := by
  refine ⟨⟨Nat.le_refl _, by simp, a, len, cap, 0, hl, Nat.le_refl _, ?_, ?_, ?_, ?_⟩, (Below.refl _ _).alloc (Nat.le_refl _) _, by simp⟩
  · simp
  · simp
  · exact World.frozen?_alloc_at _ _ _ _ rfl
  · exact hc.below fun x hx => World.cell?_alloc_lt _ _ _ hx
theorem open_code (w : World) (a : Option Addr) (len cap : Nat) (zs : List Int) (h : Bytes w a len cap zs) :
    Calls Try.prog 36 #[.slice a len cap] w (Opened w) := by
  have hle := h.len_le
  obtain ⟨hl, hm⟩ := hle
  unfold maxLen at hm
  by_cases h2 : 2000 < len
  · have HS := Lib.hid (opened (cap := cap) (t := 60) (h.code 2000 (by omega)) (Nat.le_refl _))
    clear h
    go_enter Try.func36, Try.ntmps36
    go_wp2
    go_ret
    exact ⟨rfl, HS.out⟩
  · have HS := Lib.hid (opened (cap := cap) (t := 60) (h.code len (Nat.le_refl _)) (by omega))
    clear h
    go_enter Try.func36, Try.ntmps36
    go_wp2
    go_ret
    exact ⟨rfl, HS.out⟩
end Go.Proofs.Ytppkipcgpmijpaa
namespace Go.Proofs.Ytppkipcgpmijpaa
set_option maxRecDepth 100000
open Go.RowKit
attribute [local go_sem ↓] Go.wp_at_zero Go.wp_at_succ

/-- What 'odd' says. -/
def Odd (B M r : Nat) (w : World) (e : Ending) (w' : World) : Prop :=
  ∃ b : Bool, e = .returned (.bool b) ∧ Rd B (M + 1) w' r ∧ w.grownBy w' (some r) ∧ w'.heap.size = w.heap.size
theorem odd (B M r : Nat) (n : Int) (w : World) (hr : Rd B M w r) (hM : M ≤ 1000000) (h0 : 0 < n) (h1 : n ≤ 1000000) :
    Calls Try.prog 46 #[.pointer (some ⟨r, 0, none⟩), .int .i64 n] w (Odd B M r w) := by
  go_enter Try.func46, Try.ntmps46
  go_wp2_with fail
  refine (pick B M r n _ hr hM).mono ?_
  rintro e w1 ⟨x, a1, b1, rfl, hr1, hg1, hs1⟩
  have HS := Lib.hid (And.intro hr1 (And.intro hg1 hs1))
  clear hr1 hg1 hs1 hr b1
  go_wp2
  go_ret
  exact ⟨_, rfl, HS.out⟩
/-- What a draw of a point says: its coordinates are small. -/
def DrawnP (B M r : Nat) (w : World) (e : Ending) (w' : World) : Prop :=
  ∃ x y : Int, -10001 ≤ x ∧ x ≤ 10001 ∧ -10001 ≤ y ∧ y ≤ 10001 ∧ e = .returned (pt x y) ∧ Rd B M w' r ∧ w.grownBy w' (some r)
theorem Rd.set {B M : Nat} {w : World} {r : Nat} (h : Rd B M w r) {b o : Nat} (hb : b ≠ r) (hB : B ≤ b) (v : Value) : Rd B M (w.setCell ⟨b, o, none⟩ v) r := by
  obtain ⟨a, len, cap, p, hlen, hp, h0, h1, hf, hc⟩ := h.ex
  refine ⟨h.ge, by simpa [World.setCell] using h.lt, a, len, cap, p, hlen, hp, ?_, ?_, ?_, ?_⟩
  · rw [World.cell?_setCell_far _ _ _ _ hb]; exact h0
  · rw [World.cell?_setCell_far _ _ _ _ hb]; exact h1
  · exact (World.frozen?_setCell _ _ _ _).trans hf
  · exact hc.below fun x hx => World.cell?_setCell_far _ _ _ _ (by simp; omega)
theorem only_set {a w : World} {row : Option Nat} (h : a.grownBy w row) {b o : Nat} (hb : a.heap.size ≤ b) (v : Value) : a.grownBy (w.setCell ⟨b, o, none⟩ v) row :=
  ⟨h.os, h.tape, h.output, by simpa [World.setCell] using h.size, fun i hi hne => (Below.heap_setCell w _ _ i (by simp; omega)).trans (h.block i hi hne)⟩
theorem OwnP.grown {w w' : World} {b r : Nat} {x y : Int} (h : OwnP w b x y) (hg : w.grownBy w' (some r)) (hb : b ≠ r) : OwnP w' b x y :=
  ⟨⟨Nat.lt_of_lt_of_le h.lt hg.size, (hg.cell_far ⟨b, 0, none⟩ h.lt (by simpa using hb)).trans h.c0, (hg.cell_far ⟨b, 1, none⟩ h.lt (by simpa using hb)).trans h.c1⟩,
    (World.frozen?_of_block (w := w) (a := ⟨b, 0, none⟩) (hg.block b h.lt (by simpa using hb))).trans h.z0,
    (World.frozen?_of_block (w := w) (a := ⟨b, 1, none⟩) (hg.block b h.lt (by simpa using hb))).trans h.z1⟩
theorem OwnP.far {w : World} {b c o : Nat} {x y : Int} (h : OwnP w b x y) (hc : c ≠ b) (v : Value) : OwnP (w.setCell ⟨c, o, none⟩ v) b x y :=
  ⟨⟨by simpa [World.setCell] using h.lt, (World.cell?_setCell_far _ _ _ _ hc).trans h.c0, (World.cell?_setCell_far _ _ _ _ hc).trans h.c1⟩, (World.frozen?_setCell _ _ _ _).trans h.z0, (World.frozen?_setCell _ _ _ _).trans h.z1⟩
theorem OwnP.put0 {w : World} {b : Nat} {x y : Int} (h : OwnP w b x y) (u : Int) : OwnP (w.setCell ⟨b, 0, none⟩ (.int .i64 u)) b u y :=
  ⟨⟨by simpa [World.setCell] using h.lt, World.cell?_setCell_same _ _ _ h.c0, (World.cell?_setCell_other _ _ _ _ (by simp)).trans h.c1⟩, (World.frozen?_setCell _ _ _ _).trans h.z0, (World.frozen?_setCell _ _ _ _).trans h.z1⟩
theorem OwnP.put1 {w : World} {b : Nat} {x y : Int} (h : OwnP w b x y) (u : Int) : OwnP (w.setCell ⟨b, 1, none⟩ (.int .i64 u)) b x u :=
  ⟨⟨by simpa [World.setCell] using h.lt, (World.cell?_setCell_other _ _ _ _ (by simp)).trans h.c0, World.cell?_setCell_same _ _ _ h.c1⟩, (World.frozen?_setCell _ _ _ _).trans h.z0, (World.frozen?_setCell _ _ _ _).trans h.z1⟩
theorem OwnP.alloc {w : World} {b : Nat} {x y : Int} (h : OwnP w b x y) (o : Obj) : OwnP (w.alloc o) b x y := h.next (below_box w o)
/-- What the walk of l20Point holds between its picks. -/
structure PtSt (B M r : Nat) (w0 : World) (b : Nat) (w : World) (x y : Int) : Prop where
  rd : Rd B M w r
  gr : w0.grownBy w (some r)
  res : OwnP w w0.heap.size 0 0
  var : OwnP w b x y
theorem PtSt.pick {B M r b : Nat} {w0 w w' : World} {x y : Int} (h : PtSt B M r w0 b w x y) (hr : Rd B (M + 1) w' r) (hg : w.grownBy w' (some r)) (h1 : w0.heap.size ≠ r) (h2 : b ≠ r) : PtSt B (M + 1) r w0 b w' x y :=
  ⟨hr, h.gr.trans hg, h.res.grown hg h1, h.var.grown hg h2⟩
theorem PtSt.put {B M r b : Nat} {w0 w : World} {x y : Int} (h : PtSt B M r w0 b w x y) (h1 : b ≠ r) (h2 : b ≠ w0.heap.size) (h3 : B ≤ b) (h4 : w0.heap.size ≤ b) (u v : Int) :
    PtSt B M r w0 b ((w.setCell ⟨b, 0, none⟩ (.int .i64 u)).setCell ⟨b, 1, none⟩ (.int .i64 v)) u v :=
  ⟨(h.rd.set h1 h3 _).set h1 h3 _, only_set (only_set h.gr h4 _) h4 _, (h.res.far h2 _).far h2 _, (h.var.put0 u).put1 v⟩
theorem PtSt.put0 {B M r b : Nat} {w0 w : World} {x y : Int} (h : PtSt B M r w0 b w x y) (h1 : b ≠ r) (h2 : b ≠ w0.heap.size) (h3 : B ≤ b) (h4 : w0.heap.size ≤ b) (u : Int) :
    PtSt B M r w0 b (w.setCell ⟨b, 0, none⟩ (.int .i64 u)) u y :=
  ⟨h.rd.set h1 h3 _, only_set h.gr h4 _, h.res.far h2 _, h.var.put0 u⟩
theorem PtSt.alloc {B M r b : Nat} {w0 w : World} {x y : Int} (h : PtSt B M r w0 b w x y) (o : Obj) : PtSt B M r w0 b (w.alloc o) x y :=
  ⟨h.rd.alloc o, only_alloc h.gr o, h.res.alloc o, h.var.alloc o⟩
theorem PtSt.done {B M M' r b : Nat} {w0 w : World} {x y : Int} (h : PtSt B M r w0 b w x y) (hr : r < w0.heap.size) (hB : B ≤ w0.heap.size) (hM : M ≤ M') (u v : Value) :
    Rd B M' ((w.setCell ⟨w0.heap.size, 0, none⟩ u).setCell ⟨w0.heap.size, 1, none⟩ v) r ∧ w0.grownBy ((w.setCell ⟨w0.heap.size, 0, none⟩ u).setCell ⟨w0.heap.size, 1, none⟩ v) (some r) :=
  ⟨((h.rd.set (by omega) hB _).set (by omega) hB _).mono hM, only_set (only_set h.gr (Nat.le_refl _) _) (Nat.le_refl _) _⟩
end Go.Proofs.Ytppkipcgpmijpaa
namespace Go.Proofs.Ytppkipcgpmijpaa
set_option maxRecDepth 100000
open Go.RowKit
attribute [local go_sem ↓] Go.wp_at_zero Go.wp_at_succ

def small (x : Int) : Prop := -40000 ≤ x ∧ x ≤ 40000
def GotP (w : World) (e : Ending) (w' : World) : Prop := ∃ x y : Int, small x ∧ small y ∧ e = .returned (pt x y) ∧ Below w.heap.size w w'
def GotP2 (w : World) (e : Ending) (w' : World) : Prop := ∃ x y x2 y2 : Int, (small x ∧ small y ∧ small x2 ∧ small y2) ∧ e = .returned (.tuple #[pt x y, pt x2 y2]) ∧ Below w.heap.size w w'
def GotP3 (w : World) (e : Ending) (w' : World) : Prop :=
  ∃ x y x2 y2 x3 y3 : Int, (small x ∧ small y ∧ small x2 ∧ small y2 ∧ small x3 ∧ small y3) ∧ e = .returned (.tuple #[pt x y, pt x2 y2, pt x3 y3]) ∧ Below w.heap.size w w'
theorem small_of {x : Int} (h0 : -10001 ≤ x) (h1 : x ≤ 10001) : small x := by unfold small; omega
theorem bytes_box {w : World} {a : Option Addr} {len cap : Nat} {zs : List Int} (h : Bytes w a len cap zs) (o : Obj) : Bytes (w.alloc o) a len cap zs := h.below (below_box w o)
/-- Opening a reader, its block by another name. -/
theorem open_at (w : World) (a : Option Addr) (len cap : Nat) (zs : List Int) (h : Bytes w a len cap zs) (r : Nat) (hr : w.heap.size = r) :
    Calls Try.prog 36 #[.slice a len cap] w fun e w' => e = .returned (.pointer (some ⟨r, 0, none⟩)) ∧ Rd r 0 w' r ∧ Below w.heap.size w w' := by
  subst hr; exact (open_code w a len cap zs h).mono fun _ _ ⟨h1, h2, h3, _⟩ => ⟨h1, h2, h3⟩
theorem below_of2 {w w0 w1 w2 : World} {r : Nat} (h0 : Below w.heap.size w w0) (hb : Below w0.heap.size w0 w1) (hr : w0.heap.size ≤ r) (hg : w1.grownBy w2 (some r)) : Below w.heap.size w w2 :=
  (below_call h0 hb).grown hg (Nat.le_trans h0.size hb.size) (fun k hk => by injection hk with hk; have := h0.size; omega)
theorem own2 (w : World) (t : Nat) : let w0 := (w.alloc (.cells #[.int .i64 0, .int .i64 0] t)).alloc (.cells #[.int .i64 0, .int .i64 0] t)
    OwnP w0 w.heap.size 0 0 ∧ OwnP w0 (w.heap.size + 1) 0 0 := by
  refine ⟨(OwnP.box w 0 0 t).alloc _, ?_⟩
  have := OwnP.box (w.alloc (.cells #[.int .i64 0, .int .i64 0] t)) 0 0 t
  simpa using this
theorem own3 (w : World) (t : Nat) : let w0 := ((w.alloc (.cells #[.int .i64 0, .int .i64 0] t)).alloc (.cells #[.int .i64 0, .int .i64 0] t)).alloc (.cells #[.int .i64 0, .int .i64 0] t)
    OwnP w0 w.heap.size 0 0 ∧ OwnP w0 (w.heap.size + 1) 0 0 ∧ OwnP w0 (w.heap.size + 1 + 1) 0 0 := by
  have h := own2 w t
  refine ⟨h.1.alloc _, h.2.alloc _, ?_⟩
  have := OwnP.box ((w.alloc (.cells #[.int .i64 0, .int .i64 0] t)).alloc (.cells #[.int .i64 0, .int .i64 0] t)) 0 0 t
  simpa using this
end Go.Proofs.Ytppkipcgpmijpaa
