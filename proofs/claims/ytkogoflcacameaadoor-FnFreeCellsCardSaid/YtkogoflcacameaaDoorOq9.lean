/- A slice of slices of points: what it reads as; opened as a law's argument; measured, copied and compared by the laws' own helpers. -/
import Derived.Test.YtkogoflcacameaaDoorOq7
import Derived.Test.YtkogoflcacameaaDoorZcCol
import Derived.Test.YtkogoflcacameaaDoorZbRow
import Derived.Deep.Slices
import Derived.OpenShut
import Derived.Lib.SmallJoins
namespace Go.Proofs.YtkogoflcacameaaDoor
set_option maxRecDepth 100000
open Go.ChangeShapes Go.WideShapes Go.ChangeAt Go.RowKit Go.Joins
attribute [local go_sem ↓] Go.wp_at_zero Go.wp_at_succ
/-- A slice as a value. -/
def slQ (s : Sl) : Value := .slice s.a s.len s.cap
/-- A law's slice of slices reads as pss. -/
def PssIn (w : World) (a : Option Addr) (len : Nat) (pss : List (List P2)) : Prop :=
  len = pss.length ∧ (pss = [] ∨ ∃ b off, a = some ⟨b, off, none⟩ ∧ b < w.heap.size ∧ ∀ i, i < pss.length → ∃ s : Sl, w.cell? ⟨b, off + i, none⟩ = some (slQ s) ∧ PtsIn w s.a s.len (pss.getD i []) ∧ s.len ≤ 9223372036854775807)
theorem PssIn.next {w w' : World} {a : Option Addr} {len : Nat} {pss : List (List P2)} (h : PssIn w a len pss) (hb : Below w.heap.size w w') : PssIn w' a len pss :=
  ⟨h.1, h.2.imp id fun ⟨b, off, h1, h2, h3⟩ => ⟨b, off, h1, Nat.lt_of_lt_of_le h2 hb.size, fun i hi => by
    obtain ⟨s, h4, h5, h6⟩ := h3 i hi
    exact ⟨s, (hb.cell (p := ⟨b, off + i, none⟩) h2).trans h4, h5.next hb, h6⟩⟩⟩
theorem PssIn.some {w : World} {a : Option Addr} {len : Nat} {pss : List (List P2)} (h : PssIn w a len pss) (hl : 1 ≤ len) : ∃ b off, a = Option.some ⟨b, off, none⟩ ∧ b < w.heap.size ∧ ∀ i, i < len → ∃ s : Sl, w.cell? ⟨b, off + i, none⟩ = Option.some (slQ s) ∧ PtsIn w s.a s.len (pss.getD i []) ∧ s.len ≤ 9223372036854775807 := by
  rcases h.2 with h2 | ⟨b, off, h1, h2, h3⟩
  · have := h.1; rw [h2] at this; simp at this; omega
  · exact ⟨b, off, h1, h2, fun i hi => h3 i (by rw [← h.1]; exact hi)⟩
/-- A slice of slices that reads as pss, from its block's begin. -/
def PSA (w : World) (a : Option Addr) (len : Nat) (pss : List (List P2)) : Prop :=
  len = pss.length ∧ (pss = [] ∨ ∃ b, a = some ⟨b, 0, none⟩ ∧ b < w.heap.size ∧ ∀ i, i < pss.length → ∃ s : Sl, w.cell? ⟨b, i, none⟩ = some (slQ s) ∧ PtsAt w s.a s.len (pss.getD i []) ∧ s.len ≤ 9223372036854775807)
theorem PSA.next {w w' : World} {a : Option Addr} {len : Nat} {pss : List (List P2)} (h : PSA w a len pss) (hb : Below w.heap.size w w') : PSA w' a len pss :=
  ⟨h.1, h.2.imp id fun ⟨b, h1, h2, h3⟩ => ⟨b, h1, Nat.lt_of_lt_of_le h2 hb.size, fun i hi => by
    obtain ⟨s, h4, h5, h6⟩ := h3 i hi
    exact ⟨s, (hb.cell (p := ⟨b, i, none⟩) h2).trans h4, h5.next hb, h6⟩⟩⟩
theorem PSA.some {w : World} {a : Option Addr} {len : Nat} {pss : List (List P2)} (h : PSA w a len pss) (hl : 1 ≤ len) : ∃ b, a = Option.some ⟨b, 0, none⟩ ∧ b < w.heap.size ∧ ∀ i, i < len → ∃ s : Sl, w.cell? ⟨b, i, none⟩ = Option.some (slQ s) ∧ PtsAt w s.a s.len (pss.getD i []) ∧ s.len ≤ 9223372036854775807 := by
  rcases h.2 with h2 | ⟨b, h1, h2, h3⟩
  · have := h.1; rw [h2] at this; simp at this; omega
  · exact ⟨b, h1, h2, fun i hi => h3 i (by rw [← h.1]; exact hi)⟩
/-- .. whose rows may begin anywhere in their blocks. -/
def PSS (w : World) (a : Option Addr) (len : Nat) (pss : List (List P2)) : Prop :=
  len = pss.length ∧ (pss = [] ∨ ∃ b, a = some ⟨b, 0, none⟩ ∧ b < w.heap.size ∧ ∀ i, i < pss.length → ∃ s : Sl, w.cell? ⟨b, i, none⟩ = some (slQ s) ∧ PL w s.a s.len (pss.getD i []) ∧ s.len ≤ 9223372036854775807)
theorem PSA.pss {w : World} {a : Option Addr} {len : Nat} {pss : List (List P2)} (h : PSA w a len pss) : PSS w a len pss :=
  ⟨h.1, h.2.imp id fun ⟨b, h1, h2, h3⟩ => ⟨b, h1, h2, fun i hi => by
    obtain ⟨s, h4, h5, h6⟩ := h3 i hi
    exact ⟨s, h4, h5.pl, h6⟩⟩⟩
theorem PSS.next {w w' : World} {a : Option Addr} {len : Nat} {pss : List (List P2)} (h : PSS w a len pss) (hb : Below w.heap.size w w') : PSS w' a len pss :=
  ⟨h.1, h.2.imp id fun ⟨b, h1, h2, h3⟩ => ⟨b, h1, Nat.lt_of_lt_of_le h2 hb.size, fun i hi => by
    obtain ⟨s, h4, h5, h6⟩ := h3 i hi
    exact ⟨s, (hb.cell (p := ⟨b, i, none⟩) h2).trans h4, h5.next hb, h6⟩⟩⟩
theorem PSS.some {w : World} {a : Option Addr} {len : Nat} {pss : List (List P2)} (h : PSS w a len pss) (hl : 1 ≤ len) : ∃ b, a = Option.some ⟨b, 0, none⟩ ∧ b < w.heap.size ∧ ∀ i, i < len → ∃ s : Sl, w.cell? ⟨b, i, none⟩ = Option.some (slQ s) ∧ PL w s.a s.len (pss.getD i []) ∧ s.len ≤ 9223372036854775807 := by
  rcases h.2 with h2 | ⟨b, h1, h2, h3⟩
  · have := h.1; rw [h2] at this; simp at this; omega
  · exact ⟨b, h1, h2, fun i hi => h3 i (by rw [← h.1]; exact hi)⟩
theorem PSS.nil (w : World) (a : Option Addr) : PSS w a 0 [] := ⟨rfl, .inl rfl⟩
/-- A fresh slice with one row. -/
theorem PSS.one {w : World} {s : Sl} {ps : List P2} (h : PL w s.a s.len ps) (hl : s.len ≤ 9223372036854775807) (T : TypeId) : PSS (w.alloc (.cells #[.slice s.a s.len s.cap] T)) (Option.some ⟨w.heap.size, 0, none⟩) 1 [ps] :=
  ⟨rfl, .inr ⟨w.heap.size, rfl, by simp, fun i hi => by
    obtain rfl : i = 0 := by simpa using hi
    exact ⟨s, by simp [slQ], h.next (below_box w _), hl⟩⟩⟩
theorem PSA.nil (w : World) (a : Option Addr) : PSA w a 0 [] := ⟨rfl, .inl rfl⟩
/-- A row of the call's own stays where another block is written. -/
theorem OwnPt.off9 {u u' : World} {B : Nat} {v : Value} {ps : List P2} {ob : Option Nat} (h : OwnPt u B v ps) (hg : u.grownBy u' ob) (hb : ∀ k, ob = some k → k < B) : OwnPt u' B v ps :=
  World.ownsRow.kept h hg (by
    rcases h.2 with ⟨rfl, _⟩ | ⟨g, c, cur, rfl, hB, _⟩
    · exact .inl rfl
    · refine .inr fun e => ?_
      have := hb g e.symm
      omega)
/-- The first k rows of a copy. -/
def Rows9 (w0 wr : World) (len k : Nat) (pss : List (List P2)) : Prop :=
  ∃ vs : List Value, wr.ownsRow w0.heap.size 72 1 (.slice (some ⟨w0.heap.size, 0, none⟩) len len) len vs ∧ ∀ i, i < k → ∃ v, vs[i]? = some v ∧ OwnPt wr (w0.heap.size + 1) v (pss.getD i [])
theorem Rows9.pss {w0 wr : World} {len : Nat} {pss : List (List P2)} (h : Rows9 w0 wr len len pss) (hl : len = pss.length) (hr : ∀ i, i < len → (pss.getD i []).length ≤ 1048576) : PSA wr (some ⟨w0.heap.size, 0, none⟩) len pss := by
  obtain ⟨vs, h1, h2⟩ := h
  by_cases h0 : len = 0
  · subst h0; exact ⟨hl, .inl (List.eq_nil_of_length_eq_zero hl.symm)⟩
  · refine ⟨hl, .inr ⟨w0.heap.size, rfl, (World.ownsRow.lt h1 _ rfl).2, fun i hi => ?_⟩⟩
    obtain ⟨v, e, o⟩ := h2 i (by omega)
    obtain ⟨s, rfl, hs⟩ := o.sl
    exact ⟨s, (World.ownsRow.cellAt h1 i (by omega)).trans e, o.ints, by have := hr i (by omega); omega⟩
theorem cellsSlL : Tryd.prog.cellsOf 70 = 1 := by kernel_rfl
theorem open_pssArg {H : Type} {enc : TypeId × Value → H} {W : World} {base : Nat} {v : Value} {d : DataW H} {p : List MemPlace} (hv : Value.okWide Tryd.prog W .any base 41 v) (h : DataW.Trod enc Tryd.prog W 0 (fun _ => true) true 41 v d p) :
    ∃ (s : Sl) (pss : List (List P2)), v = .slice s.a s.len s.cap ∧ PssIn W s.a s.len pss ∧ s.len ≤ 9223372036854775807 := by
  obtain ⟨a, len, cap, rfl⟩ := okWide_slice Tryd.underlying41 hv
  obtain ⟨fuel, hf⟩ := h
  have hf' : DataW.trod enc Tryd.prog W 0 (fun _ => true) true fuel 41 [.slice a len cap] = some (d, p) := by simpa [Value.cells] using hf
  rcases Go.Deep.open_slice1 Tryd.underlying41 cellsSlL hf' with ⟨hcs, _⟩ | ⟨x, l, c, m, n', V, D, Pl, hcs, _, hl, hm, hmm, _, hx⟩
  · simp at hcs
    obtain ⟨rfl, rfl, rfl⟩ := hcs
    exact ⟨⟨none, 0, 0⟩, [], rfl, ⟨rfl, .inl rfl⟩, Nat.zero_le _⟩
  · simp at hcs
    obtain ⟨rfl, rfl, rfl⟩ := hcs
    unfold maxLen at hm
    simp only [if_true] at hmm
    have each : ∀ i, i < len → ∃ q : Sl × List P2, V i = slQ q.1 ∧ PtsIn W q.1.a q.1.len q.2 ∧ q.1.len ≤ 9223372036854775807 := fun i hi => by
      obtain ⟨s, ps, e, h1, _, h2⟩ := pts_of (hx i (by omega)).2
      exact ⟨(s, ps), e, h1, h2⟩
    haveI : Inhabited (Sl × List P2) := ⟨(⟨none, 0, 0⟩, [])⟩
    obtain ⟨f, hfx⟩ := Go.Deep.choose_lt each
    refine ⟨⟨some x, len, cap⟩, (List.range len).map fun (k : Nat) => (f k).2, rfl, ⟨by simp, ?_⟩, by simp only; omega⟩
    by_cases h0 : len = 0
    · left; subst h0; simp
    · right
      obtain ⟨b, off, spot⟩ := x
      have hc := (hx 0 (by omega)).1
      have hspot : spot = none := by simpa [Addr.add] using World.cell?_spot hc
      subst hspot
      refine ⟨b, off, rfl, World.block_lt_of_cell? W ⟨b, off + 0, none⟩ (by simpa [Addr.add] using hc), fun i hi => ?_⟩
      simp at hi
      obtain ⟨e1, e2, e3⟩ := hfx i hi
      have k0 := (hx i (by omega)).1
      rw [e1] at k0
      refine ⟨(f i).1, ?_, ?_, e3⟩
      · by_cases h1 : i = 0
        · subst h1; simpa [Addr.add] using k0
        · simpa [Addr.add, h1] using k0
      · rw [List.getD_eq_getElem?_getD, List.getElem?_map, List.getElem?_range hi]
        exact e2
/-- What is left behind the rows. -/
def szL : List (List P2) → Int → Int
  | [], l => l
  | ps :: r, l => if l < (ps.length : Int) then -1 else szL r (l - ps.length)
theorem szL_neg : ∀ (pss : List (List P2)) (l : Int), 0 ≤ l → szL pss l = -1 ∨ (0 ≤ szL pss l ∧ szL pss l ≤ l ∧ ∀ i, i < pss.length → ((pss.getD i []).length : Int) ≤ l)
  | [], l, h => .inr ⟨h, Int.le_refl _, fun i hi => by simp at hi⟩
  | ps :: r, l, h => by
    unfold szL
    split
    · exact .inl rfl
    · rename_i hk
      rcases szL_neg r (l - ps.length) (by omega) with e | ⟨e1, e2, e3⟩
      · exact .inl e
      · refine .inr ⟨e1, by omega, fun i hi => ?_⟩
        cases i with
        | zero => simp; omega
        | succ i =>
          have := e3 i (by simpa using hi)
          simp only [List.getD_cons_succ]
          omega
/-- What the measuring of a slice of slices answers. -/
def szX (left : Int) (pss : List (List P2)) : Int := if left < (pss.length : Int) then -1 else szL pss (left - pss.length)
/-- -1, or all fit in. -/
def Sz9 (left : Int) (len : Nat) (pss : List (List P2)) (x : Int) : Prop := x = -1 ∨ (0 ≤ x ∧ x ≤ left ∧ (len : Int) ≤ left ∧ ∀ i, i < len → ((pss.getD i []).length : Int) ≤ left)
theorem szX_is (left : Int) (len : Nat) (pss : List (List P2)) (hl : len = pss.length) (h : 0 ≤ left) : Sz9 left len pss (szX left pss) := by
  subst hl
  unfold szX
  split
  · exact .inl rfl
  · rename_i hk
    rcases szL_neg pss (left - pss.length) (by omega) with e | ⟨e1, e2, e3⟩
    · exact .inl e
    · exact .inr ⟨e1, by omega, by omega, fun i hi => by have := e3 i hi; omega⟩
theorem szL_drop {pss : List (List P2)} {j : Nat} (h : j < pss.length) (l : Int) : szL (pss.drop j) l = if l < ((pss.getD j []).length : Int) then -1 else szL (pss.drop (j + 1)) (l - (pss.getD j []).length) := by
  rw [List.drop_eq_getElem_cons h, List.getD_eq_getElem?_getD, List.getElem?_eq_getElem h]
  rfl
set_option maxHeartbeats 1000000 in
theorem szPointSS (a : Option Addr) (len cap : Nat) (left : Int) (pss : List (List P2)) {w : World} (h : PssIn w a len pss) (h0 : 0 ≤ left) (h1 : left ≤ 1048576) (hl : len ≤ 9223372036854775807) :
    ∃ x, Sz9 left len pss x ∧ ∀ u, Below w.heap.size w u → Calls Tryd.prog 13 #[.slice a len cap, .int .i64 left] u fun e w' => e = .returned (.int .i64 x) ∧ u = w' := by
  refine ⟨szX left pss, szX_is left len pss h.1 h0, fun u hu => ?_⟩
  have hn := h.1
  have hx : szX left pss = if left < (len : Int) then -1 else szL pss (left - len) := by unfold szX; rw [hn]
  have hk := h.next hu
  by_cases hneg : left < (len : Int)
  · rw [if_pos hneg] at hx
    rw [hx]
    clear h hk hx hn
    go_enter Tryd.func13, Tryd.ntmps13
    go_wp2
    go_ret
    exact ⟨rfl, rfl⟩
  · rw [if_neg hneg] at hx
    generalize szX left pss = x at *
    have HX : Hid (szL (pss.drop 0) (left - len) = x) := Lib.hid hx.symm
    have HS := Lib.hid (fun j (hj : j < len) l => szL_drop (pss := pss) (j := j) (by omega) l)
    have HE : Hid (∀ l, szL (pss.drop len) l = l) := Lib.hid fun l => by rw [hn, List.drop_length]; rfl
    have HK := Lib.hid hk
    clear h hk hx hn
    go_enter Tryd.func13, Tryd.ntmps13
    go_wp2
    go_loopw [1, 5] (fun lv iv wr => ∃ (j : Nat) (l : Int), j ≤ len ∧ lv = .int .i64 l ∧ iv = .int .i64 (j : Int) ∧ 0 ≤ l ∧ l ≤ 1048576 ∧ Hid (szL (pss.drop j) l = x) ∧ Hid (u = wr)) (fun _ iv _ => len - (intOf iv).toNat)
    case atStart => exact ⟨0, _, Nat.zero_le _, rfl, rfl, by omega, by omega, HX, Lib.hid rfl⟩
    case round =>
      obtain ⟨j, l, hj, rfl, rfl, l0, l1, HL, HU⟩ := hrel
      obtain rfl := HU.out
      by_cases hlt : j < len
      · obtain ⟨b, off, rfl, lt, hc⟩ := HK.out.some (by omega)
        obtain ⟨s, d1, I1, I2⟩ := hc j hlt
        have e := HS.out j hlt l
        rw [HL.out, ← I1.1] at e
        have j1 : (0 : Int) ≤ (j : Int) := by omega
        have j2 : (j : Int) < (len : Int) := by omega
        unfold slQ at d1
        replace e := Lib.hid e
        clear hc I1 HX
        by_cases hb : l < (s.len : Int)
        · have HZ := Lib.hid (szPointS s.a s.len s.cap l u l0 l1 I2)
          rw [if_pos hb] at HZ e
          replace hb := Lib.hid hb
          clear HL
          go_wp2_with fail
          refine HZ.out.mono ?_
          rintro e w' ⟨rfl, rfl⟩
          go_wp2
          go_ret
          exact ⟨ret_int e.out.symm, rfl⟩
        · have HZ := Lib.hid (szPointS s.a s.len s.cap l u l0 l1 I2)
          rw [if_neg hb] at HZ e
          have HL2 : Hid (szL (pss.drop (j + 1)) (l - (s.len : Int)) = x) := Lib.hid e.out.symm
          have hg : ¬ (l - (s.len : Int) < 0) := by omega
          have hw : IntKind.i64.wrap (l - (s.len : Int)) = l - (s.len : Int) := wrap_in (by omega) (by omega)
          clear HL e
          go_wp2_with fail
          refine HZ.out.mono ?_
          rintro e w' ⟨rfl, rfl⟩
          go_wp2
          go_roundw
          case rel => exact ⟨j + 1, _, by omega, rfl, by congr 1, by omega, by omega, HL2, Lib.hid (by trivial)⟩
          case measure => simp [intOf]; omega
      · obtain rfl : j = len := by omega
        have e := HL.out
        rw [HE.out] at e
        subst e
        have j2 : ¬ ((j : Int) < (j : Int)) := by omega
        go_wp2
        go_ret
        exact ⟨rfl, rfl⟩
theorem infoSl9 : (Tryd.prog.info? 72).map (fun i => (i.zero, i.size, i.bytes)) = some (some (.slice none 0 0), 1, 24) := by kernel_rfl
set_option maxHeartbeats 2000000 in
theorem toPointSS (a : Option Addr) (len cap : Nat) (pss : List (List P2)) (w : World) (h : PssIn w a len pss) (hl : len ≤ 1048576) (hr : ∀ i, i < len → (pss.getD i []).length ≤ 1048576) :
    Calls Tryd.prog 15 #[.slice a len cap] w fun e w' => e = .returned (.slice (some ⟨w.heap.size, 0, none⟩) len len) ∧ PSA w' (some ⟨w.heap.size, 0, none⟩) len pss ∧ Below w.heap.size w w' := by
  obtain ⟨i0, hi0, hz0, hz1, hz2⟩ := info_parts infoSl9
  have HK := Lib.hid h
  have HR := Lib.hid hr
  clear h hr
  go_enter Tryd.func15, Tryd.ntmps15
  go_wp2_with (first
    | (at_make; refine wpList_make_full _ rfl _ _ 26 rfl w.heap.size 72 i0 (.slice none 0 0) 1 Tryd.underlying26 hi0 hz0 hz1 .i64 .i64 _ _ len rfl rfl (by omega) (by omega) (by rw [hz2]; omega) (by unfold maxLen; omega) (Nat.le_refl _) ?_; intro w1 own1 grow1))
  have HG : Below w.heap.size w w1 := (Below.refl _ _).grown grow1 (Nat.le_refl _) (fun k hk => by cases hk)
  have HO1 : Hid (Rows9 w w1 len 0 pss) := Lib.hid ⟨_, own1, fun i hi => by omega⟩
  clear own1 grow1
  go_loopw [4] (fun i wr => ∃ k : Nat, k ≤ len ∧ i = .int .i64 (k : Int) ∧ Hid (Rows9 w wr len k pss) ∧ Hid (Below w.heap.size w wr)) (fun i _ => len - (intOf i).toNat)
  case atStart => exact ⟨0, Nat.zero_le _, rfl, HO1, Lib.hid HG⟩
  case round =>
    obtain ⟨k, hk, rfl, HO, HW⟩ := hrel
    clear HO1 HG
    by_cases hlt : k < len
    · obtain ⟨b, off, rfl, lt, hc⟩ := HK.out.some (by omega)
      obtain ⟨s, d1, I1, I2⟩ := hc k hlt
      have d2 : wr.cell? ⟨b, off + k, none⟩ = _ := (HW.out.cell (p := ⟨b, off + k, none⟩) lt).trans d1
      have J1 := I1.next HW.out
      have hrk := HR.out k hlt
      have hsl : s.len ≤ 1048576 := by rw [J1.1]; exact hrk
      have j1 : (0 : Int) ≤ (k : Int) := by omega
      have j2 : (k : Int) < (len : Int) := by omega
      obtain ⟨vs, ho, hv⟩ := HO.out
      have HHO := Lib.hid ho
      have HHV := Lib.hid hv
      have hsz := (World.ownsRow.lt ho w.heap.size rfl).2
      unfold slQ at d2
      clear hc d1 I1 HO ho hv lt
      go_wp2_with fail
      refine (toPointS s.a s.len s.cap (pss.getD k []) _ J1 hsl).mono ?_
      rintro e w2 ⟨rfl, O2, B2⟩
      have HO2 := Lib.hid (World.ownsRow.kept (row := none) HHO.out ⟨B2.os, B2.tape, B2.output, B2.size, fun k hk _ => B2.block k hk⟩ (.inr (by simp [Value.ownBlock])))
      have hvl : vs.length = len := by have := HHO.out.1; simpa using this
      have r1 := HO2.out.cellAt k (by omega)
      rw [List.getElem?_eq_getElem (by omega)] at r1
      have r2 := HO2.out.frozenAt k
      have s1 := HO2.out.stored k (.slice (some ⟨wr.heap.size, 0, none⟩) s.len s.len)
      have HN : Hid (Rows9 w (w2.setCell ⟨w.heap.size, k, none⟩ (.slice (some ⟨wr.heap.size, 0, none⟩) s.len s.len)) len (k + 1) pss) := Lib.hid ⟨_, s1.1, fun i hi => by
        by_cases hik : i = k
        · subst hik
          exact ⟨_, by rw [List.getElem?_set_self (by omega)], (O2.down6 (by omega)).off9 s1.2 (fun q hq => by injection hq with hq; omega)⟩
        · obtain ⟨v, e1, e2⟩ := HHV.out i (by omega)
          exact ⟨v, by rw [List.getElem?_set_ne (by omega)]; exact e1, (e2.next B2).off9 s1.2 (fun q hq => by injection hq with hq; omega)⟩⟩
      have HW2 := Lib.hid ((below_call HW.out B2).grown s1.2 (below_call HW.out B2).size (fun q hq => by injection hq with hq; omega))
      clear s1 O2 B2 d2 J1 HHO HHV
      go_wp2
      go_roundw
      case rel => exact ⟨k + 1, by omega, by congr 1, HN, HW2⟩
      case measure => simp [intOf]; omega
    · obtain rfl : k = len := by omega
      go_wp2
      go_ret
      exact ⟨rfl, HO.out.pss HK.out.1 HR.out, HW.out⟩
set_option maxHeartbeats 1000000 in
theorem eqPointSS (a b : Option Addr) (len len2 cap cap2 : Nat) (pss : List (List P2)) (w : World) (h : PSA w a len pss) (h2 : PSA w b len2 pss) (hl : len ≤ 1048576) (hr : ∀ i, i < len → (pss.getD i []).length ≤ 1048576) :
    Calls Tryd.prog 18 #[.slice a len cap, .slice b len2 cap2] w fun e w' => e = .returned (.bool true) ∧ Below w.heap.size w w' := by
  obtain rfl : len2 = len := by rw [h.1, h2.1]
  have e0 : ((len2 : Int) != (len2 : Int)) = false := by simp
  by_cases hn : 1 ≤ len2
  · obtain ⟨b1, rfl, lt1, c1⟩ := h.some hn
    obtain ⟨b2, rfl, lt2, c2⟩ := h2.some hn
    have HC1 := Lib.hid c1
    have HC2 := Lib.hid c2
    have HR := Lib.hid hr
    clear h h2 c1 c2 hn hr
    go_enter Tryd.func18, Tryd.ntmps18
    go_wp2
    go_loopw [5] (fun i wr => ∃ j : Nat, j ≤ len2 ∧ i = .int .i64 (j : Int) ∧ Hid (Below w.heap.size w wr)) (fun i _ => len2 - (intOf i).toNat)
    case atStart => exact ⟨0, Nat.zero_le _, rfl, Lib.hid (Below.refl _ _)⟩
    case round =>
      obtain ⟨j, hj, rfl, HW⟩ := hrel
      by_cases hlt : j < len2
      · obtain ⟨⟨sa, sl, sc⟩, d1, I1, _⟩ := HC1.out j hlt
        obtain ⟨⟨ta, tl, tc⟩, d2, I2, _⟩ := HC2.out j hlt
        unfold slQ at d1 d2
        simp only at d1 d2 I1 I2
        have k1 := keptCell (Nat.lt_of_lt_of_le lt1 HW.out.size) ((HW.out.cell (p := ⟨b1, j, none⟩) lt1).trans d1)
        have k2 := keptCell (Nat.lt_of_lt_of_le lt2 HW.out.size) ((HW.out.cell (p := ⟨b2, j, none⟩) lt2).trans d2)
        have hls : sl ≤ 9223372036854775807 := by rw [I1.1]; have := HR.out j hlt; omega
        have HQ := Lib.hid (fun (q : Kept wr) => keptCall (eqPointS sa ta sl tl sc tc (pss.getD j []) q.u ((I1.next HW.out).next q.b) ((I2.next HW.out).next q.b) hls))
        have j1 : (0 : Int) ≤ (j : Int) := by omega
        have j2 : (j : Int) < (len2 : Int) := by omega
        clear I1 I2 d1 d2
        go_upto_region 6 with fail
        refine wp_region_kept (by kernel_rfl) (by kernel_rfl) ?_
        repeat (go_big_quiet_step ((go_at_call 43; with_reducible exact HQ.out _)))
        refine wpQuiet_nil ?_
        rintro w2 ⟨⟨_, B2⟩, rfl⟩
        have HW2 := Lib.hid (below_call HW.out B2)
        clear k1 k2 B2 HQ
        go_wp2
        go_roundw
        case rel => exact ⟨j + 1, by omega, by congr 1, HW2⟩
        case measure => simp [intOf]; omega
      · obtain rfl : j = len2 := by omega
        have j2 : ¬ ((j : Int) < (j : Int)) := by omega
        go_wp2
        go_ret
        exact ⟨rfl, HW.out⟩
  · obtain rfl : len2 = 0 := by omega
    clear h h2 hn hr
    go_enter Tryd.func18, Tryd.ntmps18
    go_wp2
    go_loopw [5] (fun i wr => i = .int .i64 0 ∧ Hid (Below w.heap.size w wr)) (fun _ _ => 0)
    case atStart => exact ⟨rfl, Lib.hid (Below.refl _ _)⟩
    case round =>
      obtain ⟨rfl, HW⟩ := hrel
      go_wp2
      go_ret
      exact ⟨rfl, HW.out⟩
end Go.Proofs.YtkogoflcacameaaDoor
