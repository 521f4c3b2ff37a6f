/- The program's efforts, distances and copies of angles. -/
import Derived.Test.YtolkihibjabmhaaDoorIm4
import Derived.Laws.CopyOwn
import Derived.Deep.AppendLies
import Derived.OwnWalk
import Derived.Lib.SliceRun
namespace Go.Proofs.YtolkihibjabmhaaDoor
set_option maxRecDepth 100000
open Go.RowKit
attribute [local go_sem ↓] Go.wp_at_zero Go.wp_at_succ
/-- The angles as an array of four. -/
abbrev pvJ (js : List Int) : Value := pv4 (js.getD 0 0) (js.getD 1 0) (js.getD 2 0) (js.getD 3 0)
abbrev pcells (a b c d : Int) : Obj := .cells #[.int .i64 a, .int .i64 b, .int .i64 c, .int .i64 d] 91
abbrev scells (b n cap : Nat) (tx ty : Int) : Obj := .cells #[.slice (some ⟨b, 0, none⟩) n cap, .int .i64 tx, .int .i64 ty] 88
/-- Four numbers lie in block b. -/
structure At4 (w : World) (b : Nat) (p q r s : Int) : Prop where
  lt : b < w.heap.size
  c0 : w.cell? ⟨b, 0, none⟩ = some (.int .i64 p)
  c1 : w.cell? ⟨b, 1, none⟩ = some (.int .i64 q)
  c2 : w.cell? ⟨b, 2, none⟩ = some (.int .i64 r)
  c3 : w.cell? ⟨b, 3, none⟩ = some (.int .i64 s)
theorem At4.next {w w' : World} {b : Nat} {p q r s : Int} (h : At4 w b p q r s) (hb : Below w.heap.size w w') : At4 w' b p q r s :=
  ⟨Nat.lt_of_lt_of_le h.lt hb.size, (hb.cell (p := ⟨b, 0, none⟩) h.lt).trans h.c0, (hb.cell (p := ⟨b, 1, none⟩) h.lt).trans h.c1, (hb.cell (p := ⟨b, 2, none⟩) h.lt).trans h.c2, (hb.cell (p := ⟨b, 3, none⟩) h.lt).trans h.c3⟩
theorem At4.box (w : World) (p q r s : Int) (t : Nat) : At4 (w.alloc (.cells #[.int .i64 p, .int .i64 q, .int .i64 r, .int .i64 s] t)) w.heap.size p q r s := ⟨by simp, by simp, by simp, by simp, by simp⟩
/-- The four angles of a list, 0 where it has none. -/
def Is4 (js : List Int) (p q r s : Int) : Prop := js.getD 0 0 = p ∧ js.getD 1 0 = q ∧ js.getD 2 0 = r ∧ js.getD 3 0 = s
theorem At4.ints {w : World} {b : Nat} {js : List Int} {p q r s : Int} (h : At4 w b p q r s) (e : Is4 js p q r s) (i : Nat) (hi : i < 4) : w.cell? ⟨b, 0 + i, none⟩ = some (.int .i64 (js.getD i 0)) := by
  have h4 : i = 0 ∨ i = 1 ∨ i = 2 ∨ i = 3 := by omega
  obtain ⟨e0, e1, e2, e3⟩ := e
  rcases h4 with rfl | rfl | rfl | rfl
  · rw [e0]; exact h.c0
  · rw [e1]; exact h.c1
  · rw [e2]; exact h.c2
  · rw [e3]; exact h.c3
theorem At4.kepts {w : World} {b : Nat} {p q r s : Int} (h : At4 w b p q r s) : (∀ n : Kept w, n.u.cell? ⟨b, 0, none⟩ = some (.int .i64 p)) ∧ (∀ n : Kept w, n.u.cell? ⟨b, 1, none⟩ = some (.int .i64 q)) ∧ (∀ n : Kept w, n.u.cell? ⟨b, 2, none⟩ = some (.int .i64 r)) ∧ (∀ n : Kept w, n.u.cell? ⟨b, 3, none⟩ = some (.int .i64 s)) :=
  ⟨keptCell h.lt h.c0, keptCell h.lt h.c1, keptCell h.lt h.c2, keptCell h.lt h.c3⟩
theorem linkAngles (l o h : Int) (w : World) (h1 : -180 ≤ o) (h2 : o ≤ h) (h3 : h ≤ 180) :
    Calls Tryd.prog 72 #[lk l o h] w fun e w' => e = .returned (.int .i64 (h - o + 1)) ∧ Below w.heap.size w w' := by
  go_enter Tryd.func72, Tryd.ntmps72
  go_wp2
  go_ret
  exact ⟨rfl, below_box _ _⟩
theorem ix0 (a b c d : Int) (u : World) : (Instr.index 91 (.agg #[.int .i64 a, .int .i64 b, .int .i64 c, .int .i64 d]) (.int .i64 0)).run Tryd.prog u = .ok (.int .i64 a) u := by kernel_rfl
theorem ix1 (a b c d : Int) (u : World) : (Instr.index 91 (.agg #[.int .i64 a, .int .i64 b, .int .i64 c, .int .i64 d]) (.int .i64 1)).run Tryd.prog u = .ok (.int .i64 b) u := by kernel_rfl
theorem ix2 (a b c d : Int) (u : World) : (Instr.index 91 (.agg #[.int .i64 a, .int .i64 b, .int .i64 c, .int .i64 d]) (.int .i64 2)).run Tryd.prog u = .ok (.int .i64 c) u := by kernel_rfl
theorem ix3 (a b c d : Int) (u : World) : (Instr.index 91 (.agg #[.int .i64 a, .int .i64 b, .int .i64 c, .int .i64 d]) (.int .i64 3)).run Tryd.prog u = .ok (.int .i64 d) u := by kernel_rfl
/-- The sum of the first absolute values. -/
def effN (a b c d : Int) : Nat → Int
  | 0 => 0
  | 1 => max a (-a)
  | 2 => max a (-a) + max b (-b)
  | 3 => max a (-a) + max b (-b) + max c (-c)
  | _ => max a (-a) + max b (-b) + max c (-c) + max d (-d)
theorem effort (a b c d : Int) (w : World) (a1 : -1000 ≤ a) (a2 : a ≤ 1000) (b1 : -1000 ≤ b) (b2 : b ≤ 1000) (c1 : -1000 ≤ c) (c2 : c ≤ 1000) (d1 : -1000 ≤ d) (d2 : d ≤ 1000) :
    Calls Tryd.prog 96 #[pv4 a b c d] w fun e w' => e = .returned (.int .i64 (effN a b c d 4)) ∧ Below w.heap.size w w' := by
  have HB := Lib.hid (below_box w (pcells a b c d))
  have f0 : effN a b c d 0 = 0 := rfl
  have f1 : effN a b c d 1 = max a (-a) := rfl
  have f2 : effN a b c d 2 = max a (-a) + max b (-b) := rfl
  have f3 : effN a b c d 3 = max a (-a) + max b (-b) + max c (-c) := rfl
  have f4 : effN a b c d 4 = max a (-a) + max b (-b) + max c (-c) + max d (-d) := rfl
  have HF := Lib.hid (And.intro f0 (And.intro f1 (And.intro f2 (And.intro f3 f4))))
  clear f0 f1 f2 f3 f4
  go_enter Tryd.func96, Tryd.ntmps96
  go_wp2
  go_loop [3, 7] (fun s i => ∃ m : Nat, m ≤ 4 ∧ i = .int .i64 (m : Int) ∧ s = .int .i64 (effN a b c d m)) (fun _ i => 4 - (intOf i).toNat)
  case atStart => exact ⟨0, by omega, rfl, rfl⟩
  case round =>
    obtain ⟨m, hm, rfl, rfl⟩ := hrel
    have h5 : m = 0 ∨ m = 1 ∨ m = 2 ∨ m = 3 ∨ m = 4 := by omega
    obtain ⟨f0, f1, f2, f3, f4⟩ := HF.out
    rcases h5 with rfl | rfl | rfl | rfl | rfl
    · have HN := Lib.hid f1
      have HM := Lib.hid f0
      have bd : -5000 ≤ effN a b c d 0 ∧ effN a b c d 0 ≤ 5000 := by rw [f0]; omega
      clear f0 f1 f2 f3 f4
      generalize effN a b c d 0 = s at *
      have hix := fun u => ix0 a b c d u
      go_wp2
      all_goals
        go_round
        case rel => exact ⟨1, by omega, rfl, by rw [HN.out]; congr 1; have := HM.out; omega⟩
        case measure => simp [intOf]
    · have HN := Lib.hid f2
      have HM := Lib.hid f1
      have bd : -5000 ≤ effN a b c d 1 ∧ effN a b c d 1 ≤ 5000 := by rw [f1]; omega
      clear f0 f1 f2 f3 f4
      generalize effN a b c d 1 = s at *
      have hix := fun u => ix1 a b c d u
      go_wp2
      all_goals
        go_round
        case rel => exact ⟨2, by omega, rfl, by rw [HN.out]; congr 1; have := HM.out; omega⟩
        case measure => simp [intOf]
    · have HN := Lib.hid f3
      have HM := Lib.hid f2
      have bd : -5000 ≤ effN a b c d 2 ∧ effN a b c d 2 ≤ 5000 := by rw [f2]; omega
      clear f0 f1 f2 f3 f4
      generalize effN a b c d 2 = s at *
      have hix := fun u => ix2 a b c d u
      go_wp2
      all_goals
        go_round
        case rel => exact ⟨3, by omega, rfl, by rw [HN.out]; congr 1; have := HM.out; omega⟩
        case measure => simp [intOf]
    · have HN := Lib.hid f4
      have HM := Lib.hid f3
      have bd : -5000 ≤ effN a b c d 3 ∧ effN a b c d 3 ≤ 5000 := by rw [f3]; omega
      clear f0 f1 f2 f3 f4
      generalize effN a b c d 3 = s at *
      have hix := fun u => ix3 a b c d u
      go_wp2
      all_goals
        go_round
        case rel => exact ⟨4, by omega, rfl, by rw [HN.out]; congr 1; have := HM.out; omega⟩
        case measure => simp [intOf]
    · clear f0 f1 f2 f3 f4
      go_wp2
      go_ret
      exact ⟨rfl, HB.out⟩
set_option maxHeartbeats 1000000 in
theorem distanceC (b cap : Nat) (ls lo hi js : List Int) (tx ty p q r s : Int) (w : World) (h4j : Is4 js p q r s) (ht : TabAt w) (hc : ChainAt w b ls.length ls lo hi) (hok : okJoints ls lo hi js) :
    Calls Tryd.prog 95 #[sv b ls.length cap tx ty, pv4 p q r s] w fun e w' => e = .returned (.int .i64 (distV ls tx ty js)) ∧ Below w.heap.size w w' := by
  have HB := Lib.hid (below_box2 w (scells b ls.length cap tx ty) (pcells p q r s))
  have P := (AtA.box w (.slice (some ⟨b, 0, none⟩) ls.length cap) (.int .i64 tx) (.int .i64 ty) 88).alloc (pcells p q r s)
  have Q := At4.box (w.alloc (scells b ls.length cap tx ty)) p q r s 91
  rw [show (w.alloc (scells b ls.length cap tx ty)).heap.size = w.heap.size + 1 by simp] at Q
  have HTb := Lib.hid (ht.below HB.out ht.lt)
  have HCb := Lib.hid (hc.next HB.out)
  have n1 := hok.1.1
  have n2 := hok.1.2.1
  have HD := Lib.hid (show sqV (ptX ls js ls.length) (ptY ls js ls.length) tx ty = distV ls tx ty js from rfl)
  have n3 : (0 : Int) ≤ (ls.length : Int) := by omega
  have n4 : (ls.length : Int) ≤ 4 := by omega
  clear hc ht
  go_enter Tryd.func95, Tryd.ntmps95
  go_wp2
  generalize (w.alloc (scells b ls.length cap tx ty)).alloc (pcells p q r s) = w0 at *
  have HTI := Lib.hid (fun (k : Kept w0) => keptCall (tipC b cap (w.heap.size + 1) 0 ls.length 4 ls.length ls lo hi js k.u (HTb.out.below k.b HTb.out.lt) (HCb.out.next k.b) (len_bd hok.1) n2 (Nat.le_refl _) (fun i hi => dir_bd hok i (by have := hok.2.1; omega)) (Nat.le_refl _) (Q.next k.b).lt (fun i hi => (Q.next k.b).ints h4j i (by omega))))
  have HSQ := Lib.hid (fun (k : Kept w0) => keptCall (implSquaredDistance (ptX ls js ls.length) (ptY ls js ls.length) tx ty k.u))
  rw [HD.out] at HSQ
  obtain ⟨a0, a1, a2⟩ := P.kepts
  clear hok P Q HTb HCb
  refine wp_region_kept (by kernel_rfl) (by kernel_rfl) ?_
  repeat (go_big_quiet_step ((first | (go_at_call 67; exact HTI.out _) | (go_at_call 21; exact HSQ.out _))))
  refine wpQuiet_nil ?_
  rintro wq ⟨⟨_, Bq⟩, rfl⟩
  have HBq := Lib.hid (below_call HB.out Bq)
  go_wp2
  go_ret
  exact ⟨rfl, HBq.out⟩
set_option maxHeartbeats 1000000 in
theorem cloneInts (j : Sl) (js : List Int) (w : World) (hj : IntsAt w j.a j.len js) (h1 : 1 ≤ j.len) (h4 : j.len ≤ 4) :
    Calls Tryd.prog 93 #[.slice j.a j.len j.cap] w (Rowed js w) := by
  obtain ⟨i0, hi0, hz0, hz1, hz2⟩ := info_parts infoInt
  obtain ⟨ja, jl, jc⟩ := j
  simp only at *
  obtain ⟨b4, o4, rfl, lt4, c4⟩ := hj.some (by omega)
  have HNc := Lib.hid (cpNews (hj.next (below_box w (.cells #[] 3))))
  have HNLc := Lib.hid (show (vals js).length = jl * 1 by have := (hj).1; simp [vals]; omega)
  have HOc := Lib.hid (show (w.alloc (.cells #[] 3)).ownsRow w.heap.size 3 1 (.slice (some ⟨w.heap.size, 0, none⟩) 0 0) 0 [] by
    have := World.ownsRow_lit (base := w.heap.size) (e := 3) (size := 1) w #[] 0 (Nat.le_refl _) (Nat.zero_le _) rfl
    simpa using this)
  have HBc := Lib.hid (below_box w (.cells #[] 3))
  have HHc := Lib.hid HBc.out.size
  have HLc := Lib.hid ((hj).1)
  have HLL := Lib.hid hj.1
  have hq : ∀ (a : Option Addr) (l c : Nat) (u : World), (binOp .eql 23 (.slice a l c) (.slice none 0 0)).run Tryd.prog u = .ok (.bool a.isNone) u := fun a l c u => Lib.run_eql_slice_nil u _ _ a l c 0 0 Tryd.underlying23
  clear hj c4
  go_enter Tryd.func93, Tryd.ntmps93
  go_wp2_with (at_builtin; refine wpList_append_lies _ rfl (.tmp 5) (.tmp 6) 23 rfl w.heap.size 3 i0 (.int .i64 0) 1 8 Tryd.underlying23 hi0 hz0 hz1 hz2 rfl (by decide) (.slice (some ⟨w.heap.size, 0, none⟩) 0 0) 0 [] rfl HOc.out ⟨b4, o4, none⟩ jl jc (vals js) rfl HNLc.out HNc.out (cpOne _) (by omega) (by unfold maxLen; omega) (by omega) HHc.out _ rfl ?_; intro g capA wA ownA growA atA ltgA; have HAA := Lib.hid (And.intro ownA growA); clear ownA growA atA ltgA)
  have HOA := Lib.hid (show OwnI wA w.heap.size (.slice (some ⟨g, 0, none⟩) jl capA) js by
    have h := HAA.out.1
    rw [Nat.zero_add] at h
    have h2 : wA.ownsRow w.heap.size 3 1 (.slice (some ⟨g, 0, none⟩) jl capA) jl (vals js) := by simpa using h
    unfold OwnI
    rw [← HLc.out]
    exact h2)
  have HBA := Lib.hid (show Below w.heap.size w wA from HBc.out.grown HAA.out.2 HBc.out.size (fun q hq => by simp [Value.ownBlock] at hq; omega))
  clear HAA HBc HHc HLc HNLc HNc HOc
  go_ret
  exact ⟨⟨some ⟨g, 0, none⟩, jl, capA⟩, rfl, HOA.out, HLL.out, HBA.out⟩
set_option maxHeartbeats 1000000 in
theorem resultC (b cap : Nat) (js : List Int) (tx ty p q r s : Int) (w : World) (h4j : Is4 js p q r s) (h1 : 1 ≤ js.length) (h4 : js.length ≤ 4) :
    Calls Tryd.prog 73 #[sv b js.length cap tx ty, pv4 p q r s] w (Rowed js w) := by
  have HB := Lib.hid (below_box2 w (scells b js.length cap tx ty) (pcells p q r s))
  have P := (AtA.box w (.slice (some ⟨b, 0, none⟩) js.length cap) (.int .i64 tx) (.int .i64 ty) 88).alloc (pcells p q r s)
  have Q := At4.box (w.alloc (scells b js.length cap tx ty)) p q r s 91
  rw [show (w.alloc (scells b js.length cap tx ty)).heap.size = w.heap.size + 1 by simp] at Q
  have HI := Lib.hid (show IntsAt _ (some ⟨w.heap.size + 1, 0, none⟩) js.length js from ⟨rfl, .inr ⟨_, _, rfl, Q.lt, fun i hi => Q.ints h4j i (by omega)⟩⟩)
  obtain ⟨_, p1, p2, p3, _, _, _⟩ := id P
  have n3 : (0 : Int) ≤ (js.length : Int) := by omega
  have n4 : (js.length : Int) ≤ 4 := by omega
  clear P Q
  generalize hn : js.length = n at *
  have HN := Lib.hid hn
  clear hn
  go_enter Tryd.func73, Tryd.ntmps73
  go_wp2_with fail
  refine (cloneInts ⟨some ⟨w.heap.size + 1, 0, none⟩, n, 4⟩ js _ HI.out h1 h4).mono ?_
  generalize (w.alloc (scells b n cap tx ty)).alloc (pcells p q r s) = w0 at *
  rintro e w1 ⟨s, rfl, O1, l1, B1⟩
  have HR := Lib.hid (And.intro (O1.mono HB.out.size) (And.intro l1 (below_call HB.out B1)))
  clear O1 l1 B1 p1 p2 p3 HI
  go_wp2
  go_ret
  exact ⟨s, rfl, HR.out.1, HR.out.2.1, HR.out.2.2⟩
theorem splice_at (js : List Int) (i : Nat) (hi : i < 4) : (splice (vals [0, 0, 0, 0]) 0 (vals js))[i]? = some (.int .i64 (js.getD i 0)) := by
  unfold splice
  rw [List.take_zero, List.nil_append]
  by_cases h : i < js.length
  · rw [List.getElem?_append_left (by simpa [vals] using h), vals, List.getElem?_map, List.getElem?_eq_getElem h, List.getD_eq_getElem?_getD, List.getElem?_eq_getElem h]; rfl
  · rw [List.getElem?_append_right (by simp [vals]; omega), List.getElem?_drop, List.getD_eq_getElem?_getD, List.getElem?_eq_none (l := js) (by omega)]
    have e : 0 + (vals js).length + (i - (vals js).length) = i := by simp [vals]; omega
    rw [e]
    have h4 : i = 0 ∨ i = 1 ∨ i = 2 ∨ i = 3 := by omega
    rcases h4 with rfl | rfl | rfl | rfl <;> rfl
/-- A block of the call's own that holds four numbers. -/
structure Own4 (w : World) (b : Nat) (p q r s : Int) : Prop extends At4 w b p q r s where
  z0 : w.frozen? ⟨b, 0, none⟩ = false
  z1 : w.frozen? ⟨b, 1, none⟩ = false
  z2 : w.frozen? ⟨b, 2, none⟩ = false
  z3 : w.frozen? ⟨b, 3, none⟩ = false
theorem Own4.box (w : World) (p q r s : Int) (t : Nat) : Own4 (w.alloc (.cells #[.int .i64 p, .int .i64 q, .int .i64 r, .int .i64 s] t)) w.heap.size p q r s :=
  ⟨At4.box w p q r s t, World.frozen?_alloc_at _ _ _ _ rfl, World.frozen?_alloc_at _ _ _ _ rfl, World.frozen?_alloc_at _ _ _ _ rfl, World.frozen?_alloc_at _ _ _ _ rfl⟩
theorem Own4.low {w w' : World} {b B : Nat} {p q r s : Int} (h : Own4 w b p q r s) (hb : Below B w w') (hB : b < B) : Own4 w' b p q r s :=
  ⟨⟨Nat.lt_of_lt_of_le h.lt hb.size, (hb.cell (p := ⟨b, 0, none⟩) hB).trans h.c0, (hb.cell (p := ⟨b, 1, none⟩) hB).trans h.c1, (hb.cell (p := ⟨b, 2, none⟩) hB).trans h.c2, (hb.cell (p := ⟨b, 3, none⟩) hB).trans h.c3⟩,
   (hb.frozen (p := ⟨b, 0, none⟩) hB).trans h.z0, (hb.frozen (p := ⟨b, 1, none⟩) hB).trans h.z1, (hb.frozen (p := ⟨b, 2, none⟩) hB).trans h.z2, (hb.frozen (p := ⟨b, 3, none⟩) hB).trans h.z3⟩
theorem Own4.next {w w' : World} {b : Nat} {p q r s : Int} (h : Own4 w b p q r s) (hb : Below w.heap.size w w') : Own4 w' b p q r s := h.low hb h.lt
theorem cell_heap {w : World} {g t i : Nat} {cs : List Value} {v : Value} (h : w.heap[g]? = some (.cells cs.toArray t (0, 0))) (hv : cs[i]? = some v) : w.cell? ⟨g, i, none⟩ = some v := by
  simp [World.cell?, h, hv]
theorem below_set4 {w w' : World} (h : Below w.heap.size w w') {b : Nat} (hb : w.heap.size ≤ b) (u v x y : Value) : Below w.heap.size w ((((w'.setCell ⟨b, 0, none⟩ u).setCell ⟨b, 1, none⟩ v).setCell ⟨b, 2, none⟩ x).setCell ⟨b, 3, none⟩ y) :=
  (((h.setCell (p := ⟨b, 0, none⟩) hb u).setCell (p := ⟨b, 1, none⟩) hb v).setCell (p := ⟨b, 2, none⟩) hb x).setCell (p := ⟨b, 3, none⟩) hb y
set_option maxHeartbeats 1000000 in
theorem postureC (j : Sl) (js : List Int) (p q r s : Int) (w : World) (h4j : Is4 js p q r s) (hj : IntsAt w j.a j.len js) (h1 : 1 ≤ j.len) (h4 : j.len ≤ 4) :
    Calls Tryd.prog 84 #[.slice j.a j.len j.cap] w fun e w' => e = .returned (pv4 p q r s) ∧ Below w.heap.size w w' := by
  obtain ⟨ja, jl, jc⟩ := j
  simp only at *
  obtain ⟨b4, o4, rfl, lt4, c4⟩ := hj.some (by omega)
  have HB := Lib.hid (below_box2 w (pcells 0 0 0 0) (pcells 0 0 0 0))
  have HN := Lib.hid (cpNews (hj.next HB.out))
  have HLL := Lib.hid (show (vals js).length = Nat.min jl 4 by have := hj.1; rw [show jl.min 4 = jl from Nat.min_eq_left h4]; simp [vals]; omega)
  have HL4 := Lib.hid (show 0 + (vals js).length ≤ (vals [0, 0, 0, 0]).length by have := hj.1; simp [vals]; omega)
  have HG := Lib.hid (show ((w.alloc (pcells 0 0 0 0)).alloc (pcells 0 0 0 0)).heap[w.heap.size + 1]? = some (.cells (vals [0, 0, 0, 0]).toArray 91 (0, 0)) by
    show (((w.alloc (pcells 0 0 0 0)).heap.push (pcells 0 0 0 0)))[w.heap.size + 1]? = _
    have e : (w.alloc (pcells 0 0 0 0)).heap.size = w.heap.size + 1 := by simp
    rw [← e, Array.getElem?_push_size]
    rfl)
  have HSA := Lib.hid (fun i hi => splice_at js i hi)
  have HR := Lib.hid ((Own4.box w 0 0 0 0 91).next (below_box _ (pcells 0 0 0 0)))
  have HI := Lib.hid h4j
  clear hj c4 h4j
  go_enter Tryd.func84, Tryd.ntmps84
  go_upto_region 3 with (with_reducible refine wpList_copy_splice rfl (.tmp 4) (.tmp 5) 23 23 rfl 3 Tryd.underlying23 (by kernel_rfl) (some ⟨w.heap.size + 1, 0, none⟩) (some ⟨b4, o4, none⟩) 4 4 jl jc rfl rfl (w.heap.size + 1) 0 (vals [0, 0, 0, 0]) 91 HG.out (vals js) HLL.out (fun _ => ⟨rfl, _, rfl, HN.out⟩) HL4.out (cpOne _) (w.heap.size + 1) ((w.alloc (pcells 0 0 0 0)).alloc (pcells 0 0 0 0)) (Below.refl _ _) (Nat.le_refl _) ?_; intro w2 HG2 hB2)
  have e := HI.out
  have c0 := cell_heap HG2.out (HSA.out 0 (by omega))
  have c1 := cell_heap HG2.out (HSA.out 1 (by omega))
  have c2 := cell_heap HG2.out (HSA.out 2 (by omega))
  have c3 := cell_heap HG2.out (HSA.out 3 (by omega))
  rw [e.1] at c0
  rw [e.2.1] at c1
  rw [e.2.2.1] at c2
  rw [e.2.2.2] at c3
  obtain ⟨⟨_, r0, r1, r2, r3⟩, z0, z1, z2, z3⟩ := HR.out.low hB2 (by omega)
  have HW := Lib.hid (HB.out.trans (hB2.mono (by omega)))
  clear e HG2 hB2 HR HI HSA HN HG HLL HL4
  go_wp2
  exact bodyPost_ret (v := pv4 p q r s) (by simp [results, Tryd.results84, go_sem, r0, r1, r2, r3]) rfl ⟨rfl, below_set4 HW.out (Nat.le_refl _) _ _ _ _⟩
end Go.Proofs.YtolkihibjabmhaaDoor
