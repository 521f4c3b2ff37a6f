/- Several of my texts in one: Inv, Gst. -/
import Derived.Orders
import Derived.RegionTactic
import Derived.WalkKit
import Derived.Test.YtppkipcgpmijpaaZbRd
import Derived.Test.YtppkipcgpmijpaaZbDr
namespace Go.Proofs.Ytppkipcgpmijpaa
set_option maxRecDepth 100000
open Go.RowKit
section
variable {P : Program} {ops : Array Oper} {Q : Exit → Act → World → Prop}

/-- How many have not come up. -/
def unl : List Bool → Nat
  | [] => 0
  | b :: l => (if b then 0 else 1) + unl l
theorem unl_set : ∀ (l : List Bool) (i : Nat), l[i]? = some false → unl (l.set i true) + 1 = unl l
  | [], i, h => by simp at h
  | b :: l, 0, h => by
    simp at h; subst h; simp [unl]; omega
  | b :: l, i + 1, h => by
    have := unl_set l i (by simpa using h)
    simp only [List.set_cons_succ, unl]; omega
theorem unl_zero : ∀ (l : List Bool), unl l = 0 → ∀ i : Nat, l[i]? ≠ some false
  | [], _, i => by simp
  | b :: l, h, 0 => by
    intro hb; simp at hb; subst hb; simp [unl] at h
  | b :: l, h, i + 1 => by
    have := unl_zero l (by simp only [unl] at h; omega) i
    simpa using this
theorem getD_false {listed : Array Bool} {i : Nat} (h : listed.getD i true = false) : listed.toList[i]? = some false := by
  rw [Array.getD_eq_getD_getElem?] at h
  rw [Array.getElem?_toList]
  cases hx : listed[i]? with
  | none => rw [hx] at h; cases h
  | some b => rw [hx] at h; simp at h; rw [h]
/-- All have come up where none may: every edge that binds leads back. -/
theorem all_up {listed : Array Bool} (hlt : ∀ j o, ops[j]? = some o → ∀ e ∈ o.after, Region.binds .any e = true → e.on < j) (hs : listed.size = ops.size) (h : Region.ready .any ops listed = []) : ∀ j, j < ops.size → listed.getD j true = true := by
  intro j
  induction j using Nat.strongRecOn with
  | _ j ih =>
    intro hj
    cases hb : listed.getD j true with
    | true => rfl
    | false =>
      exfalso
      have hm : j ∈ Region.ready .any ops listed := by
        refine mem_ready.2 ⟨hb, ops[j], Array.getElem?_eq_getElem hj, fun e he hbe => ?_⟩
        have h1 := hlt j _ (Array.getElem?_eq_getElem hj) e he hbe
        have h2 := ih e.on h1 (by omega)
        have h3 : e.on < listed.size := by omega
        rw [Array.getD_eq_getD_getElem?, Array.getElem?_eq_getElem h3] at h2 ⊢
        exact h2
      rw [h] at hm
      cases hm
theorem wpAny_inv (R : Array Bool → Act → World → Prop) (hlt : ∀ j o, ops[j]? = some o → ∀ e ∈ o.after, Region.binds .any e = true → e.on < j) (hsz : ∀ listed a w, R listed a w → listed.size = ops.size)
    (hstep : ∀ listed a w i o, R listed a w → ops[i]? = some o → listed.getD i true = false → (∀ e ∈ o.after, Region.binds .any e = true → listed.getD e.on false = true) → wpOp P ops Q i (R (listed.setIfInBounds i true)) a w)
    (hdone : ∀ listed a w, R listed a w → (∀ j, j < ops.size → listed.getD j true = true) → Q .normal a w) :
    ∀ (fuel : Nat) (listed : Array Bool) (a : Act) (w : World), R listed a w → unl listed.toList ≤ fuel → wpAny P .any ops Q fuel listed a w
  | 0, listed, a, w, hR, hf => by
    have h0 : Region.ready .any ops listed = [] := by
      cases hr : Region.ready .any ops listed with
      | nil => rfl
      | cons i rs =>
        exfalso
        have hm : i ∈ Region.ready .any ops listed := by rw [hr]; exact List.mem_cons_self
        exact unl_zero _ (by omega) i (getD_false (mem_ready.1 hm).1)
    exact ⟨h0, hdone listed a w hR (all_up hlt (hsz _ _ _ hR) h0)⟩
  | fuel + 1, listed, a, w, hR, hf => by
    refine ⟨fun h0 => hdone listed a w hR (all_up hlt (hsz _ _ _ hR) h0), fun i hi => ?_⟩
    obtain ⟨hl, o, ho, hd⟩ := mem_ready.1 hi
    refine wpOp_mono (fun a' w' h' => wpAny_inv R hlt hsz hstep hdone fuel _ a' w' h' ?_) (hstep listed a w i o hR ho hl hd)
    have := unl_set listed.toList i (getD_false hl)
    rw [Array.toList_setIfInBounds]
    omega
theorem unl_new : ∀ n, unl (List.replicate n false) = n
  | 0 => rfl
  | n + 1 => by rw [List.replicate_succ]; simp only [unl]; rw [unl_new n]; simp; omega
/-- **A region by an invariant.** -/
theorem wp_region_inv {id : Nat} {a : Act} {w : World} (R : Array Bool → Act → World → Prop) (hm : P.follows .mixedOrders = true) (hlt : ∀ j o, ops[j]? = some o → ∀ e ∈ o.after, Region.binds .any e = true → e.on < j)
    (hsz : ∀ listed a w, R listed a w → listed.size = ops.size) (h0 : R (Array.replicate ops.size false) a w.drew)
    (hstep : ∀ listed a w i o, R listed a w → ops[i]? = some o → listed.getD i true = false → (∀ e ∈ o.after, Region.binds .any e = true → listed.getD e.on false = true) → wpOp P ops Q i (R (listed.setIfInBounds i true)) a w)
    (hdone : ∀ listed a w, R listed a w → (∀ j, j < ops.size → listed.getD j true = true) → Q .normal a w) : (Code.region id ops true).wp P Q a w :=
  wp_region_any hm (wpAny_inv R hlt hsz hstep hdone _ _ _ _ h0 (by simp [unl_new]))
end
end Go.Proofs.Ytppkipcgpmijpaa
namespace Go.Proofs.Ytppkipcgpmijpaa
set_option maxRecDepth 100000
open Go.RowKit
/-- In u the reader r has been asked at most M times, and all that lay in w0 lies as it lay, but for the reader and the blocks of rs. -/
structure GSt (w w0 : World) (r : Nat) (rs : List Nat) (M : Nat) (u : World) : Prop where
  rd : Rd w.heap.size M u r
  old : Below w.heap.size w u
  size : w0.heap.size ≤ u.heap.size
  keep : ∀ k, k < w0.heap.size → k ≠ r → k ∉ rs → u.heap[k]? = w0.heap[k]?
section
variable {w w0 u u' : World} {r M M' : Nat} {rs : List Nat}
theorem GSt.start (hr : Rd w.heap.size M w0 r) (hb : Below w.heap.size w w0) : GSt w w0 r rs M w0 := ⟨hr, hb, Nat.le_refl _, fun _ _ _ _ => rfl⟩
theorem GSt.next (h : GSt w w0 r rs M u) (hb : Below u.heap.size u u') : GSt w w0 r rs M u' :=
  ⟨h.rd.kept (row := none) ⟨hb.os, hb.tape, hb.output, hb.size, fun k hk _ => hb.block k hk⟩ (by simp) (fun k hk => by cases hk), below_call h.old hb, Nat.le_trans h.size hb.size, fun k h1 h2 h3 => (hb.block k (Nat.lt_of_lt_of_le h1 h.size)).trans (h.keep k h1 h2 h3)⟩
theorem GSt.drew (h : GSt w w0 r rs M u) : GSt w w0 r rs M u.drew := h.next (below_drew' u)
theorem GSt.grown (h : GSt w w0 r rs M u) (hr : Rd w.heap.size M' u' r) (hg : u.grownBy u' (some r)) : GSt w w0 r rs M' u' :=
  ⟨hr, h.old.grown hg h.old.size (fun q hq => by injection hq with hq; subst hq; exact h.rd.ge), Nat.le_trans h.size hg.size, fun k h1 h2 h3 => (hg.block k (Nat.lt_of_lt_of_le h1 h.size) (by simpa using h2)).trans (h.keep k h1 h2 h3)⟩
theorem GSt.set1 (h : GSt w w0 r rs M u) {k o : Nat} (hk : k ∈ rs) (hw : w.heap.size ≤ k) (hr : k ≠ r) (a : Value) : GSt w w0 r rs M (u.setCell ⟨k, o, none⟩ a) :=
  ⟨h.rd.set hr hw _, h.old.setCell (p := ⟨k, o, none⟩) hw _, by simpa [World.setCell] using h.size, fun q h1 h2 h3 => (Below.heap_setCell u _ _ q (by show q ≠ k; rintro rfl; exact h3 hk)).trans (h.keep q h1 h2 h3)⟩
theorem GSt.set2 (h : GSt w w0 r rs M u) {k : Nat} (hk : k ∈ rs) (hw : w.heap.size ≤ k) (hr : k ≠ r) (a b : Value) : GSt w w0 r rs M ((u.setCell ⟨k, 0, none⟩ a).setCell ⟨k, 1, none⟩ b) :=
  (h.set1 hk hw hr a).set1 hk hw hr b
theorem GSt.atp (h : GSt w w0 r rs M u) {V : Nat} {x y : Int} (hp : AtP w0 V x y) (h1 : V ≠ r) (h2 : V ∉ rs) : AtP u V x y :=
  have e := h.keep V hp.lt h1 h2
  ⟨Nat.lt_of_lt_of_le hp.lt h.size, (World.cell?_of_block (a := ⟨V, 0, none⟩) e).trans hp.c0, (World.cell?_of_block (a := ⟨V, 1, none⟩) e).trans hp.c1⟩
theorem GSt.set3 (h : GSt w w0 r rs M u) {k : Nat} (hk : k ∈ rs) (hw : w.heap.size ≤ k) (hr : k ≠ r) (a b c : Value) : GSt w w0 r rs M (((u.setCell ⟨k, 0, none⟩ a).setCell ⟨k, 1, none⟩ b).setCell ⟨k, 2, none⟩ c) :=
  (h.set2 hk hw hr a b).set1 hk hw hr c
theorem GSt.ata (h : GSt w w0 r rs M u) {V : Nat} {x y z : Value} (hp : AtA w0 V x y z) (h1 : V ≠ r) (h2 : V ∉ rs) : AtA u V x y z :=
  have e := h.keep V hp.lt h1 h2
  ⟨Nat.lt_of_lt_of_le hp.lt h.size, (World.cell?_of_block (a := ⟨V, 0, none⟩) e).trans hp.c0, (World.cell?_of_block (a := ⟨V, 1, none⟩) e).trans hp.c1, (World.cell?_of_block (a := ⟨V, 2, none⟩) e).trans hp.c2,
    (World.frozen?_of_block (a := ⟨V, 0, none⟩) e).trans hp.z0, (World.frozen?_of_block (a := ⟨V, 1, none⟩) e).trans hp.z1, (World.frozen?_of_block (a := ⟨V, 2, none⟩) e).trans hp.z2⟩
end
/-- Every edge that binds leads back. -/
def backB (ops : Array Oper) : Bool := (List.range ops.size).all fun j => match ops[j]? with | some o => o.after.all (fun e => !Region.binds .any e || decide (e.on < j)) | none => true
theorem backB_spec {ops : Array Oper} (h : backB ops = true) : ∀ j o, ops[j]? = some o → ∀ e ∈ o.after, Region.binds .any e = true → e.on < j := by
  intro j o ho e he hb
  have h1 := List.all_eq_true.1 h j (List.mem_range.2 (Array.getElem?_eq_some_iff.1 ho).1)
  rw [ho] at h1
  have h2 := Array.all_eq_true'.1 h1 e he
  simpa [hb] using h2
/-- A fresh slice's block, made behind block r: what it holds. -/
def GArr (r : Nat) (u : World) (b : Nat) (vs : List Int) : Prop := b < u.heap.size ∧ r < b ∧ ∀ i z, vs[i]? = some z → u.cell? ⟨b, i, none⟩ = some (.int .i64 z)
/-- Whatever fresh slice there was is there. -/
def GKeeps (r : Nat) (u u' : World) : Prop := ∀ b vs, GArr r u b vs → GArr r u' b vs
theorem GKeeps.alloc (r : Nat) (u : World) (o : Obj) : GKeeps r u (u.alloc o) := fun b _ h =>
  ⟨by simp; exact Nat.lt_succ_of_lt h.1, h.2.1, fun i v hv => (World.cell?_alloc_lt u o ⟨b, i, none⟩ h.1).trans (h.2.2 i v hv)⟩
theorem GKeeps.grown {r : Nat} {u u' : World} (h : u.grownBy u' (some r)) : GKeeps r u u' := fun b _ k =>
  ⟨Nat.lt_of_lt_of_le k.1 h.size, k.2.1, fun i v hv => (h.cell_far ⟨b, i, none⟩ k.1 (by simp; have := k.2.1; omega)).trans (k.2.2 i v hv)⟩
theorem GKeeps.set {r c o : Nat} (u : World) (v : Value) (hc : c < r) : GKeeps r u (u.setCell ⟨c, o, none⟩ v) := fun b _ k =>
  ⟨by simpa [World.setCell] using k.1, k.2.1, fun i v hv => (World.cell?_setCell_far _ _ _ _ (by show c ≠ b; have := k.2.1; omega)).trans (k.2.2 i v hv)⟩
theorem GKeeps.trans {r : Nat} {u u' u'' : World} (h : GKeeps r u u') (k : GKeeps r u' u'') : GKeeps r u u'' := fun b vs A => k b vs (h b vs A)
theorem GKeeps.set2 {r c : Nat} (u : World) (a b : Value) (hc : c < r) : GKeeps r u ((u.setCell ⟨c, 0, none⟩ a).setCell ⟨c, 1, none⟩ b) := (GKeeps.set u a hc).trans (GKeeps.set _ b hc)
theorem GKeeps.set3 {r c : Nat} (u : World) (a b d : Value) (hc : c < r) : GKeeps r u (((u.setCell ⟨c, 0, none⟩ a).setCell ⟨c, 1, none⟩ b).setCell ⟨c, 2, none⟩ d) := (GKeeps.set2 u a b hc).trans (GKeeps.set _ d hc)
theorem GArr.new {r : Nat} (u : World) (vs : List Int) (ws : List Value) (hw : ws = vs.map (fun z => Value.int .i64 z)) (t : TypeId) (h : r < u.heap.size) : GArr r (u.alloc (.cells ws.toArray t)) u.heap.size vs :=
  ⟨by simp, h, fun i v hv => by rw [World.cell?_alloc_at _ _ _ _ rfl]; subst hw; simp [hv]⟩
/-- A number from lo to hi. -/
def CI (lo hi : Int) (v : Value) : Prop := ∃ x : Int, v = .int .i64 x ∧ lo ≤ x ∧ x ≤ hi
/-- A fresh slice of n numbers from lo to hi. -/
def CA (r : Nat) (u : World) (n : Nat) (lo hi : Int) (v : Value) : Prop := ∃ (b : Nat) (vs : List Int), v = .slice (some ⟨b, 0, none⟩) n n ∧ vs.length = n ∧ (∀ z ∈ vs, lo ≤ z ∧ z ≤ hi) ∧ GArr r u b vs
/-- The place of a number from lo to hi in a fresh slice. -/
def CP (r : Nat) (u : World) (lo hi : Int) (v : Value) : Prop := ∃ (b k : Nat) (vs : List Int) (z : Int), v = .pointer (some ⟨b, k, none⟩) ∧ vs[k]? = some z ∧ lo ≤ z ∧ z ≤ hi ∧ GArr r u b vs
theorem CA.keep {r n : Nat} {u u' : World} {lo hi : Int} {v : Value} (h : CA r u n lo hi v) (k : GKeeps r u u') : CA r u' n lo hi v := by
  obtain ⟨b, vs, h1, h2, h3, h4⟩ := h; exact ⟨b, vs, h1, h2, h3, k _ _ h4⟩
theorem CP.keep {r : Nat} {u u' : World} {lo hi : Int} {v : Value} (h : CP r u lo hi v) (k : GKeeps r u u') : CP r u' lo hi v := by
  obtain ⟨b, i, vs, z, h1, h2, h3, h4, h5⟩ := h; exact ⟨b, i, vs, z, h1, h2, h3, h4, k _ _ h5⟩
theorem CA.index {r n : Nat} {u : World} {lo hi : Int} {v : Value} (h : CA r u n lo hi v) : ∃ b, v = .slice (some ⟨b, 0, none⟩) n n ∧ ∀ x : Int, 0 ≤ x → x < n → CP r u lo hi (.pointer (some ⟨b, x.toNat, none⟩)) := by
  obtain ⟨b, vs, h1, h2, h3, h4⟩ := h
  refine ⟨b, h1, fun x h0 hn => ?_⟩
  have hx : x.toNat < vs.length := by omega
  have hz := h3 vs[x.toNat] (List.getElem_mem hx)
  exact ⟨b, x.toNat, vs, vs[x.toNat], rfl, List.getElem?_eq_getElem hx, hz.1, hz.2, h4⟩
theorem CP.load {r : Nat} {u : World} {lo hi : Int} {v : Value} (h : CP r u lo hi v) : ∃ (b k : Nat) (z : Int), v = .pointer (some ⟨b, k, none⟩) ∧ u.cell? ⟨b, k, none⟩ = some (.int .i64 z) ∧ lo ≤ z ∧ z ≤ hi := by
  obtain ⟨b, k, vs, z, h1, h2, h3, h4, h5⟩ := h
  exact ⟨b, k, z, h1, h5.2.2 k z h2, h3, h4⟩
theorem CI.any {lo hi : Int} {v : Value} (h : CI lo hi v) : ∃ x : Int, v = .int .i64 x ∧ lo ≤ x ∧ x ≤ hi := h
theorem gpick {w w0 u : World} {r M : Nat} {rs : List Nat} (n : Int) (hn : 1 ≤ n) (h : GSt w w0 r rs M u) (hM : M ≤ 1000000) :
    Calls Try.prog 45 #[.pointer (some ⟨r, 0, none⟩), .int .i64 n] u fun e u' => ∃ x : Int, 0 ≤ x ∧ x < n ∧ e = .returned (.int .i64 x) ∧ GSt w w0 r rs (M + 1) u' ∧ GKeeps r u u' ∧ u.grownBy u' (some r) :=
  (pick _ M _ n u h.rd hM).mono fun _ _ ⟨x, p0, p1, he, hr, hg, _⟩ => ⟨x, p0, p1 hn, he, h.grown hr hg, GKeeps.grown hg, hg⟩
theorem gopened {B : Nat} {w : World} {a : Option Addr} {len cap t : Nat} (hc : Code B w a len) (hB : B ≤ w.heap.size) (hl : len ≤ 2000) :
    Rd B 0 (w.alloc (.cells #[.slice a len cap, .int .i64 0] t)) w.heap.size ∧ Below w.heap.size w (w.alloc (.cells #[.slice a len cap, .int .i64 0] t)) := by
  refine ⟨⟨hB, by simp, a, len, cap, 0, hl, Nat.le_refl _, ?_, ?_, ?_, ?_⟩, (Below.refl _ _).alloc (Nat.le_refl _) _⟩
  · simp
  · simp
  · exact World.frozen?_alloc_at _ _ _ _ rfl
  · exact hc.below fun x hx => World.cell?_alloc_lt _ _ _ (by omega)
theorem gopen (w u : World) (a : Option Addr) (len cap : Nat) (zs : List Int) (h : Bytes w a len cap zs) (hb : Below w.heap.size w u) (r : Nat) (hr : u.heap.size = r) :
    Calls Try.prog 36 #[.slice a len cap] u fun e u' => e = .returned (.pointer (some ⟨r, 0, none⟩)) ∧ Rd w.heap.size 0 u' r ∧ Below u.heap.size u u' := by
  subst hr
  obtain ⟨hl, hm⟩ := h.len_le
  unfold maxLen at hm
  have hcode : ∀ k, k ≤ len → Code w.heap.size u a k := fun k hk => (h.code k hk).below fun x hx => hb.cell hx
  have hs := hb.size
  by_cases h2 : 2000 < len
  · have HS := Lib.hid (gopened (cap := cap) (t := 60) (hcode 2000 (by omega)) hs (Nat.le_refl _))
    clear h hcode hb
    go_enter Try.func36, Try.ntmps36
    go_wp2
    go_ret
    exact ⟨rfl, HS.out⟩
  · have HS := Lib.hid (gopened (cap := cap) (t := 60) (hcode len (Nat.le_refl _)) hs (by omega))
    clear h hcode hb
    go_enter Try.func36, Try.ntmps36
    go_wp2
    go_ret
    exact ⟨rfl, HS.out⟩
end Go.Proofs.Ytppkipcgpmijpaa
