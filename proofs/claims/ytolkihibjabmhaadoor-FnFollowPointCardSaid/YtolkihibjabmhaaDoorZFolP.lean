/- Several of my texts in one: Inv, WFollowPoint, DrawG. -/
import Derived.Orders
import Derived.RegionTactic
import Derived.WalkKit
import Derived.Test.YtolkihibjabmhaaDoorZIm
import Derived.Test.YtolkihibjabmhaaDoorOp
import Derived.Deep.RegionHeld3
import Derived.Test.YtolkihibjabmhaaDoorZDraw
namespace Go.Proofs.YtolkihibjabmhaaDoor
set_option maxRecDepth 100000
open Go.RowKit
section
variable {P : Program} {ops : Array Oper} {Q : Exit → Act → World → Prop}

/-- How many have not come up. -/
def unl : List Bool → Nat
  | [] => 0
  | b :: l => (if b then 0 else 1) + unl l
theorem unl_set : ∀ (l : List Bool) (i : Nat), l[i]? = some false → unl (l.set i true) + 1 = unl l
  | [], i, h => by simp at h
  | b :: l, 0, h => by
    simp at h; subst h; simp [unl]; omega
  | b :: l, i + 1, h => by
    have := unl_set l i (by simpa using h)
    simp only [List.set_cons_succ, unl]; omega
theorem unl_zero : ∀ (l : List Bool), unl l = 0 → ∀ i : Nat, l[i]? ≠ some false
  | [], _, i => by simp
  | b :: l, h, 0 => by
    intro hb; simp at hb; subst hb; simp [unl] at h
  | b :: l, h, i + 1 => by
    have := unl_zero l (by simp only [unl] at h; omega) i
    simpa using this
theorem getD_false {listed : Array Bool} {i : Nat} (h : listed.getD i true = false) : listed.toList[i]? = some false := by
  rw [Array.getD_eq_getD_getElem?] at h
  rw [Array.getElem?_toList]
  cases hx : listed[i]? with
  | none => rw [hx] at h; cases h
  | some b => rw [hx] at h; simp at h; rw [h]
/-- All have come up where none may: every edge that binds leads back. -/
theorem all_up {listed : Array Bool} (hlt : ∀ j o, ops[j]? = some o → ∀ e ∈ o.after, Region.binds .any e = true → e.on < j) (hs : listed.size = ops.size) (h : Region.ready .any ops listed = []) : ∀ j, j < ops.size → listed.getD j true = true := by
  intro j
  induction j using Nat.strongRecOn with
  | _ j ih =>
    intro hj
    cases hb : listed.getD j true with
    | true => rfl
    | false =>
      exfalso
      have hm : j ∈ Region.ready .any ops listed := by
        refine mem_ready.2 ⟨hb, ops[j], Array.getElem?_eq_getElem hj, fun e he hbe => ?_⟩
        have h1 := hlt j _ (Array.getElem?_eq_getElem hj) e he hbe
        have h2 := ih e.on h1 (by omega)
        have h3 : e.on < listed.size := by omega
        rw [Array.getD_eq_getD_getElem?, Array.getElem?_eq_getElem h3] at h2 ⊢
        exact h2
      rw [h] at hm
      cases hm
theorem wpAny_inv (R : Array Bool → Act → World → Prop) (hlt : ∀ j o, ops[j]? = some o → ∀ e ∈ o.after, Region.binds .any e = true → e.on < j) (hsz : ∀ listed a w, R listed a w → listed.size = ops.size)
    (hstep : ∀ listed a w i o, R listed a w → ops[i]? = some o → listed.getD i true = false → (∀ e ∈ o.after, Region.binds .any e = true → listed.getD e.on false = true) → wpOp P ops Q i (R (listed.setIfInBounds i true)) a w)
    (hdone : ∀ listed a w, R listed a w → (∀ j, j < ops.size → listed.getD j true = true) → Q .normal a w) :
    ∀ (fuel : Nat) (listed : Array Bool) (a : Act) (w : World), R listed a w → unl listed.toList ≤ fuel → wpAny P .any ops Q fuel listed a w
  | 0, listed, a, w, hR, hf => by
    have h0 : Region.ready .any ops listed = [] := by
      cases hr : Region.ready .any ops listed with
      | nil => rfl
      | cons i rs =>
        exfalso
        have hm : i ∈ Region.ready .any ops listed := by rw [hr]; exact List.mem_cons_self
        exact unl_zero _ (by omega) i (getD_false (mem_ready.1 hm).1)
    exact ⟨h0, hdone listed a w hR (all_up hlt (hsz _ _ _ hR) h0)⟩
  | fuel + 1, listed, a, w, hR, hf => by
    refine ⟨fun h0 => hdone listed a w hR (all_up hlt (hsz _ _ _ hR) h0), fun i hi => ?_⟩
    obtain ⟨hl, o, ho, hd⟩ := mem_ready.1 hi
    refine wpOp_mono (fun a' w' h' => wpAny_inv R hlt hsz hstep hdone fuel _ a' w' h' ?_) (hstep listed a w i o hR ho hl hd)
    have := unl_set listed.toList i (getD_false hl)
    rw [Array.toList_setIfInBounds]
    omega
theorem unl_new : ∀ n, unl (List.replicate n false) = n
  | 0 => rfl
  | n + 1 => by rw [List.replicate_succ]; simp only [unl]; rw [unl_new n]; simp; omega
/-- **A region by an invariant.** -/
theorem wp_region_inv {id : Nat} {a : Act} {w : World} (R : Array Bool → Act → World → Prop) (hm : P.follows .mixedOrders = true) (hlt : ∀ j o, ops[j]? = some o → ∀ e ∈ o.after, Region.binds .any e = true → e.on < j)
    (hsz : ∀ listed a w, R listed a w → listed.size = ops.size) (h0 : R (Array.replicate ops.size false) a w.drew)
    (hstep : ∀ listed a w i o, R listed a w → ops[i]? = some o → listed.getD i true = false → (∀ e ∈ o.after, Region.binds .any e = true → listed.getD e.on false = true) → wpOp P ops Q i (R (listed.setIfInBounds i true)) a w)
    (hdone : ∀ listed a w, R listed a w → (∀ j, j < ops.size → listed.getD j true = true) → Q .normal a w) : (Code.region id ops true).wp P Q a w :=
  wp_region_any hm (wpAny_inv R hlt hsz hstep hdone _ _ _ _ h0 (by simp [unl_new]))
end
end Go.Proofs.YtolkihibjabmhaaDoor
namespace Go.Proofs.YtolkihibjabmhaaDoor
open Go.RowKit
attribute [local go_sem ↓] Go.wp_at_zero Go.wp_at_succ
/-- A drawn arm, angles, a point and a number of steps: the lists are short; nothing that was there has changed. -/
def GotArmJTS (w : World) (e : Ending) (w' : World) : Prop :=
  ∃ (x y z s : Sl) (ls lo hi js : List Int) (tx ty st : Int), e = .returned (.tuple #[av x y z, .slice s.a s.len s.cap, pt tx ty, .int .i64 st]) ∧ IntsAt w' x.a x.len ls ∧ IntsAt w' y.a y.len lo ∧ IntsAt w' z.a z.len hi ∧ IntsAt w' s.a s.len js ∧ (x.len ≤ 5 ∧ y.len ≤ 4 ∧ z.len ≤ 4 ∧ s.len ≤ 6) ∧ (-20000 ≤ tx ∧ tx ≤ 20000 ∧ -20000 ≤ ty ∧ ty ≤ 20000) ∧ (-1 ≤ st ∧ st ≤ 501) ∧ Below w.heap.size w w'
/-- What the draw of FnFollowPoint says at every code. -/
def DrawsFollow : Prop := ∀ (w : World) (a : Option Addr) (len cap : Nat) (zs : List Int), Bytes w a len cap zs → Calls Tryd.prog 48 #[.slice a len cap] w (GotArmJTS w)
theorem followV_four (ls lo hi js : List Int) (tx ty st : Int) : (followV ls lo hi js tx ty st).length ≤ 4 := by
  unfold followV
  split
  · rename_i h
    rw [followM_len]
    have := h.1.2.1; have := h.1.1.2.1; omega
  · simp
theorem keepAP {w u : World} {b c : Nat} {x y z : Value} {tx ty : Int} (h : Below w.heap.size w u) (A : AtA w b x y z) (Q : AtP w c tx ty) : u.cell? ⟨b, 0, none⟩ = some x ∧ u.cell? ⟨b, 1, none⟩ = some y ∧ u.cell? ⟨b, 2, none⟩ = some z ∧ u.cell? ⟨c, 0, none⟩ = some (.int .i64 tx) ∧ u.cell? ⟨c, 1, none⟩ = some (.int .i64 ty) :=
  ⟨(A.next h).c0, (A.next h).c1, (A.next h).c2, (Q.next h).c0, (Q.next h).c1⟩
set_option maxHeartbeats 8000000 in
set_option maxRecDepth 100000 in
theorem walkFnFollowPointD (hdraw : DrawsFollow) (w : World) (ht : TabAt w) (a : Option Addr) (len cap : Nat) (zs : List Int) (h : Bytes w a len cap zs) :
    Calls Tryd.prog 11 #[.slice a len cap] w fun e w' => e = .returned (.bool true) ∧ Below w.heap.size w w' := by
  have hle := h.len_le
  obtain ⟨hl, hm⟩ := hle
  unfold maxLen at hm
  have HT := Lib.hid ht
  clear ht
  by_cases hlen : len ≤ 1048576
  · go_enter Tryd.func11, Tryd.ntmps11
    go_wp2_with fail
    refine (hdraw w a len cap zs h).mono ?_
    rintro e w1 ⟨⟨xa, xl, xc⟩, ⟨ya, yl, yc⟩, ⟨za, zl, zc⟩, ⟨sa, sl, sc⟩, ls, lo, hi, js, tx, ty, st, rfl, i1, i2, i3, i4, ⟨lx, ly, lz, ls4⟩, HTB, ⟨st1, st2⟩, B1⟩
    simp only at i1 i2 i3 i4 lx ly lz ls4
    replace HTB := Lib.hid HTB
    have P := (AtA.box w1 (.slice xa xl xc) (.slice ya yl yc) (.slice za zl zc) 25).alloc (.cells #[.int .i64 tx, .int .i64 ty] 35)
    have Q := AtP.box (w1.alloc (.cells #[.slice xa xl xc, .slice ya yl yc, .slice za zl zc] 25)) tx ty 35
    rw [show (w1.alloc (.cells #[.slice xa xl xc, .slice ya yl yc, .slice za zl zc] 25)).heap.size = w1.heap.size + 1 by simp] at Q
    have Bx := below_box2 w1 (.cells #[.slice xa xl xc, .slice ya yl yc, .slice za zl zc] 25) (.cells #[.int .i64 tx, .int .i64 ty] 35)
    replace i1 := i1.next Bx
    replace i2 := i2.next Bx
    replace i3 := i3.next Bx
    replace i4 := i4.next Bx
    have HB := Lib.hid (below_call B1 Bx)
    clear B1 Bx h
    go_wp2_with fail
    refine (implFollowPoint ⟨xa, xl, xc⟩ ⟨ya, yl, yc⟩ ⟨za, zl, zc⟩ ⟨sa, sl, sc⟩ ls lo hi js tx ty st _ (HT.out.below HB.out HT.out.lt) i1 i2 i3 i4 (by simp only; omega) (by simp only; omega) (by simp only; omega) (by simp only; omega)).mono ?_
    generalize (w1.alloc (.cells #[.slice xa xl xc, .slice ya yl yc, .slice za zl zc] 25)).alloc (.cells #[.int .i64 tx, .int .i64 ty] 35) = w2 at *
    rintro e w3 ⟨⟨ca, cl, cc⟩, rfl, O3, e3, B3⟩
    replace i1 := i1.next B3
    replace i2 := i2.next B3
    replace i3 := i3.next B3
    replace i4 := i4.next B3
    replace P := P.next B3
    replace Q := Q.next B3
    replace HB := Lib.hid (below_call HB.out B3)
    simp only at O3 e3
    have i5 := O3.ints
    replace e3 := Lib.hid e3
    clear O3 B3
    obtain ⟨_, p1, p2, p3, _, _, _⟩ := id P
    obtain ⟨_, q1, q2⟩ := id Q
    go_wp2_with fail
    refine (specFollowPoint ⟨xa, xl, xc⟩ ⟨ya, yl, yc⟩ ⟨za, zl, zc⟩ ⟨sa, sl, sc⟩ ls lo hi js tx ty st _ i1 i2 i3 i4 (by simp only; omega) (by simp only; omega) (by simp only; omega) (by simp only; omega)).mono ?_
    rintro e w4 ⟨⟨da, dl, dc⟩, rfl, O4, e4, B4⟩
    replace i1 := i1.next B4
    replace i2 := i2.next B4
    replace i3 := i3.next B4
    replace i4 := i4.next B4
    replace P := P.next B4
    replace Q := Q.next B4
    replace i5 := i5.next B4
    replace HB := Lib.hid (below_call HB.out B4)
    simp only at O4 e4
    obtain rfl : cl = dl := by rw [e3.out, e4]
    have i6 := O4.ints
    clear O4 e4 B4 p1 p2 p3 q1 q2
    have hcl : cl ≤ 4 := by rw [e3.out]; exact followV_four ls lo hi js tx ty st
    go_wp2_with fail
    refine (sameInts ca da cl cl cc dc (followV ls lo hi js tx ty st) _ i5 i6 (by omega)).mono ?_
    rintro e w5 ⟨rfl, B5⟩
    replace i1 := i1.next B5
    replace i2 := i2.next B5
    replace i3 := i3.next B5
    replace i4 := i4.next B5
    replace P := P.next B5
    replace Q := Q.next B5
    replace i5 := i5.next B5
    replace HB := Lib.hid (below_call HB.out B5)
    clear B5 i6
    by_cases hv : okJoints ls lo hi js ∧ okP tx ty ∧ 0 ≤ st ∧ st ≤ 500
    · obtain ⟨sn, rfl⟩ : ∃ sn : Nat, st = (sn : Int) := ⟨st.toNat, by have := hv.2.2.1; omega⟩
      have HFV := Lib.hid (show followV ls lo hi js tx ty (sn : Int) = flJ ls lo hi js tx ty sn from followV_in hv)
      rw [HFV.out] at i5 e3
      have hs5 : sn ≤ 500 := by have := hv.2.2.2; omega
      have HV := Lib.hid (show okJoints ls lo hi js ∧ okP tx ty from ⟨hv.1, hv.2.1⟩)
      have HOV := Lib.hid (flJ_ok tx ty hv.1 sn)
      have HLE := Lib.hid (show distV ls tx ty (flJ ls lo hi js tx ty sn) ≤ distV ls tx ty js from followM_le (okJoints ls lo hi) (distV ls tx ty) js sn)
      have n1 : 1 ≤ cl := by rw [e3.out, flJ_len, hv.1.2.1]; exact hv.1.1.1
      have ec : ((cl : Int) == 0) = false := by simp; omega
      obtain ⟨hn, hhn⟩ : ∃ hn : Nat, (sn : Int) / 2 = (hn : Int) := ⟨sn / 2, by omega⟩
      obtain ⟨rn, hrn⟩ : ∃ rn : Nat, (sn : Int) - (hn : Int) = (rn : Int) := ⟨sn - hn, by omega⟩
      have HAD := Lib.hid (show flJ ls lo hi (flJ ls lo hi js tx ty hn) tx ty rn = flJ ls lo hi js tx ty sn by
        rw [show sn = hn + rn by omega]; exact followM_add (okJoints ls lo hi) (distV ls tx ty) js hn rn)
      have HMV := Lib.hid (show followV ls lo hi js tx ty (hn : Int) = flJ ls lo hi js tx ty hn from followV_in ⟨hv.1, hv.2.1, by omega, by omega⟩)
      have HMO := Lib.hid (flJ_ok tx ty hv.1 hn)
      have HMW := Lib.hid (show followV ls lo hi (flJ ls lo hi js tx ty hn) tx ty (rn : Int) = flJ ls lo hi js tx ty sn by rw [followV_in ⟨HMO.out, hv.2.1, by omega, by omega⟩, ← HAD.out]; rfl)
      have hml : (flJ ls lo hi js tx ty hn).length ≤ 4 := by rw [flJ_len, hv.1.2.1]; exact hv.1.1.2.1
      have HTB2 := Lib.hid (HT.out.below HB.out HT.out.lt)
      have HI1 := Lib.hid i1
      have HI2 := Lib.hid i2
      have HI3 := Lib.hid i3
      have HI4 := Lib.hid i4
      have HF1 := Lib.hid (fun (u : World) (hu : Below w5.heap.size w5 u) => show Calls Tryd.prog 49 #[av ⟨xa, xl, xc⟩ ⟨ya, yl, yc⟩ ⟨za, zl, zc⟩, .slice sa sl sc, pt tx ty, .int .i64 (hn : Int)] u fun e w' => ∃ s : Sl, e = .returned (.slice s.a s.len s.cap) ∧ Hid (IntsAt w' s.a s.len (flJ ls lo hi js tx ty hn) ∧ s.len ≤ 4) ∧ Below w5.heap.size w5 w' by
        have h := implFollowPoint ⟨xa, xl, xc⟩ ⟨ya, yl, yc⟩ ⟨za, zl, zc⟩ ⟨sa, sl, sc⟩ ls lo hi js tx ty (hn : Int) u (HTB2.out.below hu HTB2.out.lt) (HI1.out.next hu) (HI2.out.next hu) (HI3.out.next hu) (HI4.out.next hu) (by simp only; omega) (by simp only; omega) (by simp only; omega) (by simp only; omega)
        rw [HMV.out] at h
        exact h.mono fun _ _ ⟨s, he, h1, h2, h3⟩ => ⟨s, he, Lib.hid ⟨h1.ints, by rw [h2]; exact hml⟩, below_call hu h3⟩)
      have HF2 := Lib.hid (fun (s : Sl) (u : World) (hs : Hid (IntsAt u s.a s.len (flJ ls lo hi js tx ty hn) ∧ s.len ≤ 4)) (hu : Below w5.heap.size w5 u) => show Calls Tryd.prog 49 #[av ⟨xa, xl, xc⟩ ⟨ya, yl, yc⟩ ⟨za, zl, zc⟩, .slice s.a s.len s.cap, pt tx ty, .int .i64 (rn : Int)] u fun e w' => ∃ s : Sl, e = .returned (.slice s.a s.len s.cap) ∧ Hid (IntsAt w' s.a s.len (flJ ls lo hi js tx ty sn) ∧ s.len ≤ 4) ∧ Below w5.heap.size w5 w' by
        have h := implFollowPoint ⟨xa, xl, xc⟩ ⟨ya, yl, yc⟩ ⟨za, zl, zc⟩ s ls lo hi (flJ ls lo hi js tx ty hn) tx ty (rn : Int) u (HTB2.out.below hu HTB2.out.lt) (HI1.out.next hu) (HI2.out.next hu) (HI3.out.next hu) hs.out.1 (by simp only; omega) (by simp only; omega) (by simp only; omega) (by have := hs.out.2; omega)
        rw [HMW.out] at h
        exact h.mono fun _ _ ⟨s, he, h1, h2, h3⟩ => ⟨s, he, Lib.hid ⟨h1.ints, by rw [h2, flJ_len, HV.out.1.2.1]; exact HV.out.1.1.2.1⟩, below_call hu h3⟩)
      have Bz : Below w5.heap.size w5 w5 := Below.refl _ _
      have o1 : IntKind.i64.wrap (rn : Int) = (rn : Int) := IntWalk.i64_in _ (by omega)
      have HCL := Lib.hid e3.out
      have PP := P
      have QQ := Q
      clear hv e3 i1 i2 i3 i4 hcl hml
      go_wp2
      go_region_held3 (fun u => u.cell? ⟨w1.heap.size, 0, none⟩ = some (.slice xa xl xc) ∧ u.cell? ⟨w1.heap.size, 1, none⟩ = some (.slice ya yl yc) ∧ u.cell? ⟨w1.heap.size, 2, none⟩ = some (.slice za zl zc) ∧ u.cell? ⟨w1.heap.size + 1, 0, none⟩ = some (.int .i64 tx) ∧ u.cell? ⟨w1.heap.size + 1, 1, none⟩ = some (.int .i64 ty)) (exact keepAP (by repeat (first | (with_reducible assumption) | (with_reducible apply Below.drew))) PP QQ) (first
        | (go_at_call 49
           (with_reducible refine (HF1.out _ (by repeat (first | (with_reducible assumption) | (with_reducible apply Below.drew)))).mono ?_)
           rintro e w6 ⟨s6, rfl, H6, K6⟩)
        | (go_at_call 49
           (with_reducible refine (HF2.out s6 _ H6 K6).mono ?_)
           rintro e w7 ⟨s7, rfl, H7, K7⟩)
        | fail)
      have HC4 := Lib.hid (show cl ≤ 4 by rw [HCL.out, flJ_len, HV.out.1.2.1]; exact HV.out.1.1.2.1)
      have i1 := HI1.out.next K7
      have i2 := HI2.out.next K7
      have i3 := HI3.out.next K7
      have i4 := HI4.out.next K7
      replace i5 := i5.next K7
      have i7 := H7.out.1
      have P7 := PP.next K7
      have Q7 := QQ.next K7
      have HB7 := Lib.hid (below_call HB.out K7)
      have HTB7 := Lib.hid (HTB2.out.below K7 HTB2.out.lt)
      have hcl4 : cl ≤ 4 := HC4.out
      have HSM := Lib.hid (fun (n : Kept w7) => keptCall (sameInts ca s7.a cl s7.len cc s7.cap (flJ ls lo hi js tx ty sn) n.u (i5.next n.b) (i7.next n.b) (by omega)))
      have HJV := Lib.hid (fun (n : Kept w7) => keptCall (implJointsValid ⟨xa, xl, xc⟩ ⟨ya, yl, yc⟩ ⟨za, zl, zc⟩ ⟨ca, cl, cc⟩ ls lo hi (flJ ls lo hi js tx ty sn) n.u (i1.next n.b) (i2.next n.b) (i3.next n.b) (i5.next n.b) (by simp only; omega) (by simp only; omega) (by simp only; omega) (by simp only; omega)))
      rw [decide_eq_true HOV.out] at HJV
      have HT1 := Lib.hid (fun (n : Kept w7) => keptCall (implTipOf ⟨xa, xl, xc⟩ ⟨ya, yl, yc⟩ ⟨za, zl, zc⟩ ⟨ca, cl, cc⟩ ls lo hi (flJ ls lo hi js tx ty sn) n.u (HTB7.out.below n.b HTB7.out.lt) (i1.next n.b) (i2.next n.b) (i3.next n.b) (i5.next n.b) (by simp only; omega) (by simp only; omega) (by simp only; omega) (by simp only; omega)))
      have HT2 := Lib.hid (fun (n : Kept w7) => keptCall (implTipOf ⟨xa, xl, xc⟩ ⟨ya, yl, yc⟩ ⟨za, zl, zc⟩ ⟨sa, sl, sc⟩ ls lo hi js n.u (HTB7.out.below n.b HTB7.out.lt) (i1.next n.b) (i2.next n.b) (i3.next n.b) (i4.next n.b) (by simp only; omega) (by simp only; omega) (by simp only; omega) (by simp only; omega)))
      have HS1 := Lib.hid (fun (n : Kept w7) => keptCall (implSquaredDistance (tipX ls lo hi (flJ ls lo hi js tx ty sn)) (tipY ls lo hi (flJ ls lo hi js tx ty sn)) tx ty n.u))
      have HS2 := Lib.hid (fun (n : Kept w7) => keptCall (implSquaredDistance (tipX ls lo hi js) (tipY ls lo hi js) tx ty n.u))
      rw [tip_dist tx ty HOV.out] at HS1
      rw [tip_dist tx ty HV.out.1] at HS2
      have he : decide (distV ls tx ty (flJ ls lo hi js tx ty sn) ≤ distV ls tx ty js) = true := decide_eq_true HLE.out
      obtain ⟨a0, a1, a2⟩ := P7.kepts
      obtain ⟨q0, q1⟩ := Q7.kepts
      clear i1 i2 i3 i4 i5 i7 P7 Q7 P Q PP QQ K6 K7 H6 H7 HF1 HF2 HI1 HI2 HI3 HI4 HMV HMW HMO HAD HFV HOV HLE HTB2 Bz HB
      generalize distV ls tx ty (flJ ls lo hi js tx ty sn) = dv at *
      generalize distV ls tx ty js = dj at *
      generalize tipX ls lo hi (flJ ls lo hi js tx ty sn) = ax at *
      generalize tipY ls lo hi (flJ ls lo hi js tx ty sn) = ay at *
      generalize tipX ls lo hi js = bx at *
      generalize tipY ls lo hi js = by' at *
      go_wp2
      refine wp_region_kept (by kernel_rfl) (by kernel_rfl) ?_
      repeat (go_big_quiet_step ((first | (go_at_call 40; with_reducible exact HSM.out _) | (go_at_call 36; with_reducible exact HJV.out _) | (go_at_call 33; with_reducible exact HT1.out _) | (go_at_call 33; with_reducible exact HT2.out _) | (go_at_call 21; with_reducible exact HS1.out _) | (go_at_call 21; with_reducible exact HS2.out _))))
      refine wpQuiet_nil ?_
      rintro wq ⟨⟨_, Bq⟩, rfl⟩
      have HE := Lib.hid (below_call HB7.out Bq)
      clear Bq
      go_wp2
      go_ret
      exact ⟨rfl, HE.out⟩
    · obtain rfl : cl = 0 := by
        have h1 := e3.out
        rw [followV_out hv] at h1
        exact h1
      clear i1 i2 i3 i4 i5 P Q hv
      go_wp2_with fail
      refine (alive _).mono ?_
      rintro e w' ⟨rfl, rfl⟩
      go_wp2
      go_ret
      exact ⟨rfl, HB.out⟩
  · clear h
    go_enter Tryd.func11, Tryd.ntmps11
    go_wp2
    go_ret
    exact ⟨rfl, Below.refl _ _⟩
end Go.Proofs.YtolkihibjabmhaaDoor
namespace Go.Proofs.YtolkihibjabmhaaDoor
open Go.RowKit
attribute [local go_sem ↓] Go.wp_at_zero Go.wp_at_succ
/-- A fresh slice's block, made behind block r: what it holds. -/
def Arr (r : Nat) (u : World) (b : Nat) (vs : List Value) : Prop := b < u.heap.size ∧ r < b ∧ ∀ i v, vs[i]? = some v → u.cell? ⟨b, i, none⟩ = some v
/-- Whatever fresh slice there was is there. -/
def Keeps (r : Nat) (u u' : World) : Prop := ∀ b vs, Arr r u b vs → Arr r u' b vs
theorem Keeps.alloc (r : Nat) (u : World) (o : Obj) : Keeps r u (u.alloc o) := fun b _ h =>
  ⟨by simp; exact Nat.lt_succ_of_lt h.1, h.2.1, fun i v hv => (World.cell?_alloc_lt u o ⟨b, i, none⟩ h.1).trans (h.2.2 i v hv)⟩
theorem Keeps.grown {r : Nat} {u u' : World} (h : u.grownBy u' (some r)) : Keeps r u u' := fun b _ k =>
  ⟨Nat.lt_of_lt_of_le k.1 h.size, k.2.1, fun i v hv => (h.cell_far ⟨b, i, none⟩ k.1 (by simp; have := k.2.1; omega)).trans (k.2.2 i v hv)⟩
theorem Keeps.set {r c o : Nat} (u : World) (v : Value) (hc : c < r) : Keeps r u (u.setCell ⟨c, o, none⟩ v) := fun b _ k =>
  ⟨by simpa [World.setCell] using k.1, k.2.1, fun i v hv => (World.cell?_setCell_far _ _ _ _ (by show c ≠ b; have := k.2.1; omega)).trans (k.2.2 i v hv)⟩
theorem Keeps.trans {r : Nat} {u u' u'' : World} (h : Keeps r u u') (k : Keeps r u' u'') : Keeps r u u'' := fun b vs A => k b vs (h b vs A)
theorem Arr.new {r : Nat} (u : World) (vs : List Value) (t : TypeId) (h : r < u.heap.size) : Arr r (u.alloc (.cells vs.toArray t)) u.heap.size vs :=
  ⟨by simp, h, fun i v hv => by rw [World.cell?_alloc_at _ _ _ _ rfl]; simpa using hv⟩
def C4 (v : Value) : Prop := ∃ tx ty : Int, v = pt tx ty ∧ -20000 ≤ tx ∧ tx ≤ 20000 ∧ -20000 ≤ ty ∧ ty ≤ 20000
def CN (n : Int) (v : Value) : Prop := ∃ x : Int, v = .int .i64 x ∧ 0 ≤ x ∧ x < n
def C9 (r : Nat) (u : World) (v : Value) : Prop := ∃ (b : Nat) (p q : Int), v = .slice (some ⟨b, 0, none⟩) 4 4 ∧ 0 ≤ p ∧ p < 20 ∧ 0 ≤ q ∧ q < 100 ∧ Arr r u b [.int .i64 p, .int .i64 q, .int .i64 (-1), .int .i64 501]
def C10 (r : Nat) (u : World) (v : Value) : Prop := ∃ b : Nat, v = .slice (some ⟨b, 0, none⟩) 6 6 ∧ Arr r u b [.int .i64 0, .int .i64 0, .int .i64 1, .int .i64 1, .int .i64 2, .int .i64 3]
def C13 (r : Nat) (u : World) (v : Value) : Prop := ∃ (b : Nat) (k : Nat), v = .pointer (some ⟨b, k, none⟩) ∧ k < 6 ∧ Arr r u b [.int .i64 0, .int .i64 0, .int .i64 1, .int .i64 1, .int .i64 2, .int .i64 3]
def C15 (r : Nat) (u : World) (v : Value) : Prop := ∃ (b : Nat) (k : Nat) (p q : Int), v = .pointer (some ⟨b, k, none⟩) ∧ k < 4 ∧ 0 ≤ p ∧ p < 20 ∧ 0 ≤ q ∧ q < 100 ∧ Arr r u b [.int .i64 p, .int .i64 q, .int .i64 (-1), .int .i64 501]
def C16 (v : Value) : Prop := ∃ y : Int, v = .int .i64 y ∧ -1 ≤ y ∧ y ≤ 501
theorem C9.keep {r : Nat} {u u' : World} {v : Value} (k : Keeps r u u') (h : C9 r u v) : C9 r u' v := by obtain ⟨b, p, q, h1, h2, h3, h4, h5, h6⟩ := h; exact ⟨b, p, q, h1, h2, h3, h4, h5, k _ _ h6⟩
theorem C10.keep {r : Nat} {u u' : World} {v : Value} (k : Keeps r u u') (h : C10 r u v) : C10 r u' v := by obtain ⟨b, h1, h6⟩ := h; exact ⟨b, h1, k _ _ h6⟩
theorem C13.keep {r : Nat} {u u' : World} {v : Value} (k : Keeps r u u') (h : C13 r u v) : C13 r u' v := by obtain ⟨b, j, h1, h2, h6⟩ := h; exact ⟨b, j, h1, h2, k _ _ h6⟩
theorem C15.keep {r : Nat} {u u' : World} {v : Value} (k : Keeps r u u') (h : C15 r u v) : C15 r u' v := by obtain ⟨b, j, p, q, h1, h2, h3, h4, h5, h7, h6⟩ := h; exact ⟨b, j, p, q, h1, h2, h3, h4, h5, h7, k _ _ h6⟩
theorem C13.load {r : Nat} {u : World} {v : Value} (h : C13 r u v) : ∃ (b k : Nat) (t : Int), v = .pointer (some ⟨b, k, none⟩) ∧ u.cell? ⟨b, k, none⟩ = some (.int .i64 t) ∧ 0 ≤ t ∧ t < 4 := by
  obtain ⟨b, k, h1, h2, h3⟩ := h
  have hk : k = 0 ∨ k = 1 ∨ k = 2 ∨ k = 3 ∨ k = 4 ∨ k = 5 := by omega
  rcases hk with rfl | rfl | rfl | rfl | rfl | rfl
  · exact ⟨b, 0, 0, h1, h3.2.2 0 _ rfl, by omega, by omega⟩
  · exact ⟨b, 1, 0, h1, h3.2.2 1 _ rfl, by omega, by omega⟩
  · exact ⟨b, 2, 1, h1, h3.2.2 2 _ rfl, by omega, by omega⟩
  · exact ⟨b, 3, 1, h1, h3.2.2 3 _ rfl, by omega, by omega⟩
  · exact ⟨b, 4, 2, h1, h3.2.2 4 _ rfl, by omega, by omega⟩
  · exact ⟨b, 5, 3, h1, h3.2.2 5 _ rfl, by omega, by omega⟩
theorem C15.load {r : Nat} {u : World} {v : Value} (h : C15 r u v) : ∃ (b k : Nat) (t : Int), v = .pointer (some ⟨b, k, none⟩) ∧ u.cell? ⟨b, k, none⟩ = some (.int .i64 t) ∧ -1 ≤ t ∧ t ≤ 501 := by
  obtain ⟨b, k, p, q, h1, h2, h4, h5, h6, h7, h3⟩ := h
  have hk : k = 0 ∨ k = 1 ∨ k = 2 ∨ k = 3 := by omega
  rcases hk with rfl | rfl | rfl | rfl
  · exact ⟨b, 0, p, h1, h3.2.2 0 _ rfl, by omega, by omega⟩
  · exact ⟨b, 1, q, h1, h3.2.2 1 _ rfl, by omega, by omega⟩
  · exact ⟨b, 2, -1, h1, h3.2.2 2 _ rfl, by omega, by omega⟩
  · exact ⟨b, 3, 501, h1, h3.2.2 3 _ rfl, by omega, by omega⟩
/-- What is left to ask of the reader. -/
def left4 (l4 l6 l8 l12 : Bool) : Nat := (if l4 then 0 else 20) + (if l6 then 0 else 1) + (if l8 then 0 else 1) + (if l12 then 0 else 1)
/-- What holds when the operations of 'listed' have come up. -/
def RF (p0 p1 p9 p10 p11 p12 p13 p14 p15 p16 p17 p18 : Value) (w : World) (r V : Nat) (x y z s : Sl) (ls lo hi js : List Int) (listed : Array Bool) (a : Act) (u : World) : Prop :=
  ∃ (l0 l1 l2 l3 l4 l5 l6 l7 l8 l9 l10 l11 l12 l13 l14 l15 l16 l17 l18 l19 l20 : Bool) (v3 v5 v19 v20 v21 v22 v23 v24 v25 v26 v27 v28 v29 v30 v31 v32 v33 v34 v35 : Value) (M : Nat) (rx ry rz : Value) (px py : Int), listed = #[l0, l1, l2, l3, l4, l5, l6, l7, l8, l9, l10, l11, l12, l13, l14, l15, l16, l17, l18, l19, l20] ∧ a = { tmps := #[p0, p1, .pointer (some ⟨w.heap.size, 0, none⟩), v3, .pointer (some ⟨w.heap.size + 1, 0, none⟩), v5, .pointer (some ⟨r, 0, none⟩), .pointer (some ⟨V, 0, none⟩), .slice s.a s.len s.cap, p9, p10, p11, p12, p13, p14, p15, p16, p17, p18, v19, v20, v21, v22, v23, v24, v25, v26, v27, v28, v29, v30, v31, v32, v33, v34, v35], defers := [] } ∧
    (l0 = true → v19 = av x y z) ∧ (l1 = true → v20 = .slice s.a s.len s.cap) ∧ (l2 = true → v21 = .pointer (some ⟨r, 0, none⟩)) ∧ (l3 = true → v22 = av x y z) ∧ (l4 = true → C4 v23) ∧ (l5 = true → v24 = .pointer (some ⟨r, 0, none⟩)) ∧ (l6 = true → CN 20 v25) ∧ (l7 = true → v26 = .pointer (some ⟨r, 0, none⟩)) ∧ (l8 = true → CN 100 v27) ∧ (l9 = true → C9 r u v28) ∧ (l10 = true → C10 r u v29) ∧ (l11 = true → v30 = .pointer (some ⟨r, 0, none⟩)) ∧ (l12 = true → CN 6 v31) ∧ (l13 = true → C13 r u v32) ∧ (l14 = true → CN 4 v33) ∧ (l15 = true → C15 r u v34) ∧ (l16 = true → C16 v35) ∧ (l17 = true → rx = .slice x.a x.len x.cap ∧ ry = .slice y.a y.len y.cap ∧ rz = .slice z.a z.len z.cap) ∧ (l18 = true → v3 = .slice s.a s.len s.cap) ∧ (l19 = true → -20000 ≤ px ∧ px ≤ 20000 ∧ -20000 ≤ py ∧ py ≤ 20000) ∧ (l20 = true → C16 v5) ∧
    M + left4 l4 l6 l8 l12 ≤ 60 ∧ FSt w w.heap.size M r V u rx ry rz px py x y z s ls lo hi js
/-- What the draw of the target says to the invariant. -/
def SaysT (w : World) (r V : Nat) (x y z s : Sl) (ls lo hi js : List Int) : Prop := ∀ (M : Nat), M ≤ 60 → ∀ (rx ry rz : Value) (px py : Int) (u : World), FSt w w.heap.size M r V u rx ry rz px py x y z s ls lo hi js → Calls Tryd.prog 71 #[.pointer (some ⟨r, 0, none⟩), av x y z] u fun e u' => ∃ tx ty : Int, e = .returned (pt tx ty) ∧ (-20000 ≤ tx ∧ tx ≤ 20000 ∧ -20000 ≤ ty ∧ ty ≤ 20000) ∧ FSt w w.heap.size (M + 20) r V u' rx ry rz px py x y z s ls lo hi js ∧ Keeps r u u'
/-- What a pick says to the invariant. -/
def SaysP (w : World) (r V : Nat) (x y z s : Sl) (ls lo hi js : List Int) : Prop := ∀ (M : Nat), M ≤ 60 → ∀ (n : Int), 1 ≤ n → ∀ (rx ry rz : Value) (px py : Int) (u : World), FSt w w.heap.size M r V u rx ry rz px py x y z s ls lo hi js → Calls Tryd.prog 54 #[.pointer (some ⟨r, 0, none⟩), .int .i64 n] u fun e u' => ∃ xk : Int, 0 ≤ xk ∧ xk < n ∧ e = .returned (.int .i64 xk) ∧ FSt w w.heap.size (M + 1) r V u' rx ry rz px py x y z s ls lo hi js ∧ Keeps r u u'
set_option maxHeartbeats 16000000 in
theorem drawFollowPoint : DrawsFollow := by
  intro w a len cap zs h
  have hle := h.len_le
  have HB := Lib.hid (below_box2 w (.cells #[.slice none 0 0, .slice none 0 0, .slice none 0 0] 25) (.cells #[.int .i64 0, .int .i64 0] 35))
  have R := (AtA.box w (.slice none 0 0) (.slice none 0 0) (.slice none 0 0) 25).alloc (.cells #[.int .i64 0, .int .i64 0] 35)
  have RP := OwnP.box (w.alloc (.cells #[.slice none 0 0, .slice none 0 0, .slice none 0 0] 25)) 0 0 35
  rw [show (w.alloc (.cells #[.slice none 0 0, .slice none 0 0, .slice none 0 0] 25)).heap.size = w.heap.size + 1 by simp] at RP
  go_enter Tryd.func48, Tryd.ntmps48
  go_wp2_with fail
  refine (open_codeB w.heap.size _ a len cap HB.out.size hle.1 (by have := hle.2; unfold maxLen at this; omega) (fun k hk => (h.code k hk).below fun x hx => HB.out.cell hx)).mono ?_
  generalize (w.alloc (.cells #[.slice none 0 0, .slice none 0 0, .slice none 0 0] 25)).alloc (.cells #[.int .i64 0, .int .i64 0] 35) = w0 at *
  rintro e w1 ⟨rfl, hr1, hb1⟩
  have hR := RP.lt
  have R1 := R.next hb1
  have RP1 := RP.next hb1
  have HB1 := Lib.hid (below_call HB.out hb1)
  clear hb1 R RP h hle
  go_wp2_with fail
  refine (pick _ _ _ 3 _ hr1 (by omega)).mono ?_
  rintro e w2 ⟨x, a1, b1, rfl, hr2, hg2, hs2⟩
  have b2 := b1 (by omega)
  have R2 := R1.kept hg2 (by simp; omega)
  have RP2 := RP1.grown hg2 (by omega)
  have HB2 := Lib.hid (below_of' HB1.out hg2 (by omega))
  obtain ⟨m, hm⟩ : ∃ m : Nat, 1 + x = (m : Int) := ⟨(1 + x).toNat, by omega⟩
  have hrlt := hr2.lt
  clear b1 hs2 hg2 hr1 R1 RP1
  go_wp2_with fail
  refine (l20Arm _ _ _ m 14 _ hr2 (by omega) (by omega) (by omega) (by omega) (by omega)).mono ?_
  rintro e w3 ⟨⟨xa, xl, xc⟩, ⟨ya, yl, yc⟩, ⟨za, zl, zc⟩, ls, lo, hi, rfl, i1, i2, i3, lx, ly, lz, kx, ky, kz, sx, sy, sz, hr3, hg3⟩
  simp only at i1 i2 i3 lx ly lz kx ky kz
  have R3 := R2.kept hg3 (by simp; omega)
  have RP3 := RP2.grown hg3 (by omega)
  have HB3 := Lib.hid (below_of' HB2.out hg3 (by omega))
  have Bv := below_box w3 (.cells #[.slice xa xl xc, .slice ya yl yc, .slice za zl zc] 25)
  have HB4 := Lib.hid (below_call HB3.out Bv)
  have V4 := AtA.box w3 (.slice xa xl xc) (.slice ya yl yc) (.slice za zl zc) 25
  have hv : w0.heap.size < w3.heap.size := hr3.lt
  have R4 := R3.next Bv
  have RP4 := RP3.next Bv
  have hr4 := hr3.next Bv
  replace i1 := (i1.down (show w0.heap.size + 1 ≤ _ by omega)).next Bv
  replace i2 := (i2.down (show w0.heap.size + 1 ≤ _ by omega)).next Bv
  replace i3 := (i3.down (show w0.heap.size + 1 ≤ _ by omega)).next Bv
  have HS := Lib.hid (And.intro sy sz)
  clear hr3 hg3 hr2 R2 RP2 hm Bv R3 RP3 sx sy sz
  obtain ⟨_, c0, c1, c2, _, _, _⟩ := id V4
  go_wp2_with fail
  refine (l20Joints _ _ _ 12 ⟨xa, xl, xc⟩ ⟨ya, yl, yc⟩ ⟨za, zl, zc⟩ ls lo hi _ hr4 (by omega) (by omega) (by omega) i1 i2 i3 (by simp only; omega) (by simp only; omega) (by simp only; omega) HS.out.1 HS.out.2).mono ?_
  generalize w3.alloc (.cells #[.slice xa xl xc, .slice ya yl yc, .slice za zl zc] 25) = w4 at *
  rintro e w5 ⟨⟨sa, sl, sc⟩, js, rfl, ij, hs, _, hr5, hg5⟩
  simp only at ij hs
  have h4 : w0.heap.size + 1 ≤ w4.heap.size := by have := V4.lt; omega
  have F5 : FSt w w.heap.size (0 + 1 + 16 + 16) w0.heap.size w3.heap.size w5 (.slice none 0 0) (.slice none 0 0) (.slice none 0 0) 0 0 ⟨xa, xl, xc⟩ ⟨ya, yl, yc⟩ ⟨za, zl, zc⟩ ⟨sa, sl, sc⟩ ls lo hi js :=
    ⟨hr5, below_of' HB4.out hg5 (by omega), R4.kept hg5 (by simp; omega), RP4.grown hg5 (by omega), V4.kept hg5 (by simp; omega), i1.kept hg5 (fun k hk => by injection hk with hk; omega), i2.kept hg5 (fun k hk => by injection hk with hk; omega), i3.kept hg5 (fun k hk => by injection hk with hk; omega), ij.down (by omega)⟩
  clear hr4 hr5 hg5 R4 RP4 V4 i1 i2 i3 ij c0 c1 c2 HB HB1 HB2 HB3 HB4
  have HTG : Hid (SaysT w w0.heap.size w3.heap.size ⟨xa, xl, xc⟩ ⟨ya, yl, yc⟩ ⟨za, zl, zc⟩ ⟨sa, sl, sc⟩ ls lo hi js) := Lib.hid (fun M hM rx ry rz px py u h =>
    (l20Target _ _ _ ⟨xa, xl, xc⟩ ⟨ya, yl, yc⟩ ⟨za, zl, zc⟩ ls lo hi u h.rd (by omega) h.ix h.iy h.iz (by simp only; omega) (by simp only; omega) (by simp only; omega) HS.out.1 HS.out.2).mono fun e u' ⟨tx, ty, t1, t2, t3, t4, he, hr, hg⟩ => ⟨tx, ty, he, ⟨t1, t2, t3, t4⟩, h.grown hr hg (by omega) hv, Keeps.grown hg⟩)
  have HPK : Hid (SaysP w w0.heap.size w3.heap.size ⟨xa, xl, xc⟩ ⟨ya, yl, yc⟩ ⟨za, zl, zc⟩ ⟨sa, sl, sc⟩ ls lo hi js) := Lib.hid (fun M hM n hn rx ry rz px py u h =>
    (pick _ M _ n u h.rd (by omega)).mono fun e u' ⟨xk, p0, p1, he, hr, hg, hs⟩ => ⟨xk, p0, p1 hn, he, h.grown hr hg (by omega) hv, Keeps.grown hg⟩)
  have HR1 : w.heap.size + 1 < w0.heap.size := hR
  go_wp2
  refine wp_region_inv (RF (.slice a len cap) undef (.slice a len cap) (.pointer (some ⟨w0.heap.size, 0, none⟩)) (.pointer (some ⟨w0.heap.size, 0, none⟩)) (.pointer (some ⟨w0.heap.size, 0, none⟩)) (.int .i64 x) (.int .i64 (m : Int)) (av ⟨xa, xl, xc⟩ ⟨ya, yl, yc⟩ ⟨za, zl, zc⟩) (.pointer (some ⟨w0.heap.size, 0, none⟩)) (av ⟨xa, xl, xc⟩ ⟨ya, yl, yc⟩ ⟨za, zl, zc⟩) (.slice sa sl sc) w w0.heap.size w3.heap.size ⟨xa, xl, xc⟩ ⟨ya, yl, yc⟩ ⟨za, zl, zc⟩ ⟨sa, sl, sc⟩ ls lo hi js) (by kernel_rfl) ?_ ?_ ?_ ?_ ?_
  · intro j o ho
    have hj : j < 21 := by rcases Nat.lt_or_ge j 21 with h | h; exact h; rw [Array.getElem?_eq_none (by simpa using h)] at ho; cases ho
    have hj2 : j = 0 ∨ j = 1 ∨ j = 2 ∨ j = 3 ∨ j = 4 ∨ j = 5 ∨ j = 6 ∨ j = 7 ∨ j = 8 ∨ j = 9 ∨ j = 10 ∨ j = 11 ∨ j = 12 ∨ j = 13 ∨ j = 14 ∨ j = 15 ∨ j = 16 ∨ j = 17 ∨ j = 18 ∨ j = 19 ∨ j = 20 := by omega
    rcases hj2 with rfl | rfl | rfl | rfl | rfl | rfl | rfl | rfl | rfl | rfl | rfl | rfl | rfl | rfl | rfl | rfl | rfl | rfl | rfl | rfl | rfl
    all_goals
      cases ho
      decide
  · rintro listed a u ⟨l0, l1, l2, l3, l4, l5, l6, l7, l8, l9, l10, l11, l12, l13, l14, l15, l16, l17, l18, l19, l20, v3, v5, v19, v20, v21, v22, v23, v24, v25, v26, v27, v28, v29, v30, v31, v32, v33, v34, v35, _, _, _, _, _, _, rfl, _⟩
    rfl
  · exact ⟨false, false, false, false, false, false, false, false, false, false, false, false, false, false, false, false, false, false, false, false, false, .slice none 0 0, .int .i64 0, undef, undef, undef, undef, undef, undef, undef, undef, undef, undef, undef, undef, undef, undef, undef, undef, undef, 0 + 1 + 16 + 16, _, _, _, _, _, rfl, rfl, (by intro h; cases h), (by intro h; cases h), (by intro h; cases h), (by intro h; cases h), (by intro h; cases h), (by intro h; cases h), (by intro h; cases h), (by intro h; cases h), (by intro h; cases h), (by intro h; cases h), (by intro h; cases h), (by intro h; cases h), (by intro h; cases h), (by intro h; cases h), (by intro h; cases h), (by intro h; cases h), (by intro h; cases h), (by intro h; cases h), (by intro h; cases h), (by intro h; cases h), (by intro h; cases h), by decide, F5.drew⟩
  · intro listed act u i o hR ho hl hd
    clear F5
    obtain ⟨l0, l1, l2, l3, l4, l5, l6, l7, l8, l9, l10, l11, l12, l13, l14, l15, l16, l17, l18, l19, l20, v3, v5, v19, v20, v21, v22, v23, v24, v25, v26, v27, v28, v29, v30, v31, v32, v33, v34, v35, M, rx, ry, rz, px, py, rfl, rfl, c0, c1, c2, c3, c4, c5, c6, c7, c8, c9, c10, c11, c12, c13, c14, c15, c16, c17, c18, c19, c20, hM, F⟩ := hR
    have hi : i < 21 := by rcases Nat.lt_or_ge i 21 with h | h; exact h; rw [Array.getElem?_eq_none (by simpa using h)] at ho; cases ho
    have hi2 : i = 0 ∨ i = 1 ∨ i = 2 ∨ i = 3 ∨ i = 4 ∨ i = 5 ∨ i = 6 ∨ i = 7 ∨ i = 8 ∨ i = 9 ∨ i = 10 ∨ i = 11 ∨ i = 12 ∨ i = 13 ∨ i = 14 ∨ i = 15 ∨ i = 16 ∨ i = 17 ∨ i = 18 ∨ i = 19 ∨ i = 20 := by omega
    rcases hi2 with rfl | rfl | rfl | rfl | rfl | rfl | rfl | rfl | rfl | rfl | rfl | rfl | rfl | rfl | rfl | rfl | rfl | rfl | rfl | rfl | rfl
    all_goals (cases ho)
    · obtain ⟨k0, k1, k2⟩ := F.cells
      refine wpOp_step rfl (fun K hK => ?_)
      go_simp
      refine hK _ _ ?_
      exact ⟨true, l1, l2, l3, l4, l5, l6, l7, l8, l9, l10, l11, l12, l13, l14, l15, l16, l17, l18, l19, l20, _, _, _, _, _, _, _, _, _, _, _, _, _, _, _, _, _, _, _, M, rx, ry, rz, px, py, rfl, rfl, fun _ => rfl, c1, c2, c3, c4, c5, c6, c7, c8, c9, c10, c11, c12, c13, c14, c15, c16, c17, c18, c19, c20, hM, F⟩
    · skip
      refine wpOp_step rfl (fun K hK => ?_)
      go_simp
      refine hK _ _ ?_
      exact ⟨l0, true, l2, l3, l4, l5, l6, l7, l8, l9, l10, l11, l12, l13, l14, l15, l16, l17, l18, l19, l20, _, _, _, _, _, _, _, _, _, _, _, _, _, _, _, _, _, _, _, M, rx, ry, rz, px, py, rfl, rfl, c0, fun _ => rfl, c2, c3, c4, c5, c6, c7, c8, c9, c10, c11, c12, c13, c14, c15, c16, c17, c18, c19, c20, hM, F⟩
    · skip
      refine wpOp_step rfl (fun K hK => ?_)
      go_simp
      refine hK _ _ ?_
      exact ⟨l0, l1, true, l3, l4, l5, l6, l7, l8, l9, l10, l11, l12, l13, l14, l15, l16, l17, l18, l19, l20, _, _, _, _, _, _, _, _, _, _, _, _, _, _, _, _, _, _, _, M, rx, ry, rz, px, py, rfl, rfl, c0, c1, fun _ => rfl, c3, c4, c5, c6, c7, c8, c9, c10, c11, c12, c13, c14, c15, c16, c17, c18, c19, c20, hM, F⟩
    · obtain ⟨k0, k1, k2⟩ := F.cells
      refine wpOp_step rfl (fun K hK => ?_)
      go_simp
      refine hK _ _ ?_
      exact ⟨l0, l1, l2, true, l4, l5, l6, l7, l8, l9, l10, l11, l12, l13, l14, l15, l16, l17, l18, l19, l20, _, _, _, _, _, _, _, _, _, _, _, _, _, _, _, _, _, _, _, M, rx, ry, rz, px, py, rfl, rfl, c0, c1, c2, fun _ => rfl, c4, c5, c6, c7, c8, c9, c10, c11, c12, c13, c14, c15, c16, c17, c18, c19, c20, hM, F⟩
    · obtain rfl := c2 (hd { on := 2, ground := Ground.data } (by simp) rfl)
      obtain rfl := c3 (hd { on := 3, ground := Ground.data } (by simp) rfl)
      have e4 : l4 = false := hl
      subst e4
      refine wpOp_step rfl (fun K hK => ?_)
      go_simp
      refine (HTG.out M (by unfold left4 at hM; omega) _ _ _ _ _ _ F).mono ?_
      rintro e u' ⟨tx, ty, rfl, hB, F', KA⟩
      refine hK _ _ ?_
      exact ⟨l0, l1, l2, l3, true, l5, l6, l7, l8, l9, l10, l11, l12, l13, l14, l15, l16, l17, l18, l19, l20, _, _, _, _, _, _, _, _, _, _, _, _, _, _, _, _, _, _, _, (M + 20), rx, ry, rz, px, py, rfl, rfl, c0, c1, c2, c3, fun _ => ⟨tx, ty, rfl, hB⟩, c5, c6, c7, c8, fun h => (c9 h).keep KA, fun h => (c10 h).keep KA, c11, c12, fun h => (c13 h).keep KA, c14, fun h => (c15 h).keep KA, c16, c17, c18, c19, c20, by unfold left4 at hM ⊢; simp only [Bool.false_eq_true, if_false, if_true] at hM ⊢; omega, F'⟩
    · skip
      refine wpOp_step rfl (fun K hK => ?_)
      go_simp
      refine hK _ _ ?_
      exact ⟨l0, l1, l2, l3, l4, true, l6, l7, l8, l9, l10, l11, l12, l13, l14, l15, l16, l17, l18, l19, l20, _, _, _, _, _, _, _, _, _, _, _, _, _, _, _, _, _, _, _, M, rx, ry, rz, px, py, rfl, rfl, c0, c1, c2, c3, c4, fun _ => rfl, c6, c7, c8, c9, c10, c11, c12, c13, c14, c15, c16, c17, c18, c19, c20, hM, F⟩
    · obtain rfl := c5 (hd { on := 5, ground := Ground.data } (by simp) rfl)
      have e6 : l6 = false := hl
      subst e6
      refine wpOp_step rfl (fun K hK => ?_)
      go_simp
      refine (HPK.out M (by unfold left4 at hM; omega) 20 (by omega) _ _ _ _ _ _ F).mono ?_
      rintro e u' ⟨xk, h0, h1, rfl, F', KA⟩
      refine hK _ _ ?_
      exact ⟨l0, l1, l2, l3, l4, l5, true, l7, l8, l9, l10, l11, l12, l13, l14, l15, l16, l17, l18, l19, l20, _, _, _, _, _, _, _, _, _, _, _, _, _, _, _, _, _, _, _, (M + 1), rx, ry, rz, px, py, rfl, rfl, c0, c1, c2, c3, c4, c5, fun _ => ⟨xk, rfl, h0, h1⟩, c7, c8, fun h => (c9 h).keep KA, fun h => (c10 h).keep KA, c11, c12, fun h => (c13 h).keep KA, c14, fun h => (c15 h).keep KA, c16, c17, c18, c19, c20, by unfold left4 at hM ⊢; simp only [Bool.false_eq_true, if_false, if_true] at hM ⊢; omega, F'⟩
    · skip
      refine wpOp_step rfl (fun K hK => ?_)
      go_simp
      refine hK _ _ ?_
      exact ⟨l0, l1, l2, l3, l4, l5, l6, true, l8, l9, l10, l11, l12, l13, l14, l15, l16, l17, l18, l19, l20, _, _, _, _, _, _, _, _, _, _, _, _, _, _, _, _, _, _, _, M, rx, ry, rz, px, py, rfl, rfl, c0, c1, c2, c3, c4, c5, c6, fun _ => rfl, c8, c9, c10, c11, c12, c13, c14, c15, c16, c17, c18, c19, c20, hM, F⟩
    · obtain rfl := c7 (hd { on := 7, ground := Ground.data } (by simp) rfl)
      have e8 : l8 = false := hl
      subst e8
      refine wpOp_step rfl (fun K hK => ?_)
      go_simp
      refine (HPK.out M (by unfold left4 at hM; omega) 100 (by omega) _ _ _ _ _ _ F).mono ?_
      rintro e u' ⟨xk, h0, h1, rfl, F', KA⟩
      refine hK _ _ ?_
      exact ⟨l0, l1, l2, l3, l4, l5, l6, l7, true, l9, l10, l11, l12, l13, l14, l15, l16, l17, l18, l19, l20, _, _, _, _, _, _, _, _, _, _, _, _, _, _, _, _, _, _, _, (M + 1), rx, ry, rz, px, py, rfl, rfl, c0, c1, c2, c3, c4, c5, c6, c7, fun _ => ⟨xk, rfl, h0, h1⟩, fun h => (c9 h).keep KA, fun h => (c10 h).keep KA, c11, c12, fun h => (c13 h).keep KA, c14, fun h => (c15 h).keep KA, c16, c17, c18, c19, c20, by unfold left4 at hM ⊢; simp only [Bool.false_eq_true, if_false, if_true] at hM ⊢; omega, F'⟩
    · obtain ⟨p, rfl, p0, p1⟩ := c6 (hd { on := 6, ground := Ground.data } (by simp) rfl)
      obtain ⟨q, rfl, q0, q1⟩ := c8 (hd { on := 8, ground := Ground.data } (by simp) rfl)
      have hlt := F.rd.lt
      have HA := Lib.hid (Arr.new (r := w0.heap.size) u [.int .i64 p, .int .i64 q, .int .i64 (-1), .int .i64 501] 3 hlt)
      refine wpOp_step rfl (fun K hK => ?_)
      go_simp
      refine hK _ _ ?_
      exact ⟨l0, l1, l2, l3, l4, l5, l6, l7, l8, true, l10, l11, l12, l13, l14, l15, l16, l17, l18, l19, l20, _, _, _, _, _, _, _, _, _, _, _, _, _, _, _, _, _, _, _, M, rx, ry, rz, px, py, rfl, rfl, c0, c1, c2, c3, c4, c5, c6, c7, c8, fun _ => ⟨_, p, q, rfl, p0, p1, q0, q1, HA.out⟩, fun h => (c10 h).keep (Keeps.alloc w0.heap.size u _), c11, c12, fun h => (c13 h).keep (Keeps.alloc w0.heap.size u _), c14, fun h => (c15 h).keep (Keeps.alloc w0.heap.size u _), c16, c17, c18, c19, c20, hM, F.next (below_box u _)⟩
    · have hlt := F.rd.lt
      have HA := Lib.hid (Arr.new (r := w0.heap.size) u [.int .i64 0, .int .i64 0, .int .i64 1, .int .i64 1, .int .i64 2, .int .i64 3] 3 hlt)
      refine wpOp_step rfl (fun K hK => ?_)
      go_simp
      refine hK _ _ ?_
      exact ⟨l0, l1, l2, l3, l4, l5, l6, l7, l8, l9, true, l11, l12, l13, l14, l15, l16, l17, l18, l19, l20, _, _, _, _, _, _, _, _, _, _, _, _, _, _, _, _, _, _, _, M, rx, ry, rz, px, py, rfl, rfl, c0, c1, c2, c3, c4, c5, c6, c7, c8, fun h => (c9 h).keep (Keeps.alloc w0.heap.size u _), fun _ => ⟨_, rfl, HA.out⟩, c11, c12, fun h => (c13 h).keep (Keeps.alloc w0.heap.size u _), c14, fun h => (c15 h).keep (Keeps.alloc w0.heap.size u _), c16, c17, c18, c19, c20, hM, F.next (below_box u _)⟩
    · skip
      refine wpOp_step rfl (fun K hK => ?_)
      go_simp
      refine hK _ _ ?_
      exact ⟨l0, l1, l2, l3, l4, l5, l6, l7, l8, l9, l10, true, l12, l13, l14, l15, l16, l17, l18, l19, l20, _, _, _, _, _, _, _, _, _, _, _, _, _, _, _, _, _, _, _, M, rx, ry, rz, px, py, rfl, rfl, c0, c1, c2, c3, c4, c5, c6, c7, c8, c9, c10, fun _ => rfl, c12, c13, c14, c15, c16, c17, c18, c19, c20, hM, F⟩
    · obtain rfl := c11 (hd { on := 11, ground := Ground.data } (by simp) rfl)
      have e12 : l12 = false := hl
      subst e12
      refine wpOp_step rfl (fun K hK => ?_)
      go_simp
      refine (HPK.out M (by unfold left4 at hM; omega) 6 (by omega) _ _ _ _ _ _ F).mono ?_
      rintro e u' ⟨xk, h0, h1, rfl, F', KA⟩
      refine hK _ _ ?_
      exact ⟨l0, l1, l2, l3, l4, l5, l6, l7, l8, l9, l10, l11, true, l13, l14, l15, l16, l17, l18, l19, l20, _, _, _, _, _, _, _, _, _, _, _, _, _, _, _, _, _, _, _, (M + 1), rx, ry, rz, px, py, rfl, rfl, c0, c1, c2, c3, c4, c5, c6, c7, c8, fun h => (c9 h).keep KA, fun h => (c10 h).keep KA, c11, fun _ => ⟨xk, rfl, h0, h1⟩, fun h => (c13 h).keep KA, c14, fun h => (c15 h).keep KA, c16, c17, c18, c19, c20, by unfold left4 at hM ⊢; simp only [Bool.false_eq_true, if_false, if_true] at hM ⊢; omega, F'⟩
    · obtain ⟨b6, rfl, A6⟩ := c10 (hd { on := 10, ground := Ground.data } (by simp) rfl)
      obtain ⟨xk, rfl, x0, x1⟩ := c12 (hd { on := 12, ground := Ground.data } (by simp) rfl)
      refine wpOp_step rfl (fun K hK => ?_)
      go_simp
      refine hK _ _ ?_
      exact ⟨l0, l1, l2, l3, l4, l5, l6, l7, l8, l9, l10, l11, l12, true, l14, l15, l16, l17, l18, l19, l20, _, _, _, _, _, _, _, _, _, _, _, _, _, _, _, _, _, _, _, M, rx, ry, rz, px, py, rfl, rfl, c0, c1, c2, c3, c4, c5, c6, c7, c8, c9, c10, c11, c12, fun _ => ⟨b6, xk.toNat, rfl, by omega, A6⟩, c14, c15, c16, c17, c18, c19, c20, hM, F⟩
    · obtain ⟨b, k, t, rfl, ck, k0, k1⟩ := C13.load (c13 (hd { on := 13, ground := Ground.data } (by simp) rfl))
      refine wpOp_step rfl (fun K hK => ?_)
      go_simp
      refine hK _ _ ?_
      exact ⟨l0, l1, l2, l3, l4, l5, l6, l7, l8, l9, l10, l11, l12, l13, true, l15, l16, l17, l18, l19, l20, _, _, _, _, _, _, _, _, _, _, _, _, _, _, _, _, _, _, _, M, rx, ry, rz, px, py, rfl, rfl, c0, c1, c2, c3, c4, c5, c6, c7, c8, c9, c10, c11, c12, c13, fun _ => ⟨t, rfl, k0, k1⟩, c15, c16, c17, c18, c19, c20, hM, F⟩
    · obtain ⟨b4, p, q, rfl, p0, p1, q0, q1, A4⟩ := c9 (hd { on := 9, ground := Ground.data } (by simp) rfl)
      obtain ⟨xk, rfl, x0, x1⟩ := c14 (hd { on := 14, ground := Ground.data } (by simp) rfl)
      refine wpOp_step rfl (fun K hK => ?_)
      go_simp
      refine hK _ _ ?_
      exact ⟨l0, l1, l2, l3, l4, l5, l6, l7, l8, l9, l10, l11, l12, l13, l14, true, l16, l17, l18, l19, l20, _, _, _, _, _, _, _, _, _, _, _, _, _, _, _, _, _, _, _, M, rx, ry, rz, px, py, rfl, rfl, c0, c1, c2, c3, c4, c5, c6, c7, c8, c9, c10, c11, c12, c13, c14, fun _ => ⟨b4, xk.toNat, p, q, rfl, by omega, p0, p1, q0, q1, A4⟩, c16, c17, c18, c19, c20, hM, F⟩
    · obtain ⟨b, k, t, rfl, ck, k0, k1⟩ := C15.load (c15 (hd { on := 15, ground := Ground.data } (by simp) rfl))
      refine wpOp_step rfl (fun K hK => ?_)
      go_simp
      refine hK _ _ ?_
      exact ⟨l0, l1, l2, l3, l4, l5, l6, l7, l8, l9, l10, l11, l12, l13, l14, l15, true, l17, l18, l19, l20, _, _, _, _, _, _, _, _, _, _, _, _, _, _, _, _, _, _, _, M, rx, ry, rz, px, py, rfl, rfl, c0, c1, c2, c3, c4, c5, c6, c7, c8, c9, c10, c11, c12, c13, c14, c15, fun _ => ⟨t, rfl, k0, k1⟩, c17, c18, c19, c20, hM, F⟩
    · obtain rfl := c0 (hd { on := 0, ground := Ground.data } (by simp) rfl)
      obtain ⟨_, t0, t1, t2, u0, u1, u2⟩ := id F.res
      have HF := Lib.hid (F.putA HR1 hv (Nat.le_refl _) (.slice xa xl xc) (.slice ya yl yc) (.slice za zl zc))
      have HK3 := Lib.hid (((Keeps.set (r := w0.heap.size) (c := w.heap.size) (o := 0) u (.slice xa xl xc) (by omega)).trans (Keeps.set (c := w.heap.size) (o := 1) _ (.slice ya yl yc) (by omega))).trans (Keeps.set (c := w.heap.size) (o := 2) _ (.slice za zl zc) (by omega)))
      refine wpOp_step rfl (fun K hK => ?_)
      go_simp
      refine hK _ _ ?_
      exact ⟨l0, l1, l2, l3, l4, l5, l6, l7, l8, l9, l10, l11, l12, l13, l14, l15, l16, true, l18, l19, l20, _, _, _, _, _, _, _, _, _, _, _, _, _, _, _, _, _, _, _, M, .slice xa xl xc, .slice ya yl yc, .slice za zl zc, px, py, rfl, rfl, c0, c1, c2, c3, c4, c5, c6, c7, c8, fun h => (c9 h).keep HK3.out, fun h => (c10 h).keep HK3.out, c11, c12, fun h => (c13 h).keep HK3.out, c14, fun h => (c15 h).keep HK3.out, c16, fun _ => ⟨rfl, rfl, rfl⟩, c18, c19, c20, hM, HF.out⟩
    · obtain rfl := c1 (hd { on := 1, ground := Ground.data } (by simp) rfl)
      refine wpOp_step rfl (fun K hK => ?_)
      go_simp
      refine hK _ _ ?_
      exact ⟨l0, l1, l2, l3, l4, l5, l6, l7, l8, l9, l10, l11, l12, l13, l14, l15, l16, l17, true, l19, l20, _, _, _, _, _, _, _, _, _, _, _, _, _, _, _, _, _, _, _, M, rx, ry, rz, px, py, rfl, rfl, c0, c1, c2, c3, c4, c5, c6, c7, c8, c9, c10, c11, c12, c13, c14, c15, c16, c17, fun _ => rfl, c19, c20, hM, F⟩
    · obtain ⟨tx, ty, rfl, hB⟩ := c4 (hd { on := 4, ground := Ground.data } (by simp) rfl)
      obtain ⟨⟨_, q0, q1⟩, y0, y1⟩ := id F.rp
      have HF := Lib.hid (F.putP HR1 hv (Nat.le_refl _) tx ty)
      have HK3 := Lib.hid ((Keeps.set (r := w0.heap.size) (c := w.heap.size + 1) (o := 0) u (.int .i64 tx) (by omega)).trans (Keeps.set (c := w.heap.size + 1) (o := 1) _ (.int .i64 ty) (by omega)))
      refine wpOp_step rfl (fun K hK => ?_)
      go_simp
      refine hK _ _ ?_
      exact ⟨l0, l1, l2, l3, l4, l5, l6, l7, l8, l9, l10, l11, l12, l13, l14, l15, l16, l17, l18, true, l20, _, _, _, _, _, _, _, _, _, _, _, _, _, _, _, _, _, _, _, M, rx, ry, rz, tx, ty, rfl, rfl, c0, c1, c2, c3, c4, c5, c6, c7, c8, fun h => (c9 h).keep HK3.out, fun h => (c10 h).keep HK3.out, c11, c12, fun h => (c13 h).keep HK3.out, c14, fun h => (c15 h).keep HK3.out, c16, c17, c18, fun _ => hB, c20, hM, HF.out⟩
    · obtain ⟨yk, rfl, k0, k1⟩ := c16 (hd { on := 16, ground := Ground.data } (by simp) rfl)
      refine wpOp_step rfl (fun K hK => ?_)
      go_simp
      refine hK _ _ ?_
      exact ⟨l0, l1, l2, l3, l4, l5, l6, l7, l8, l9, l10, l11, l12, l13, l14, l15, l16, l17, l18, l19, true, _, _, _, _, _, _, _, _, _, _, _, _, _, _, _, _, _, _, _, M, rx, ry, rz, px, py, rfl, rfl, c0, c1, c2, c3, c4, c5, c6, c7, c8, c9, c10, c11, c12, c13, c14, c15, c16, c17, c18, c19, fun _ => ⟨yk, rfl, k0, k1⟩, hM, F⟩
  · rintro listed act u ⟨l0, l1, l2, l3, l4, l5, l6, l7, l8, l9, l10, l11, l12, l13, l14, l15, l16, l17, l18, l19, l20, v3, v5, v19, v20, v21, v22, v23, v24, v25, v26, v27, v28, v29, v30, v31, v32, v33, v34, v35, M, rx, ry, rz, px, py, rfl, rfl, c0, c1, c2, c3, c4, c5, c6, c7, c8, c9, c10, c11, c12, c13, c14, c15, c16, c17, c18, c19, c20, hM, F⟩ hall
    obtain ⟨rfl, rfl, rfl⟩ := c17 (hall 17 (by decide))
    obtain rfl := c18 (hall 18 (by decide))
    obtain ⟨yk, rfl, k0, k1⟩ := c20 (hall 20 (by decide))
    have hB := c19 (hall 19 (by decide))
    obtain ⟨_, x0, x1, x2, _, _, _⟩ := id F.res
    obtain ⟨⟨_, n0, n1⟩, _, _⟩ := id F.rp
    have HF := Lib.hid F
    have HBB := Lib.hid hB
    clear c0 c1 c2 c3 c4 c5 c6 c7 c8 c9 c10 c11 c12 c13 c14 c15 c16 c17 c18 c19 c20 hall F5 F hB
    go_wp2
    exact bodyPost_ret (v := .tuple #[av ⟨xa, xl, xc⟩ ⟨ya, yl, yc⟩ ⟨za, zl, zc⟩, .slice sa sl sc, pt px py, .int .i64 yk]) (by simp [results, Tryd.results48, go_sem, x0, x1, x2, n0, n1]) rfl ⟨⟨xa, xl, xc⟩, ⟨ya, yl, yc⟩, ⟨za, zl, zc⟩, ⟨sa, sl, sc⟩, ls, lo, hi, js, px, py, yk, rfl, HF.out.ix.ints, HF.out.iy.ints, HF.out.iz.ints, HF.out.js.ints, ⟨by simp only; omega, by simp only; omega, by simp only; omega, by simp only; omega⟩, HBB.out, ⟨k0, k1⟩, HF.out.old⟩
end Go.Proofs.YtolkihibjabmhaaDoor
namespace Go.Proofs.YtolkihibjabmhaaDoor
open Go.RowKit
theorem walkFnFollowPoint (w : World) (ht : TabAt w) (a : Option Addr) (len cap : Nat) (zs : List Int) (h : Bytes w a len cap zs) :
    Calls Tryd.prog 11 #[.slice a len cap] w fun e w' => e = .returned (.bool true) ∧ Below w.heap.size w w' := walkFnFollowPointD drawFollowPoint w ht a len cap zs h
end Go.Proofs.YtolkihibjabmhaaDoor
