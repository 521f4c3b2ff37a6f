/- Several of my texts in one: FxIn, Fxb. -/
import Derived.Test.YtkogoflcacameaaGreatDoorZbInv
import Derived.OrdersIn
import Derived.RangeFuncCalls
import Derived.Test.YtkogoflcacameaaGreatDoorZcCol
namespace Go.Proofs.YtkogoflcacameaaGreatDoor
set_option maxRecDepth 100000
open Go.RowKit
section
variable {P : Program} {ops : Array Oper} {Q : Exit → Act → World → Prop} {n : Nat}
theorem callsRound {r : Option Nat} {f : FuncId} {args : Array Value} {w : World} {R : Ending → World → Prop} (h : Calls P f args w R) : CallsIn { Fence.wide with round := r } n P f args w R :=
  (callsIn_wide (n := n)).2 h
theorem rowsRound {r : Option Nat} {row : String} {args : Array Value} {w : World} {R : Value → World → Prop} (h : Rows P row args w R) : RowsIn { Fence.wide with round := r } n P row args w R :=
  fun c cs _ => let ⟨v, w', q, s⟩ := h c cs; ⟨v, w', q, stepsIn_wide.2 s⟩
/-- One operation that goes well goes well inside a fence that lets all by. -/
theorem wpOp_round {r : Option Nat} {i : Nat} {K : Act → World → Prop} {a : Act} {w : World} (hd : ∀ o : Oper, ops[i]? = some o → ∀ c : Call, o.op ≠ Op.defer c)
    (h : wpOp P ops (fun _ _ _ => False) i K a w) : wpOpIn { Fence.wide with round := r } n P ops Q i K a w := by
  unfold wpOp at h
  unfold wpOpIn
  cases ho : ops[i]? with
  | none => rw [ho] at h; exact h
  | some o =>
    rw [ho] at h
    have hd := hd o ho
    by_cases hg : Region.wanted o (yielded ops a.tmps) = true
    · simp only [hg, if_true] at h ⊢
      rcases h with h | ⟨_, _, _, h⟩
      · refine ⟨fun _ _ => trivial, ?_⟩
        show o.uponIn { Fence.wide with round := r } n P a K Q ((o.semAt r a.eval).run P w)
        have e : o.semAt r a.eval = execOp a.eval o := by
          cases r with
          | none => rfl
          | some l => exact Oper.semAt_eq _ _ _ hd
        rw [e]
        unfold Oper.wp at h
        revert h
        cases (execOp a.eval o).run P w with
        | halt x w' => intro h; cases x <;> first | exact h.elim | exact False.elim h
        | ok x w' =>
          cases x with
          | value v => exact id
          | skip => exact id
          | defer d => exact id
          | enter f args =>
            intro h
            refine ⟨(by intro k; cases k), callsRound (Calls.mono h ?_)⟩
            intro e w'' he
            cases e with
            | returned v => exact he
            | panicked c => exact False.elim he
            | outgrown => obtain ⟨_, _, k⟩ := he; exact False.elim k
          | row row args => exact fun h => ⟨(by intro k; cases k), rowsRound h⟩
          | _ => exact fun h => False.elim h
      · exact False.elim h
    · simp only [hg, Bool.false_eq_true, if_false] at h ⊢
      exact ⟨fun _ _ => trivial, h⟩
theorem wpAnyIn_inv {r : Option Nat} (R : Array Bool → Act → World → Prop) (hlt : ∀ j o, ops[j]? = some o → ∀ e ∈ o.after, Region.binds .any e = true → e.on < j) (hnd : ∀ (i : Nat) (o : Oper), ops[i]? = some o → ∀ c : Call, o.op ≠ Op.defer c) (hsz : ∀ listed a w, R listed a w → listed.size = ops.size)
    (hstep : ∀ listed a w i o, R listed a w → ops[i]? = some o → listed.getD i true = false → (∀ e ∈ o.after, Region.binds .any e = true → listed.getD e.on false = true) → wpOp P ops (fun _ _ _ => False) i (R (listed.setIfInBounds i true)) a w)
    (hdone : ∀ listed a w, R listed a w → (∀ j, j < ops.size → listed.getD j true = true) → Q .normal a w) :
    ∀ (fuel : Nat) (listed : Array Bool) (a : Act) (w : World), R listed a w → unl listed.toList ≤ fuel → wpAnyIn { Fence.wide with round := r } n P .any ops Q fuel listed a w
  | 0, listed, a, w, hR, hf => by
    have h0 : Region.ready .any ops listed = [] := by
      cases hr : Region.ready .any ops listed with
      | nil => rfl
      | cons i rs =>
        exfalso
        have hm : i ∈ Region.ready .any ops listed := by rw [hr]; exact List.mem_cons_self
        exact unl_zero _ (by omega) i (getD_false (mem_ready.1 hm).1)
    exact ⟨h0, hdone listed a w hR (all_up hlt (hsz _ _ _ hR) h0)⟩
  | fuel + 1, listed, a, w, hR, hf => by
    refine ⟨fun h0 => hdone listed a w hR (all_up hlt (hsz _ _ _ hR) h0), fun i hi => ?_⟩
    obtain ⟨hl, o, ho, hd⟩ := mem_ready.1 hi
    refine wpOp_round (hnd i) (wpOp_mono (fun a' w' h' => h') (hstep listed a w i o hR ho hl hd)) |> wpOpIn_mono (fun a' w' h' => wpAnyIn_inv R hlt hnd hsz hstep hdone fuel _ a' w' h' ?_)
    have := unl_set listed.toList i (getD_false hl)
    rw [Array.toList_setIfInBounds]
    omega
/-- **A region by an invariant, inside a fence.** -/
theorem wpIn_region_inv {r : Option Nat} {id : Nat} {a : Act} {w : World} (R : Array Bool → Act → World → Prop) (hm : P.follows .mixedOrders = true) (hlt : ∀ j o, ops[j]? = some o → ∀ e ∈ o.after, Region.binds .any e = true → e.on < j) (hnd : (ops.all fun o => match o.op with | .defer _ => false | _ => true) = true)
    (hsz : ∀ listed a w, R listed a w → listed.size = ops.size) (h0 : R (Array.replicate ops.size false) a w.drew)
    (hstep : ∀ listed a w i o, R listed a w → ops[i]? = some o → listed.getD i true = false → (∀ e ∈ o.after, Region.binds .any e = true → listed.getD e.on false = true) → wpOp P ops (fun _ _ _ => False) i (R (listed.setIfInBounds i true)) a w)
    (hdone : ∀ listed a w, R listed a w → (∀ j, j < ops.size → listed.getD j true = true) → Q .normal a w) : (Code.region id ops true).wpIn { Fence.wide with round := r } n P Q a w :=
  wpIn_region_any hm (wpAnyIn_inv R hlt (fun i o ho c hc => by
    have hm := Array.all_eq_true'.1 hnd o (Array.mem_of_getElem? ho)
    rw [hc] at hm
    cases hm) hsz hstep hdone _ _ _ _ h0 (by simp [unl_new]))
end
end Go.Proofs.YtkogoflcacameaaGreatDoor
namespace Go.Proofs.YtkogoflcacameaaGreatDoor
set_option maxRecDepth 100000
open Go.RowKit
/-- A box made behind n: its cells before and behind the store. -/
def NewB (n : Nat) (u : World) (lp : Bool) (z f : Array Value) (t : TypeId) (v : Value) : Prop := ∃ b, v = .pointer (some ⟨b, 0, none⟩) ∧ n ≤ b ∧ Cells8 u b (if lp then f else z) t
theorem NewB.new {n : Nat} {z f : Array Value} {t : TypeId} (u : World) (h : n ≤ u.heap.size) : NewB n (u.alloc (.cells z t)) false z f t (.pointer (some ⟨u.heap.size, 0, none⟩)) :=
  ⟨_, rfl, h, Cells8.new u z t⟩
theorem NewB.next {n : Nat} {u u' : World} {lp : Bool} {z f : Array Value} {t : TypeId} {v : Value} (h : NewB n u lp z f t v) (hb : Below u.heap.size u u') : NewB n u' lp z f t v := by
  obtain ⟨b, h1, h2, h3⟩ := h; exact ⟨b, h1, h2, h3.next hb⟩
theorem NewB.alloc {n : Nat} {u : World} {lp : Bool} {z f : Array Value} {t : TypeId} {v : Value} (h : NewB n u lp z f t v) (o : Obj) : NewB n (u.alloc o) lp z f t v := h.next (below_box u o)
theorem NewB.ne_new {n : Nat} {u : World} {lp : Bool} {z f : Array Value} {t : TypeId} {v : Value} (h : NewB n u lp z f t v) : v ≠ .pointer (some ⟨u.heap.size, 0, none⟩) := by
  obtain ⟨b, rfl, h2, h3⟩ := h
  intro e
  simp only [Value.pointer.injEq, Option.some.injEq, Addr.mk.injEq, and_true] at e
  have := h3.lt
  omega
theorem NewB.other {n : Nat} {u : World} {lp : Bool} {z f : Array Value} {t : TypeId} {v : Value} {c : Nat} (h : NewB n u lp z f t v) (hne : v ≠ .pointer (some ⟨c, 0, none⟩)) (i : Nat) (x : Value) : NewB n (u.setCell ⟨c, i, none⟩ x) lp z f t v := by
  obtain ⟨b, rfl, h2, h3⟩ := h
  exact ⟨b, rfl, h2, h3.other (fun e => hne (by rw [e])) x⟩
theorem NewB.put1' {n : Nat} {u : World} {z0 : Value} {f : Array Value} {t : TypeId} {b : Nat} (hb : n ≤ b) (h : Cells8 u b (if false = true then f else #[z0]) t) (x : Value) (hf : f = #[x]) : NewB n (u.setCell ⟨b, 0, none⟩ x) true #[z0] f t (.pointer (some ⟨b, 0, none⟩)) := by
  subst hf
  exact ⟨b, rfl, hb, Cells8.set (cs := #[z0]) h 0 x⟩
theorem NewB.put2' {n : Nat} {u : World} {z0 z1 : Value} {f : Array Value} {t : TypeId} {b : Nat} (hb : n ≤ b) (h : Cells8 u b (if false = true then f else #[z0, z1]) t) (x y : Value) (hf : f = #[x, y]) : NewB n ((u.setCell ⟨b, 0, none⟩ x).setCell ⟨b, 1, none⟩ y) true #[z0, z1] f t (.pointer (some ⟨b, 0, none⟩)) := by
  subst hf
  exact ⟨b, rfl, hb, Cells8.set (cs := #[x, z1]) (Cells8.set (cs := #[z0, z1]) h 0 x) 1 y⟩
theorem NewB.done {n : Nat} {u : World} {lp : Bool} {z f : Array Value} {t : TypeId} {v : Value} (hl : lp = true) (h : NewB n u lp z f t v) : ∃ b, v = .pointer (some ⟨b, 0, none⟩) ∧ n ≤ b ∧ Cells8 u b f t := by
  subst hl; exact h
end Go.Proofs.YtkogoflcacameaaGreatDoor
