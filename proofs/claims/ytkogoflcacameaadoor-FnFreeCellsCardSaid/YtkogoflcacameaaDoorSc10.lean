/- Valid scenes: the document's and the program's test. -/
import Derived.Test.YtkogoflcacameaaDoorZcCol
import Derived.Test.YtkogoflcacameaaDoorZbDh
import Derived.Test.YtkogoflcacameaaDoorOq9
namespace Go.Proofs.YtkogoflcacameaaDoor
set_option maxRecDepth 100000
open Go.RowKit
attribute [local go_sem ↓] Go.wp_at_zero Go.wp_at_succ
/-- A valid scene. -/
def scnV (pss : List (List P2)) : Prop := pss.length ≤ 6 ∧ ∀ o ∈ pss, okCvx o
noncomputable instance (pss : List (List P2)) : Decidable (scnV pss) := Classical.propDecidable _
theorem scnV.part {pss qss : List (List P2)} (h : scnV pss) (hs : ∀ o ∈ qss, o ∈ pss) (hl : qss.length ≤ pss.length) : scnV qss := ⟨Nat.le_trans hl h.1, fun o ho => h.2 o (hs o ho)⟩
theorem scnV_nil : scnV [] := ⟨by simp, fun o ho => by cases ho⟩
theorem scnV_no {pss : List (List P2)} {o : List P2} (ho : o ∈ pss) (hl : o.length < 3) : ¬ scnV pss := fun h => by have := (h.2 o ho).1; omega
theorem take_half {α : Type} (l : List α) (n : Nat) : (∀ o ∈ l.take n, o ∈ l) ∧ (l.take n).length ≤ l.length := ⟨fun _ h => List.mem_of_mem_take h, by rw [List.length_take]; omega⟩
theorem mem_at10 {pss : List (List P2)} {o : List P2} (h : o ∈ pss) : ∃ i, i < pss.length ∧ pss.getD i [] = o := by
  obtain ⟨i, hi, e⟩ := List.getElem_of_mem h
  exact ⟨i, hi, by rw [List.getD_eq_getElem?_getD, List.getElem?_eq_getElem hi]; exact e⟩
theorem at_mem10 {pss : List (List P2)} {i : Nat} (h : i < pss.length) : pss.getD i [] ∈ pss := by
  rw [List.getD_eq_getElem?_getD, List.getElem?_eq_getElem h]; exact List.getElem_mem h
theorem scnV_of {pss : List (List P2)} (hl : pss.length ≤ 6) (h : ∀ k, k < pss.length → okCvx (pss.getD k [])) : scnV pss := ⟨hl, fun o ho => by
  obtain ⟨i, hi, rfl⟩ := mem_at10 ho
  exact h i hi⟩
theorem scnV_not {pss : List (List P2)} {k : Nat} (hk : k < pss.length) (h : ¬ okCvx (pss.getD k [])) : ¬ scnV pss := fun q => h (q.2 _ (at_mem10 hk))
set_option maxHeartbeats 2000000 in
theorem specSceneValid (a : Option Addr) (len cap : Nat) (pss : List (List P2)) (w : World) (hp : PSS w a len pss) (hl : len ≤ 9223372036854775807) :
    Calls Tryd.prog 32 #[.slice a len cap] w fun e w' => e = .returned (.bool (decide (scnV pss))) ∧ Below w.heap.size w w' := by
  have HP := Lib.hid hp
  have HLE := Lib.hid hp.1
  clear hp
  go_enter Tryd.func32, Tryd.ntmps32
  go_wp2
  go_loopw [3] (fun kv wr => ∃ j : Nat, j ≤ len ∧ kv = .int .i64 (j : Int) ∧ Hid (∀ k, k < j → okCvx (pss.getD k [])) ∧ Hid (Below w.heap.size w wr)) (fun kv _ => len - (intOf kv).toNat)
  case atStart => exact ⟨0, Nat.zero_le _, rfl, Lib.hid (fun k hk => absurd hk (by omega)), Lib.hid (Below.refl _ _)⟩
  case round =>
    obtain ⟨j, hj, rfl, HI, HW⟩ := hrel
    have HP1 := Lib.hid (HP.out.next HW.out)
    by_cases hlt : j < len
    · obtain ⟨b, rfl, lt, hc⟩ := HP1.out.some (by omega)
      obtain ⟨s, d1, I1, I2⟩ := hc j hlt
      have j1 : (0 : Int) ≤ (j : Int) := by omega
      have j2 : (j : Int) < (len : Int) := by omega
      unfold slQ at d1
      have HC := Lib.hid (specConvexValid s.a s.len s.cap (pss.getD j []) wr I1 I2)
      clear hc I1
      by_cases hv : okCvx (pss.getD j [])
      · rw [decide_eq_true hv] at HC
        have HI2 : Hid (∀ k, k < j + 1 → okCvx (pss.getD k [])) := Lib.hid fun k hk => by
          by_cases e : k = j
          · subst e; exact hv
          · exact HI.out k (by omega)
        clear hv
        go_wp2_with fail
        refine HC.out.mono ?_
        rintro e w2 ⟨rfl, B⟩
        have HW2 := Lib.hid (below_call HW.out B)
        clear B d1 HC
        go_wp2
        go_roundw
        case rel => exact ⟨j + 1, by omega, by congr 1, HI2, HW2⟩
        case measure => simp [intOf]; omega
      · rw [decide_eq_false hv] at HC
        have HV := Lib.hid (show false = decide (scnV pss) from (decide_eq_false (scnV_not (by rw [← HLE.out]; exact hlt) hv)).symm)
        clear hv
        go_wp2_with fail
        refine HC.out.mono ?_
        rintro e w2 ⟨rfl, B⟩
        have HW2 := Lib.hid (below_call HW.out B)
        clear B d1 HC
        go_wp2
        go_ret
        exact ⟨ret_bool HV.out, HW2.out⟩
    · obtain rfl : j = len := by omega
      by_cases h6 : j ≤ 6
      · have HV := Lib.hid (show true = decide (scnV pss) from (decide_eq_true (scnV_of (by rw [← HLE.out]; exact h6) fun k hk => HI.out k (by rw [HLE.out]; exact hk))).symm)
        have q1 : decide (j ≤ 6) = true := decide_eq_true h6
        have q2 : decide ((j : Int) ≤ 6) = true := decide_eq_true (by omega)
        go_wp2
        go_ret
        exact ⟨ret_bool HV.out, HW.out⟩
      · have HV := Lib.hid (show false = decide (scnV pss) from (decide_eq_false (fun k => h6 (by rw [HLE.out]; exact k.1))).symm)
        have q1 : decide (j ≤ 6) = false := decide_eq_false h6
        have q2 : decide ((j : Int) ≤ 6) = false := decide_eq_false (by omega)
        go_wp2
        go_ret
        exact ⟨ret_bool HV.out, HW.out⟩
set_option maxHeartbeats 2000000 in
theorem implSceneValid (a : Option Addr) (len cap : Nat) (pss : List (List P2)) (w : World) (hp : PSS w a len pss) (hl : len ≤ 9223372036854775807) :
    Calls Tryd.prog 28 #[.slice a len cap] w fun e w' => e = .returned (.bool (decide (scnV pss))) ∧ Below w.heap.size w w' := by
  have HP := Lib.hid hp
  have HLE := Lib.hid hp.1
  clear hp
  by_cases h6 : len ≤ 6
  rotate_left
  · have HV := Lib.hid (show false = decide (scnV pss) from (decide_eq_false (fun k => h6 (by rw [HLE.out]; exact k.1))).symm)
    have g : (len : Int) > 6 := by omega
    go_enter Tryd.func28, Tryd.ntmps28
    go_wp2
    go_ret
    exact ⟨ret_bool HV.out, Below.refl _ _⟩
  have g : ¬ (len : Int) > 6 := by omega
  go_enter Tryd.func28, Tryd.ntmps28
  go_wp2
  go_loopw [4, 10] (fun _ kv wr => ∃ j : Nat, j ≤ len ∧ kv = .int .i64 (j : Int) ∧ Hid (∀ k, k < j → okCvx (pss.getD k [])) ∧ Hid (Below w.heap.size w wr)) (fun _ kv _ => len - (intOf kv).toNat)
  case atStart => exact ⟨0, Nat.zero_le _, rfl, Lib.hid (fun k hk => absurd hk (by omega)), Lib.hid (Below.refl _ _)⟩
  case round =>
    obtain ⟨j, hj, rfl, HI, HW⟩ := hrel
    have HP1 := Lib.hid (HP.out.next HW.out)
    by_cases hlt : j < len
    · obtain ⟨b, rfl, lt, hc⟩ := HP1.out.some (by omega)
      obtain ⟨s, d1, I1, I2⟩ := hc j hlt
      have j1 : (0 : Int) ≤ (j : Int) := by omega
      have j2 : (j : Int) < (len : Int) := by omega
      unfold slQ at d1
      have HC := Lib.hid (implConvexValid s.a s.len s.cap (pss.getD j []) wr I1 I2)
      clear hc I1
      by_cases hv : okCvx (pss.getD j [])
      · rw [decide_eq_true hv] at HC
        have HI2 : Hid (∀ k, k < j + 1 → okCvx (pss.getD k [])) := Lib.hid fun k hk => by
          by_cases e : k = j
          · subst e; exact hv
          · exact HI.out k (by omega)
        clear hv
        go_wp2_with fail
        refine HC.out.mono ?_
        rintro e w2 ⟨rfl, B⟩
        have HW2 := Lib.hid (below_call HW.out B)
        clear B d1 HC
        go_wp2
        go_roundw
        case rel => exact ⟨j + 1, by omega, by congr 1, HI2, HW2⟩
        case measure => simp [intOf]; omega
      · rw [decide_eq_false hv] at HC
        have HV := Lib.hid (show false = decide (scnV pss) from (decide_eq_false (scnV_not (by rw [← HLE.out]; exact hlt) hv)).symm)
        clear hv
        go_wp2_with fail
        refine HC.out.mono ?_
        rintro e w2 ⟨rfl, B⟩
        have HW2 := Lib.hid (below_call HW.out B)
        clear B d1 HC
        go_wp2
        go_ret
        exact ⟨ret_bool HV.out, HW2.out⟩
    · obtain rfl : j = len := by omega
      have HV := Lib.hid (show true = decide (scnV pss) from (decide_eq_true (scnV_of (by rw [← HLE.out]; exact h6) fun k hk => HI.out k (by rw [HLE.out]; exact hk))).symm)
      go_wp2
      go_ret
      exact ⟨ret_bool HV.out, HW.out⟩
end Go.Proofs.YtkogoflcacameaaDoor
