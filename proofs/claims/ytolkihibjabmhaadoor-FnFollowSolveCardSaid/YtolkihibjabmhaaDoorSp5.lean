/- The document's l4Try: a copy of angles with one of them changed. -/
import Derived.Test.YtolkihibjabmhaaDoorSp4
import Derived.Deep.AppendLies
import Derived.OwnWalk
namespace Go.Proofs.YtolkihibjabmhaaDoor
set_option maxRecDepth 100000
open Go.RowKit
attribute [local go_sem ↓] Go.wp_at_zero Go.wp_at_succ
theorem cpNews {w : World} {b off n : Nat} {zs : List Int} (h : IntsAt w (some ⟨b, off, none⟩) n zs) : ∀ j u, (vals zs)[j]? = some u → w.cell? ((⟨b, off, none⟩ : Addr).add j) = some u := by
  intro j u hu
  have hj : j < zs.length := by have := (List.getElem?_eq_some_iff.1 hu).1; simpa [vals] using this
  rcases h.2 with h2 | ⟨b', off', h3, h4, h5⟩
  · rw [h2] at hj; simp at hj
  · simp at h3
    obtain ⟨rfl, rfl⟩ := h3
    have e : (⟨b, off, none⟩ : Addr).add j = ⟨b, off + j, none⟩ := by unfold Addr.add; split <;> simp_all
    rw [e, h5 j hj]
    rw [vals, List.getElem?_map, List.getElem?_eq_getElem hj] at hu
    simp at hu
    rw [← hu, List.getD_eq_getElem?_getD, List.getElem?_eq_getElem hj]
    rfl
theorem cpOne (zs : List Int) : ∀ u ∈ vals zs, u.oneCell' = true := by
  intro u hu
  obtain ⟨z, _, rfl⟩ := List.mem_map.1 hu
  rfl
theorem valsSet (zs : List Int) (k : Nat) (z : Int) : (vals zs).set k (.int .i64 z) = vals (zs.set k z) := by simp [vals, List.map_set]
/-- A row of numbers of the call's own, in a slice of its full length. -/
def Rowed (zs : List Int) (w : World) (e : Ending) (w' : World) : Prop :=
  ∃ s : Sl, e = .returned (.slice s.a s.len s.cap) ∧ OwnI w' w.heap.size (.slice s.a s.len s.cap) zs ∧ s.len = zs.length ∧ Below w.heap.size w w'
set_option maxHeartbeats 1000000 in
theorem l4Try (j : Sl) (js : List Int) (k : Nat) (d : Int) (w : World) (hj : IntsAt w j.a j.len js) (hk : k < js.length) (hn : js.length ≤ 4) (b1 : -180 ≤ js.getD k 0) (b2 : js.getD k 0 ≤ 180) (d1 : -1 ≤ d) (d2 : d ≤ 1) :
    Calls Tryd.prog 82 #[.slice j.a j.len j.cap, .int .i64 (k : Int), .int .i64 d] w (Rowed (tryL js k d) w) := by
  obtain ⟨i0, hi0, hz0, hz1, hz2⟩ := info_parts infoInt
  obtain ⟨ja, jl, jc⟩ := j
  simp only at *
  have m4 := hj.1
  obtain ⟨b4, o4, rfl, lt4, c4⟩ := hj.some (by omega)
  have HNc := Lib.hid (cpNews (hj.next (below_box w (.cells #[] 3))))
  have HNLc := Lib.hid (show (vals js).length = jl * 1 by have := (hj).1; simp [vals]; omega)
  have HOc := Lib.hid (show (w.alloc (.cells #[] 3)).ownsRow w.heap.size 3 1 (.slice (some ⟨w.heap.size, 0, none⟩) 0 0) 0 [] by
    have := World.ownsRow_lit (base := w.heap.size) (e := 3) (size := 1) w #[] 0 (Nat.le_refl _) (Nat.zero_le _) rfl
    simpa using this)
  have HBc := Lib.hid (below_box w (.cells #[] 3))
  have HHc := Lib.hid HBc.out.size
  have HLc := Lib.hid ((hj).1)
  have HM4 := Lib.hid m4
  have hk2 : k < jl := by omega
  have hn2 : jl ≤ 4 := by omega
  have HTL := Lib.hid (And.intro (show tryL js k d = js.set k (js.getD k 0 + d) from rfl) (tryL_len js k d))
  clear hj c4 m4
  go_enter Tryd.func82, Tryd.ntmps82
  go_upto_region 2 with (at_builtin; refine wpList_append_lies _ rfl (.tmp 8) (.tmp 9) 23 rfl w.heap.size 3 i0 (.int .i64 0) 1 8 Tryd.underlying23 hi0 hz0 hz1 hz2 rfl (by decide) (.slice (some ⟨w.heap.size, 0, none⟩) 0 0) 0 [] rfl HOc.out ⟨b4, o4, none⟩ jl jc (vals js) rfl HNLc.out HNc.out (cpOne _) (by omega) (by unfold maxLen; omega) (by omega) HHc.out _ rfl ?_; intro g capA wA ownA growA atA ltgA; have HAA := Lib.hid (And.intro ownA growA); clear ownA growA atA ltgA)
  have HOA := Lib.hid (show OwnI wA w.heap.size (.slice (some ⟨g, 0, none⟩) jl capA) js by
    have h := HAA.out.1
    rw [Nat.zero_add] at h
    have h2 : wA.ownsRow w.heap.size 3 1 (.slice (some ⟨g, 0, none⟩) jl capA) jl (vals js) := by simpa using h
    unfold OwnI
    rw [← HLc.out]
    exact h2)
  have HBA := Lib.hid (show Below w.heap.size w wA from HBc.out.grown HAA.out.2 HBc.out.size (fun q hq => by simp [Value.ownBlock] at hq; omega))
  clear HAA HBc HHc HLc HNLc HNc HOc
  have o := HOA.out
  unfold OwnI at o
  rw [← HM4.out] at o
  have c0 := o.cellAt k (by omega)
  have z0 := o.frozenAt k
  rw [vals, List.getElem?_map, List.getElem?_eq_getElem hk, Option.map_some] at c0
  have e0 : js.getD k 0 = js[k] := by rw [List.getD_eq_getElem?_getD, List.getElem?_eq_getElem hk]; rfl
  rw [← e0] at c0
  have hgw := (World.ownsRow.lt o g rfl).1
  have s1 := o.stored k (.int .i64 (js.getD k 0 + d))
  rw [valsSet, ← HTL.out.1] at s1
  have HR := Lib.hid (show OwnI (wA.setCell ⟨g, k, none⟩ (.int .i64 (js.getD k 0 + d))) w.heap.size (.slice (some ⟨g, 0, none⟩) jl capA) (tryL js k d) by unfold OwnI; rw [HTL.out.2, ← HM4.out]; exact s1.1)
  have HB := Lib.hid (HBA.out.setCell (p := ⟨g, k, none⟩) hgw (.int .i64 (js.getD k 0 + d)))
  have HLL := Lib.hid (show jl = (tryL js k d).length by rw [HTL.out.2]; exact HM4.out)
  have j1 : (0 : Int) ≤ (k : Int) := by omega
  have j2 : (k : Int) < (jl : Int) := by omega
  clear o s1 e0 HOA HBA HTL
  generalize js.getD k 0 = z at *
  go_wp2
  go_ret
  exact ⟨⟨some ⟨g, 0, none⟩, jl, capA⟩, rfl, HR.out, HLL.out, HB.out⟩
end Go.Proofs.YtolkihibjabmhaaDoor
