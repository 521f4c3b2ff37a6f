/- The head word of the translation, sign by sign: so the closed facts that read it are cheap. -/
import Derived.JoinedOf
import Derived.Test.YtkmopgdnaohcdaaRows
import Derived.Test.YtkmopgdnaohcdaaChecked
namespace Go.Proofs.Ytkmopgdnaohcdaa
open Go
def headSigns : List (List Nat) := [
  [104, 97, 114, 110, 101, 115, 115],
  [52, 56, 98, 48, 102, 54, 57, 56, 99, 51, 51, 57, 98, 102, 48, 56, 99, 50, 53, 56, 98, 54, 56, 50, 98, 100, 48, 102, 50, 48, 48, 99, 99, 53, 97, 102, 98, 49, 102, 49, 101, 51, 101, 97, 54, 97, 98, 53, 99, 54, 52, 49, 52, 57, 97, 49, 50, 49, 54, 52, 102, 99, 54, 57],
  [99, 117, 116],
  [97, 116],
  [108, 111, 111, 112, 46, 101, 120, 97, 109, 112, 108, 101, 47, 114, 111, 98, 111, 116, 99, 101, 108, 108, 47, 108, 97, 119, 115, 46, 70, 110, 67, 111, 110, 118, 101, 120, 86, 97, 108, 105, 100],
  [108, 111, 111, 112, 46, 101, 120, 97, 109, 112, 108, 101, 47, 114, 111, 98, 111, 116, 99, 101, 108, 108, 47, 108, 97, 119, 115, 46, 70, 110, 73, 110, 115, 105, 100, 101, 67, 111, 110, 118, 101, 120],
  [108, 111, 111, 112, 46, 101, 120, 97, 109, 112, 108, 101, 47, 114, 111, 98, 111, 116, 99, 101, 108, 108, 47, 108, 97, 119, 115, 46, 70, 110, 83, 101, 103, 109, 101, 110, 116, 115, 77, 101, 101, 116],
  [108, 111, 111, 112, 46, 101, 120, 97, 109, 112, 108, 101, 47, 114, 111, 98, 111, 116, 99, 101, 108, 108, 47, 108, 97, 119, 115, 46, 70, 110, 83, 101, 103, 109, 101, 110, 116, 72, 105, 116, 115],
  [108, 111, 111, 112, 46, 101, 120, 97, 109, 112, 108, 101, 47, 114, 111, 98, 111, 116, 99, 101, 108, 108, 47, 108, 97, 119, 115, 46, 70, 110, 67, 111, 110, 118, 101, 120, 77, 101, 101, 116],
  [108, 111, 111, 112, 46, 101, 120, 97, 109, 112, 108, 101, 47, 114, 111, 98, 111, 116, 99, 101, 108, 108, 47, 108, 97, 119, 115, 46, 70, 110, 68, 111, 117, 98, 108, 101, 65, 114, 101, 97],
  [108, 111, 111, 112, 46, 101, 120, 97, 109, 112, 108, 101, 47, 114, 111, 98, 111, 116, 99, 101, 108, 108, 47, 108, 97, 119, 115, 46, 70, 110, 72, 117, 108, 108, 79, 102],
  [108, 111, 111, 112, 46, 101, 120, 97, 109, 112, 108, 101, 47, 114, 111, 98, 111, 116, 99, 101, 108, 108, 47, 108, 97, 119, 115, 46, 70, 110, 72, 117, 108, 108, 65, 114, 101, 97],
  [108, 111, 111, 112, 46, 101, 120, 97, 109, 112, 108, 101, 47, 114, 111, 98, 111, 116, 99, 101, 108, 108, 47, 108, 97, 119, 115, 46, 70, 110, 79, 114, 105, 101, 110, 116, 65, 114, 101, 97],
  [108, 111, 111, 112, 46, 101, 120, 97, 109, 112, 108, 101, 47, 114, 111, 98, 111, 116, 99, 101, 108, 108, 47, 108, 97, 119, 115, 46, 70, 110, 69, 120, 97, 99, 116, 67, 111, 110, 118, 101, 120, 86, 97, 108, 105, 100],
  [108, 111, 111, 112, 46, 101, 120, 97, 109, 112, 108, 101, 47, 114, 111, 98, 111, 116, 99, 101, 108, 108, 47, 108, 97, 119, 115, 46, 70, 110, 69, 120, 97, 99, 116, 73, 110, 115, 105, 100, 101, 67, 111, 110, 118, 101, 120],
  [108, 111, 111, 112, 46, 101, 120, 97, 109, 112, 108, 101, 47, 114, 111, 98, 111, 116, 99, 101, 108, 108, 47, 108, 97, 119, 115, 46, 70, 110, 69, 120, 97, 99, 116, 83, 101, 103, 109, 101, 110, 116, 115, 77, 101, 101, 116],
  [108, 111, 111, 112, 46, 101, 120, 97, 109, 112, 108, 101, 47, 114, 111, 98, 111, 116, 99, 101, 108, 108, 47, 108, 97, 119, 115, 46, 70, 110, 69, 120, 97, 99, 116, 83, 101, 103, 109, 101, 110, 116, 72, 105, 116, 115],
  [108, 111, 111, 112, 46, 101, 120, 97, 109, 112, 108, 101, 47, 114, 111, 98, 111, 116, 99, 101, 108, 108, 47, 108, 97, 119, 115, 46, 70, 110, 69, 120, 97, 99, 116, 67, 111, 110, 118, 101, 120, 77, 101, 101, 116],
  [108, 111, 111, 112, 46, 101, 120, 97, 109, 112, 108, 101, 47, 114, 111, 98, 111, 116, 99, 101, 108, 108, 47, 108, 97, 119, 115, 46, 70, 110, 69, 120, 97, 99, 116, 68, 111, 117, 98, 108, 101, 65, 114, 101, 97],
  [108, 111, 111, 112, 46, 101, 120, 97, 109, 112, 108, 101, 47, 114, 111, 98, 111, 116, 99, 101, 108, 108, 47, 108, 97, 119, 115, 46, 70, 110, 69, 120, 97, 99, 116, 72, 117, 108, 108, 79, 102]]
def joinW : List (List Nat) → List Char
  | [] => []
  | [w] => w.map Char.ofNat
  | w :: v :: ws => w.map Char.ofNat ++ Char.ofNat 32 :: joinW (v :: ws)
theorem words_cons {c : Char} (h : (c == Char.ofNat 32) = false) (r : List Char) (w : List Char) (ws : List (List Char)) (e : wordsSigns r = w :: ws) : wordsSigns (c :: r) = (c :: w) :: ws := by
  unfold wordsSigns
  split
  · rename_i e2; cases e2
  · rename_i e2
    simp only [List.cons.injEq] at e2
    rw [e2.1] at h
    exact absurd h (by decide)
  · rename_i e2
    simp only [List.cons.injEq] at e2
    obtain ⟨rfl, rfl⟩ := e2
    rw [e]
theorem words_word : ∀ (l : List Nat) (r : List Char) (w : List Char) (ws : List (List Char)), (l.all fun n => !(Char.ofNat n == Char.ofNat 32)) = true → wordsSigns r = w :: ws → wordsSigns (l.map Char.ofNat ++ r) = (l.map Char.ofNat ++ w) :: ws
  | [], _, _, _, _, e => e
  | n :: l, r, w, ws, h, e => by
    simp only [List.all_cons, Bool.and_eq_true, Bool.not_eq_true'] at h
    exact words_cons h.1 _ _ _ (words_word l r w ws h.2 e)
theorem words_join : ∀ (l : List (List Nat)), l ≠ [] → (l.all fun w => w.all fun n => !(Char.ofNat n == Char.ofNat 32)) = true → wordsSigns (joinW l) = l.map (fun w => w.map Char.ofNat)
  | [], h, _ => absurd rfl h
  | [w], _, h => by
    simp only [List.all_cons, Bool.and_eq_true] at h
    have := words_word w [] [] [] h.1 rfl
    simpa [joinW] using this
  | w :: v :: ws, _, h => by
    rw [List.all_cons, Bool.and_eq_true] at h
    have t := words_join (v :: ws) (by simp) h.2
    have s : wordsSigns (Char.ofNat 32 :: joinW (v :: ws)) = [] :: wordsSigns (joinW (v :: ws)) := rfl
    have := words_word w (Char.ofNat 32 :: joinW (v :: ws)) [] (wordsSigns (joinW (v :: ws))) h.1 s
    rw [List.append_nil, t] at this
    exact this
theorem headIs : Try.pinned.checked.prog.initOrder = String.ofList (joinW headSigns) := by kernel_rfl
theorem headWords : wordsSigns Try.pinned.checked.prog.initOrder.toList = headSigns.map (fun w => w.map Char.ofNat) := by
  rw [headIs, String.toList_ofList]
  exact words_join headSigns (by simp [headSigns]) (by kernel_rfl)
abbrev headW : List (List Char) := headSigns.map (fun w => w.map Char.ofNat)
abbrev cutW : List Char := [99, 117, 116].map Char.ofNat
abbrev restW : List (List Char) := (headSigns.drop 3).map (fun w => w.map Char.ofNat)
theorem headBehind : behindMainWord headW = cutW :: restW := by kernel_rfl
theorem headStrip : stripLifts liftWords (cutW :: restW) = ([], cutW :: restW) := by kernel_rfl
theorem make_of (P : Program) (h : wordsSigns P.initOrder.toList = headW) : P.make = some .cut := by
  unfold Program.make Program.headLifts
  rw [h]
  kernel_rfl
theorem lifts_of (P : Program) (h : wordsSigns P.initOrder.toList = headW) : P.liftsFinal = false := by
  unfold Program.liftsFinal Program.headLifts
  rw [h]
  kernel_rfl
theorem enter_of (P : Program) (h : wordsSigns P.initOrder.toList = headW) (h2 : P.laysLater = false) (h3 : P.bearsReflect = false) (h4 : P.doorFits [] = true) : P.mayEnter = true := by
  unfold Program.mayEnter
  rw [h, headBehind]
  simp only [headStrip, h2, h3, h4]
  kernel_rfl
theorem mmake : Try.pinned.checked.prog.make = some .cut := make_of _ headWords
theorem mlifts : Try.pinned.checked.prog.liftsFinal = false := lifts_of _ headWords
theorem menter : Try.pinned.checked.prog.mayEnter = true := enter_of _ headWords (by kernel_rfl) (by kernel_rfl) (by kernel_rfl)
end Go.Proofs.Ytkmopgdnaohcdaa
