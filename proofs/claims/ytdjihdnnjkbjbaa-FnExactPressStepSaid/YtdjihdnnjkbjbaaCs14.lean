/- Motors: the document's functions. -/
import Derived.Test.YtdjihdnnjkbjbaaNum14
import Derived.Test.YtdjihdnnjkbjbaaZcPts
import Derived.Test.YtdjihdnnjkbjbaaZbArm
import Derived.Test.YtdjihdnnjkbjbaaZbKt
import Derived.Below
import Derived.Outline
import Derived.Deep.RegionHeld3
import Derived.Deep.AppendLies
namespace Go.Proofs.Ytdjihdnnjkbjbaa
set_option maxRecDepth 100000
open Go.RowKit
attribute [local go_sem ↓] Go.wp_at_zero Go.wp_at_succ
/-- Numbers of the call's own. -/
def Nums14 (zs : List Int) (w : World) (e : Ending) (w' : World) : Prop :=
  ∃ s : Sl, e = .returned (.slice s.a s.len s.cap) ∧ s.len = zs.length ∧ OwnI w' w.heap.size (.slice s.a s.len s.cap) zs ∧ Below w.heap.size w w'
theorem clip14 (d o h : Int) (w : World) : Calls Try.prog 34 #[.int .i64 d, .int .i64 o, .int .i64 h] w fun e w' => e = .returned (.int .i64 (clp d o h)) ∧ w = w' := by
  obtain ⟨v, hv⟩ : ∃ v, clp d o h = v := ⟨_, rfl⟩
  have HE := Lib.hid hv
  rw [hv]
  clear hv
  go_enter Try.func34, Try.ntmps34
  go_wp2
  all_goals
    go_ret
    exact ⟨ret_int (by rw [← HE.out]; unfold clp; omega), rfl⟩
end Go.Proofs.Ytdjihdnnjkbjbaa
