/- Closed facts that the card asks for, a part. -/
import Derived.Test.YtmikicanjmiigaaGreatDoorRows
import Derived.JoinedOf
import Derived.SevenTiedAt
import Derived.KernelRfl
namespace Go.Proofs.YtmikicanjmiigaaGreatDoor
open Go
set_option linter.unusedVariables false
theorem pw_wf : Rows.replayKnownRow.wfByText (OpenSpec.ofChange Rows.replayKnownSpec) = true := by kernel_rfl
theorem pw_main : Tryz.pinned.checked.prog.mainIs = some (true, ("94f1baf56bee123641fc3bfa3df3bb112ac8961fbf884540c75e2a9fd8cc221e" : String).toList) := by kernel_rfl
theorem pw_looks : true = Tryz.pinned.checked.prog.looks [] := by kernel_rfl
theorem pw_fn : Tryz.prog.funcNamed Rows.replayKnownRow.func = some 3 := by kernel_rfl
end Go.Proofs.YtmikicanjmiigaaGreatDoor
