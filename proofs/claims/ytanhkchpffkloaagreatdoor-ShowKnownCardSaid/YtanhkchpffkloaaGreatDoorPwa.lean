/- Closed facts that the card asks for, a part. -/
import Derived.Test.YtanhkchpffkloaaGreatDoorRows
import Derived.JoinedOf
import Derived.SevenTiedAt
import Derived.KernelRfl
namespace Go.Proofs.YtanhkchpffkloaaGreatDoor
open Go
set_option linter.unusedVariables false
theorem pw_wf : Rows.showKnownRow.wfByText (OpenSpec.ofChange Rows.showKnownSpec) = true := by kernel_rfl
theorem pw_main : Tryz.pinned.checked.prog.mainIs = some (true, ("456ee037262a204e42bc75ccc62f43133ebe672b7c5e5cec9da3d219cbb8fab2" : String).toList) := by kernel_rfl
theorem pw_looks : true = Tryz.pinned.checked.prog.looks [] := by kernel_rfl
theorem pw_fn : Tryz.prog.funcNamed Rows.showKnownRow.func = some 3 := by kernel_rfl
end Go.Proofs.YtanhkchpffkloaaGreatDoor
