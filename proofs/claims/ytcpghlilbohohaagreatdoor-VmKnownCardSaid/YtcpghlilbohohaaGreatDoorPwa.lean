/- Closed facts that the card asks for, a part. -/
import Derived.Test.YtcpghlilbohohaaGreatDoorRows
import Derived.JoinedOf
import Derived.SevenTiedAt
import Derived.KernelRfl
namespace Go.Proofs.YtcpghlilbohohaaGreatDoor
open Go
set_option linter.unusedVariables false
theorem pw_wf : Rows.vmKnownRow.wfByText (OpenSpec.ofChange Rows.vmKnownSpec) = true := by kernel_rfl
theorem pw_main : Tryz.pinned.checked.prog.mainIs = some (true, ("2a47aa2f7187091182cc5ab649ec8a91970980de1d3ac15236cfb63498c9d181" : String).toList) := by kernel_rfl
theorem pw_looks : true = Tryz.pinned.checked.prog.looks [] := by kernel_rfl
theorem pw_fn : Tryz.prog.funcNamed Rows.vmKnownRow.func = some 3 := by kernel_rfl
end Go.Proofs.YtcpghlilbohohaaGreatDoor
