/- Closed facts that the card asks for, a part. -/
import Derived.Test.YtfkidblfgdkcdaaGreatDoorRows
import Derived.JoinedOf
import Derived.SevenTiedAt
import Derived.KernelRfl
namespace Go.Proofs.YtfkidblfgdkcdaaGreatDoor
open Go
set_option linter.unusedVariables false
theorem pw_wf : Rows.scriptKnownRow.wfByText (OpenSpec.ofChange Rows.scriptKnownSpec) = true := by kernel_rfl
theorem pw_main : Tryz.pinned.checked.prog.mainIs = some (true, ("6ba1bf09782a7cb7557e3398e8c46a20ae840ec120241a12b4933e35d84d3a62" : String).toList) := by kernel_rfl
theorem pw_looks : true = Tryz.pinned.checked.prog.looks [] := by kernel_rfl
theorem pw_fn : Tryz.prog.funcNamed Rows.scriptKnownRow.func = some 3 := by kernel_rfl
end Go.Proofs.YtfkidblfgdkcdaaGreatDoor
