/- Closed facts that the card asks for, a part. -/
import Derived.Test.YtjlpmhgngcfkcaaGreatDoorRows
import Derived.JoinedOf
import Derived.SevenTiedAt
import Derived.KernelRfl
namespace Go.Proofs.YtjlpmhgngcfkcaaGreatDoor
open Go
set_option linter.unusedVariables false
theorem pw_wf : Rows.cursorKnownRow.wfByText (OpenSpec.ofChange Rows.cursorKnownSpec) = true := by kernel_rfl
theorem pw_main : Tryz.pinned.checked.prog.mainIs = some (true, ("9c23acaf681e513da1253677e7f75e961450c0b79ffe3c008f4f5aa099c0fb6c" : String).toList) := by kernel_rfl
theorem pw_looks : true = Tryz.pinned.checked.prog.looks [] := by kernel_rfl
theorem pw_fn : Tryz.prog.funcNamed Rows.cursorKnownRow.func = some 3 := by kernel_rfl
end Go.Proofs.YtjlpmhgngcfkcaaGreatDoor
