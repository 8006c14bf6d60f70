/- Closed facts that the card asks for, a part. -/
import Derived.Test.YtjlpmhgngcfkcaaGreatDoorRows
import Derived.JoinedOf
import Derived.SevenTiedAt
import Derived.KernelRfl
namespace Go.Proofs.YtjlpmhgngcfkcaaGreatDoor
open Go
set_option linter.unusedVariables false
theorem pw_goes : false = Rows.cursorKnownRow.goesBy Tryz.pinned.checked.prog := by kernel_rfl
end Go.Proofs.YtjlpmhgngcfkcaaGreatDoor
