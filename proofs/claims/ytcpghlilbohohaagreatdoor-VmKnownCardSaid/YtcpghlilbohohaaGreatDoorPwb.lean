/- Closed facts that the card asks for, a part. -/
import Derived.Test.YtcpghlilbohohaaGreatDoorRows
import Derived.JoinedOf
import Derived.SevenTiedAt
import Derived.KernelRfl
namespace Go.Proofs.YtcpghlilbohohaaGreatDoor
open Go
set_option linter.unusedVariables false
theorem pw_goes : false = Rows.vmKnownRow.goesBy Tryz.pinned.checked.prog := by kernel_rfl
end Go.Proofs.YtcpghlilbohohaaGreatDoor
