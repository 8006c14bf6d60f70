/- Closed facts of the program that the row asks for, a part. -/
import Derived.Test.YtfkidblfgdkcdaaGreatDoorRows
import Derived.JoinedOf
import Derived.KernelRfl
namespace Go.Proofs.YtfkidblfgdkcdaaGreatDoor
open Go
set_option linter.unusedVariables false
theorem lo_3 : (List.range' 377 188).all (rowFine Tryz.pinned.checked.prog) = true := by kernel_rfl
end Go.Proofs.YtfkidblfgdkcdaaGreatDoor
