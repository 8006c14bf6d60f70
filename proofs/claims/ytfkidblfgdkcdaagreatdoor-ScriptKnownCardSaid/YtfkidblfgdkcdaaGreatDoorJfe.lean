/- Closed facts of the program that the row asks for, a part. -/
import Derived.Test.YtfkidblfgdkcdaaGreatDoorRows
import Derived.JoinedOf
import Derived.KernelRfl
namespace Go.Proofs.YtfkidblfgdkcdaaGreatDoor
open Go
set_option linter.unusedVariables false
theorem jf_12 : (fun (P : Program) (f : FuncId) (fn : Func) (s : ChangeSpec) (c : OpenClaim) => ((c.named == P.varsNamed f) : Bool)) Tryz.pinned.checked.prog 3 Tryz.f3 Rows.scriptKnownSpec Rows.scriptKnownRow = true := by kernel_rfl
end Go.Proofs.YtfkidblfgdkcdaaGreatDoor
