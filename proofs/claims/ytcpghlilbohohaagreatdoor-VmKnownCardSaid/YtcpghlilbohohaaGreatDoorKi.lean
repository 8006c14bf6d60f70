/- A piece of the law's run. -/
import Derived.Test.YtcpghlilbohohaaGreatDoorKf
namespace Go.Proofs.YtcpghlilbohohaaGreatDoor
open Go
set_option linter.unusedVariables false
theorem cp3 : isCpE tabs s3 0 (evN T1 20000 (.code (.loop lb) s2.A (s2.H tabs))) = true := by kernel_rfl
end Go.Proofs.YtcpghlilbohohaaGreatDoor
