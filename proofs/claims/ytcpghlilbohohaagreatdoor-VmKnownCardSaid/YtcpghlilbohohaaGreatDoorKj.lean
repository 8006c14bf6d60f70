/- A piece of the law's run. -/
import Derived.Test.YtcpghlilbohohaaGreatDoorKf
namespace Go.Proofs.YtcpghlilbohohaaGreatDoor
open Go
set_option linter.unusedVariables false
theorem cp4 : isEnd T1 Tryz.f3.results.toList (.bool true) (evN T1 20000 (.code tl10 s3.A (s3.H tabs))) = true := by kernel_rfl
end Go.Proofs.YtcpghlilbohohaaGreatDoor
