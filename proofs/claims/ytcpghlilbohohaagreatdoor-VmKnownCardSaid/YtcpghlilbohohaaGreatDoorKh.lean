/- A piece of the law's run. -/
import Derived.Test.YtcpghlilbohohaaGreatDoorKf
namespace Go.Proofs.YtcpghlilbohohaaGreatDoor
open Go
set_option linter.unusedVariables false
theorem cp2 : isCp tabs s2 (iterN (evN T1 20000) lb 26 s1.A (s1.H tabs)) = true := by kernel_rfl
end Go.Proofs.YtcpghlilbohohaaGreatDoor
