/- A piece of the law's run. -/
import Derived.Test.YtcpghlilbohohaaGreatDoorKf
namespace Go.Proofs.YtcpghlilbohohaaGreatDoor
open Go
set_option linter.unusedVariables false
theorem cp0 : isCp tabs s0 (partsN (evN T1 20000) [p0, p1, p2, p3, p4, p5, p6, p7, p8] (entryA T1 Tryz.f3 bodyC []) ⟨romT tabs, 10⟩) = true := by kernel_rfl
theorem cp1 : isCp tabs s1 (evN T1 20000 (.code r11 s0.A (s0.H tabs))) = true := by kernel_rfl
end Go.Proofs.YtcpghlilbohohaaGreatDoor
