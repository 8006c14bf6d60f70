/- Calls of the program whose answers are found by running it. -/
import Derived.Test.YtammfliaoifjhaaGreatDoorKa
namespace Go.Proofs.YtammfliaoifjhaaGreatDoor
open Go
set_option linter.unusedVariables false
theorem kAwake : OrcOk Tryz.prog 3 tabs 4 [] (.bool true) :=
  known_call names mixed 3 tabs tabsGood .nil noOrc 20000 4 _ _ (by kernel_rfl) (by kernel_rfl) (by kernel_rfl)
theorem k1 : OrcOk Tryz.prog 3 tabs 7 a1 (.bool true) :=
  known_call names mixed 3 tabs tabsGood .nil noOrc 20000 7 _ _ (by kernel_rfl) (by kernel_rfl) (by kernel_rfl)
theorem k4 : OrcOk Tryz.prog 3 tabs 7 a4 (.bool true) :=
  known_call names mixed 3 tabs tabsGood .nil noOrc 20000 7 _ _ (by kernel_rfl) (by kernel_rfl) (by kernel_rfl)
end Go.Proofs.YtammfliaoifjhaaGreatDoor
