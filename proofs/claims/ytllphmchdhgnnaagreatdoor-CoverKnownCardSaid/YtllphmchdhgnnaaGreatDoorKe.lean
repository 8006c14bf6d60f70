/- Calls of the program whose answers are found by running it. -/
import Derived.Test.YtllphmchdhgnnaaGreatDoorKa
namespace Go.Proofs.YtllphmchdhgnnaaGreatDoor
open Go
set_option linter.unusedVariables false
theorem k4 : OrcOk Tryz.prog 6 tabs 11 a4 r4 :=
  known_call names mixed 6 tabs tabsGood .nil noOrc 20000 11 _ _ (by kernel_rfl) (by kernel_rfl) (by kernel_rfl)
end Go.Proofs.YtllphmchdhgnnaaGreatDoor
