/- Calls of the program whose answers are found by running it. -/
import Derived.Test.YtllphmchdhgnnaaGreatDoorKa
namespace Go.Proofs.YtllphmchdhgnnaaGreatDoor
open Go
set_option linter.unusedVariables false
theorem k1 : OrcOk Tryz.prog 6 tabs 11 a1 r1 :=
  known_call names mixed 6 tabs tabsGood .nil noOrc 20000 11 _ _ (by kernel_rfl) (by kernel_rfl) (by kernel_rfl)
theorem k5 : OrcOk Tryz.prog 6 tabs 11 a5 r5 :=
  known_call names mixed 6 tabs tabsGood .nil noOrc 20000 11 _ _ (by kernel_rfl) (by kernel_rfl) (by kernel_rfl)
end Go.Proofs.YtllphmchdhgnnaaGreatDoor
