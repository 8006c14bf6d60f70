/- Two calls of the program whose answers are found by running it. -/
import Derived.Test.YtllphmchdhgnnaaGreatDoorSa
namespace Go.Proofs.YtllphmchdhgnnaaGreatDoor
open Go
set_option linter.unusedVariables false
namespace Slot
theorem kAwake : OrcOk Tryz.prog 6 tabs 14 [] (.bool true) :=
  known_call names mixed 6 tabs tabsGood .nil noOrc 20000 14 _ _ (by kernel_rfl) (by kernel_rfl) (by kernel_rfl)
theorem kMade : VOk Tryz.prog 6 tabs 15 q0 :=
  known_val names mixed 6 tabs tabsGood .nil .nil (fun f l h => by cases h) (fun f l h => by cases h) 20000 15 q0 (by kernel_rfl) (by decide) (by kernel_rfl)
end Slot
end Go.Proofs.YtllphmchdhgnnaaGreatDoor
