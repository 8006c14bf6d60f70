/- Calls of the program whose answers are found by running it. -/
import Derived.Test.YtfcheghhkbdpeaaGreatDoorKb
namespace Go.Proofs.YtfcheghhkbdpeaaGreatDoor
open Go
set_option linter.unusedVariables false
theorem k_m5 : OrcOk Tryz.prog 6 tabs 7 a_m5 r_m5 :=
  known_callV names mixed 6 tabs tabsGood .nil .nil (bwT bwL) bwGood (fun f l h => by cases h) (fun f l h => by cases h) 20000 7 _ _ (by kernel_rfl) (by kernel_rfl) (by kernel_rfl)
end Go.Proofs.YtfcheghhkbdpeaaGreatDoor
