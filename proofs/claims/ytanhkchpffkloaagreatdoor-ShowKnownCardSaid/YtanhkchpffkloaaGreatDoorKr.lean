/- The law's own run, found by running it. -/
import Derived.Test.YtanhkchpffkloaaGreatDoorKa
namespace Go.Proofs.YtanhkchpffkloaaGreatDoor
open Go
set_option linter.unusedVariables false
theorem runAll : OrcOk Tryz.prog 10 tabs 3 [] (.bool true) :=
  known_callV names mixed 10 tabs tabsGood .nil .nil (bwT bwL) bwGood (fun f l h => by cases h) (fun f l h => by cases h) 20000 3 _ _ (by kernel_rfl) (by kernel_rfl) (by kernel_rfl)
end Go.Proofs.YtanhkchpffkloaaGreatDoor
