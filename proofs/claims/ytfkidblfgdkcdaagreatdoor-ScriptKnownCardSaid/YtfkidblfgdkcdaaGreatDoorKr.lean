/- The law's own run. -/
import Derived.Test.YtfkidblfgdkcdaaGreatDoorKg
namespace Go.Proofs.YtfkidblfgdkcdaaGreatDoor
open Go
set_option linter.unusedVariables false
theorem runAll : OrcOk Tryz.prog 11 tabs 3 [] (.bool true) :=
  known_callV names mixed 11 tabs tabsGood orc1 .nil (bwT bwL) bwGood knownO (fun f l h => by cases h) 20000 3 _ _ (by kernel_rfl) (by kernel_rfl) (by kernel_rfl)
end Go.Proofs.YtfkidblfgdkcdaaGreatDoor
