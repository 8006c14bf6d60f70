/- The law's own run. -/
import Derived.Test.YtjlpmhgngcfkcaaGreatDoorKg
namespace Go.Proofs.YtjlpmhgngcfkcaaGreatDoor
open Go
set_option linter.unusedVariables false
theorem runAll : OrcOk Tryz.prog 11 tabs 3 [] (.bool true) :=
  known_callV names mixed 11 tabs tabsGood orc1 orv1 (bwT bwL) bwGood knownO (knownV orc1) 20000 3 _ _ (by kernel_rfl) (by kernel_rfl) (by kernel_rfl)
end Go.Proofs.YtjlpmhgngcfkcaaGreatDoor
