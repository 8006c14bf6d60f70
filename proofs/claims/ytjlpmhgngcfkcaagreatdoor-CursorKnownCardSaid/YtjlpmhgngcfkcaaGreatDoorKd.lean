/- A call of the program whose answer is found by running it. -/
import Derived.Test.YtjlpmhgngcfkcaaGreatDoorKb
namespace Go.Proofs.YtjlpmhgngcfkcaaGreatDoor
open Go
set_option linter.unusedVariables false
theorem kV2 : VOk Tryz.prog 11 tabs 5 q2 :=
  known_val names mixed 11 tabs tabsGood .nil .nil (bwT bwL) bwGood (fun f l h => by cases h) (fun f l h => by cases h) 20000 5 q2 (by kernel_rfl) (by decide) (by kernel_rfl)
end Go.Proofs.YtjlpmhgngcfkcaaGreatDoor
