/- Calls of the program whose answers are found by running them. -/
import Derived.Test.YtfkidblfgdkcdaaGreatDoorKa
namespace Go.Proofs.YtfkidblfgdkcdaaGreatDoor
open Go
set_option linter.unusedVariables false
theorem k_t2 : OrcOk Tryz.prog 11 tabs 5 [.string ⟨#[49, 32, 43]⟩] (.tuple #[.string ⟨#[]⟩, .int .i64 3]) :=
  known_callV names mixed 11 tabs tabsGood .nil .nil (bwT bwL) bwGood (fun f l h => by cases h) (fun f l h => by cases h) 20000 5 _ _ (by kernel_rfl) (by kernel_rfl) (by kernel_rfl)
theorem k_t3 : OrcOk Tryz.prog 11 tabs 5 [.string ⟨#[49, 32, 49]⟩] (.tuple #[.string ⟨#[]⟩, .int .i64 5]) :=
  known_callV names mixed 11 tabs tabsGood .nil .nil (bwT bwL) bwGood (fun f l h => by cases h) (fun f l h => by cases h) 20000 5 _ _ (by kernel_rfl) (by kernel_rfl) (by kernel_rfl)
theorem k_t4 : OrcOk Tryz.prog 11 tabs 5 [.string ⟨#[109, 97, 116, 99, 104, 32, 49, 32, 119, 105, 116, 104, 32, 50, 32, 45, 62, 32, 51, 32, 101, 110, 100]⟩] (.tuple #[.string ⟨#[]⟩, .int .i64 7]) :=
  known_callV names mixed 11 tabs tabsGood .nil .nil (bwT bwL) bwGood (fun f l h => by cases h) (fun f l h => by cases h) 20000 5 _ _ (by kernel_rfl) (by kernel_rfl) (by kernel_rfl)
theorem k_t5 : OrcOk Tryz.prog 11 tabs 5 [.string ⟨#[120]⟩] (.tuple #[.string ⟨#[]⟩, .int .i64 6]) :=
  known_callV names mixed 11 tabs tabsGood .nil .nil (bwT bwL) bwGood (fun f l h => by cases h) (fun f l h => by cases h) 20000 5 _ _ (by kernel_rfl) (by kernel_rfl) (by kernel_rfl)
end Go.Proofs.YtfkidblfgdkcdaaGreatDoor
