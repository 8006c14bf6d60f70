/- Calls of the program whose answers are found by running them. -/
import Derived.Test.YtfkidblfgdkcdaaGreatDoorKa
namespace Go.Proofs.YtfkidblfgdkcdaaGreatDoor
open Go
set_option linter.unusedVariables false
theorem k_m1 : OrcOk Tryz.prog 11 tabs 6 [.string ⟨#[112, 114, 105, 110, 116, 32, 49]⟩, .slice none 0 0, .agg #[.int .i64 200, .int .i64 3000, .int .i64 3000, .int .i64 2, .int .i64 4], .string ⟨#[119, 104, 101, 114, 101, 10, 115, 116, 101, 112, 10]⟩] (.tuple #[.string ⟨#[35, 48, 32, 49, 58, 49, 10, 35, 49, 32, 118, 97, 108, 117, 101, 32, 40, 41, 10]⟩, .int .i64 0]) :=
  known_callV names mixed 11 tabs tabsGood .nil .nil (bwT bwL) bwGood (fun f l h => by cases h) (fun f l h => by cases h) 20000 6 _ _ (by kernel_rfl) (by kernel_rfl) (by kernel_rfl)
theorem k_t1 : OrcOk Tryz.prog 11 tabs 5 [.string ⟨#[102, 117, 110, 32, 120, 32, 45, 62, 32, 120]⟩] (.tuple #[.string ⟨#[40, 39, 97, 32, 45, 62, 32, 39, 97, 41]⟩, .int .i64 0]) :=
  known_callV names mixed 11 tabs tabsGood .nil .nil (bwT bwL) bwGood (fun f l h => by cases h) (fun f l h => by cases h) 20000 5 _ _ (by kernel_rfl) (by kernel_rfl) (by kernel_rfl)
end Go.Proofs.YtfkidblfgdkcdaaGreatDoor
