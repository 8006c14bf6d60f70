/- Calls of the program whose answers are found by running them. -/
import Derived.Test.YtfkidblfgdkcdaaGreatDoorKa
namespace Go.Proofs.YtfkidblfgdkcdaaGreatDoor
open Go
set_option linter.unusedVariables false
theorem k_d1 : OrcOk Tryz.prog 11 tabs 8 [.string ⟨#[112, 114, 105, 110, 116, 32, 49]⟩, .slice none 0 0, .int .i64 1000, .string ⟨#[119, 104, 101, 114, 101, 10, 115, 116, 101, 112]⟩] (.tuple #[.string ⟨#[35, 48, 32, 49, 58, 49, 10, 35, 49, 32, 118, 97, 108, 117, 101, 32, 40, 41, 10]⟩, .int .i64 0]) :=
  known_callV names mixed 11 tabs tabsGood .nil .nil (bwT bwL) bwGood (fun f l h => by cases h) (fun f l h => by cases h) 20000 8 _ _ (by kernel_rfl) (by kernel_rfl) (by kernel_rfl)
theorem k_d2 : OrcOk Tryz.prog 11 tabs 8 [.string ⟨#[49]⟩, .slice none 0 0, .int .i64 0, .string ⟨#[119, 104, 101, 114, 101]⟩] (.tuple #[.string ⟨#[]⟩, .int .i64 10]) :=
  known_callV names mixed 11 tabs tabsGood .nil .nil (bwT bwL) bwGood (fun f l h => by cases h) (fun f l h => by cases h) 20000 8 _ _ (by kernel_rfl) (by kernel_rfl) (by kernel_rfl)
theorem k_d3 : OrcOk Tryz.prog 11 tabs 8 [.string ⟨#[108, 101, 116, 32, 97, 32, 61, 32, 49, 32, 105, 110, 32, 112, 114, 105, 110, 116, 32, 97]⟩, .slice none 0 0, .int .i64 1000, .string ⟨#[115, 116, 101, 112, 10, 108, 111, 99, 97, 108, 115]⟩] (.tuple #[.string ⟨#[35, 49, 32, 49, 58, 49, 52, 10, 97, 32, 61, 32, 49, 10]⟩, .int .i64 0]) :=
  known_callV names mixed 11 tabs tabsGood .nil .nil (bwT bwL) bwGood (fun f l h => by cases h) (fun f l h => by cases h) 20000 8 _ _ (by kernel_rfl) (by kernel_rfl) (by kernel_rfl)
end Go.Proofs.YtfkidblfgdkcdaaGreatDoor
