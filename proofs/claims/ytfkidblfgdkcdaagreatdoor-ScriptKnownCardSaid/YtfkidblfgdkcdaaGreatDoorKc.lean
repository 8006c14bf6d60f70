/- Calls of the program whose answers are found by running them. -/
import Derived.Test.YtfkidblfgdkcdaaGreatDoorKb
namespace Go.Proofs.YtfkidblfgdkcdaaGreatDoor
open Go
set_option linter.unusedVariables false
theorem k_m2 : OrcOk Tryz.prog 11 tabs 6 [.string ⟨#[108, 101, 116, 32, 97, 32, 61, 32, 49, 32, 105, 110, 32, 108, 101, 116, 32, 98, 32, 61, 32, 116, 114, 117, 101, 32, 105, 110, 32, 112, 114, 105, 110, 116, 32, 97]⟩, .slice none 0 0, .agg #[.int .i64 200, .int .i64 3000, .int .i64 3000, .int .i64 2, .int .i64 4], .string ⟨#[10, 32, 32, 10, 115, 116, 101, 112, 32, 50, 10, 108, 111, 99, 97, 108, 115, 10, 119, 104, 97, 116, 10, 112, 114, 105, 110, 116, 32, 99, 10, 98, 97, 99, 107, 32, 57, 10, 98, 97, 99, 107]⟩] (.tuple #[.string ⟨#[35, 50, 32, 49, 58, 51, 48, 10, 98, 32, 61, 32, 116, 114, 117, 101, 124, 97, 32, 61, 32, 49, 10, 69, 49, 51, 10, 69, 52, 10, 35, 48, 32, 49, 58, 49, 10, 69, 49, 50, 10]⟩, .int .i64 0]) :=
  known_callV names mixed 11 tabs tabsGood .nil orvB (bwT bwL) bwGood (fun f l h => by cases h) (knownB .nil) 20000 6 _ _ (by kernel_rfl) (by kernel_rfl) (by kernel_rfl)
end Go.Proofs.YtfkidblfgdkcdaaGreatDoor
