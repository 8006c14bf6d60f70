/- What the program makes of a text: the rows of the answer. -/
import Derived.Test.YtfkidblfgdkcdaaGreatDoorKa
namespace Go.Proofs.YtfkidblfgdkcdaaGreatDoor
open Go
set_option linter.unusedVariables false
noncomputable section
def qB : VO := { args := [.string ⟨#[108, 101, 116, 32, 97, 32, 61, 32, 49, 32, 105, 110, 32, 108, 101, 116, 32, 98, 32, 61, 32, 116, 114, 117, 101, 32, 105, 110, 32, 112, 114, 105, 110, 116, 32, 97]⟩], v := .tuple #[.agg #[.string ⟨#[108, 101, 116, 32, 97, 32, 61, 32, 49, 32, 105, 110, 32, 108, 101, 116, 32, 98, 32, 61, 32, 116, 114, 117, 101, 32, 105, 110, 32, 112, 114, 105, 110, 116, 32, 97]⟩, .slice (some ⟨240, 0, none⟩) 6 9223372036854775815, .slice none 0 0, .slice (some ⟨513, 0, none⟩) 6 6, .slice (some ⟨622, 0, none⟩) 6 6, .slice (some ⟨663, 0, none⟩) 6 6, .int .i64 3, .string ⟨#[]⟩, .int .i64 0, .slice none 0 0, .slice (some ⟨1040, 0, none⟩) 16 9223372036854775809, .slice (some ⟨1046, 0, none⟩) 3 9223372036854775810, .slice (some ⟨1049, 0, none⟩) 1 9223372036854775812, .slice none 0 0, .slice (some ⟨1119, 0, none⟩) 3 9223372036854775812, .slice (some ⟨1167, 0, none⟩) 2 9223372036854775814], .int .i64 0, .int .i64 0], bs := [⟨240, [.int .i64 8, .int .i64 0, .string ⟨#[97]⟩, .string ⟨#[]⟩, .slice (some ⟨226, 0, none⟩) 2 9223372036854775809, .int .i64 0, .int .i64 36, .int .i64 1, .int .i64 1, .string ⟨#[]⟩, .string ⟨#[]⟩, .slice none 0 0, .int .i64 8, .int .i64 9, .int .i64 8, .int .i64 0, .string ⟨#[98]⟩, .string ⟨#[]⟩, .slice (some ⟨234, 0, none⟩) 2 9223372036854775809, .int .i64 13, .int .i64 36, .int .i64 2, .int .i64 1, .string ⟨#[]⟩, .string ⟨#[]⟩, .slice none 0 0, .int .i64 21, .int .i64 25, .int .i64 17, .int .i64 0, .string ⟨#[]⟩, .string ⟨#[]⟩, .slice (some ⟨238, 0, none⟩) 1 9223372036854775809, .int .i64 29, .int .i64 36, .int .i64 4, .int .i64 0, .string ⟨#[97]⟩, .string ⟨#[]⟩, .slice none 0 0, .int .i64 35, .int .i64 36], 130, true⟩,
  ⟨226, [.int .i64 1, .int .i64 2], 3, true⟩,
  ⟨234, [.int .i64 3, .int .i64 4], 3, true⟩,
  ⟨238, [.int .i64 5], 3, true⟩,
  ⟨513, [.int .i64 3, .string ⟨#[]⟩, .int .i64 0, .slice none 0 0, .int .i64 1, .string ⟨#[]⟩, .int .i64 0, .slice none 0 0, .int .i64 3, .string ⟨#[]⟩, .int .i64 0, .slice none 0 0, .int .i64 2, .string ⟨#[]⟩, .int .i64 0, .slice none 0 0, .int .i64 3, .string ⟨#[]⟩, .int .i64 0, .slice none 0 0, .int .i64 1, .string ⟨#[]⟩, .int .i64 0, .slice none 0 0], 37, false⟩,
  ⟨622, [.int .i64 1, .string ⟨#[]⟩, .int .i64 0, .slice none 0 0, .int .i64 0, .string ⟨#[]⟩, .int .i64 0, .slice none 0 0, .int .i64 2, .string ⟨#[]⟩, .int .i64 0, .slice none 0 0, .int .i64 0, .string ⟨#[]⟩, .int .i64 0, .slice none 0 0, .int .i64 0, .string ⟨#[]⟩, .int .i64 0, .slice none 0 0, .int .i64 0, .string ⟨#[]⟩, .int .i64 0, .slice none 0 0], 37, false⟩,
  ⟨663, [.int .i64 0, .string ⟨#[]⟩, .int .i64 0, .slice none 0 0, .int .i64 0, .string ⟨#[]⟩, .int .i64 0, .slice none 0 0, .int .i64 0, .string ⟨#[]⟩, .int .i64 0, .slice none 0 0, .int .i64 0, .string ⟨#[]⟩, .int .i64 0, .slice none 0 0, .int .i64 0, .string ⟨#[]⟩, .int .i64 0, .slice none 0 0, .int .i64 0, .string ⟨#[]⟩, .int .i64 0, .slice none 0 0], 37, false⟩,
  ⟨1040, [.int .u8 1, .int .u8 0, .int .u8 66, .int .u8 2, .int .u8 6, .int .u8 64, .int .u8 4, .int .u8 66, .int .u8 2, .int .u8 70, .int .u8 2, .int .u8 64, .int .u8 8, .int .u8 3, .int .u8 21, .int .u8 32], 5, true⟩,
  ⟨1046, [.int .i64 1, .int .i64 0, .int .i64 5, .int .i64 2, .int .i64 11, .int .i64 4], 257, true⟩,
  ⟨1049, [.int .i64 (-1), .int .i64 1, .int .i64 2, .int .i64 0], 369, true⟩,
  ⟨1119, [.int .i64 1, .int .i64 0, .int .i64 1, .int .i64 1, .int .i64 5, .int .i64 2, .int .i64 1, .int .i64 14, .int .i64 11, .int .i64 4, .int .i64 1, .int .i64 30], 89, true⟩,
  ⟨1167, [.int .i64 11, .int .i64 12, .string ⟨#[98]⟩, .int .i64 1, .int .i64 1, .string ⟨#[98, 111, 111, 108]⟩, .int .i64 5, .int .i64 12, .string ⟨#[97]⟩, .int .i64 1, .int .i64 0, .string ⟨#[105, 110, 116]⟩], 379, true⟩], lo := 30, hi := 1168 }
theorem kB : VOk Tryz.prog 11 tabs 20 qB :=
  known_val names mixed 11 tabs tabsGood .nil .nil (bwT bwL) bwGood (fun f l h => by cases h) (fun f l h => by cases h) 20000 20 qB (by kernel_rfl) (by decide) (by kernel_rfl)
def orvB : Tr (List VO) := Tr.nil.put 20 (some [qB])
theorem knownB (orc : Tr (List (List Value × Value))) : OvOk Tryz.prog (cxV Tryz.prog 11 tabs orc orvB (bwT bwL)) := fun f l h => by
  change (Tr.nil.put 20 (some [qB])).get f = some l at h
  rw [Tr.get_put] at h
  split at h
  · rename_i e; subst e; cases h
    exact List.forall_mem_cons.2 ⟨kB, fun _ h => by cases h⟩
  · cases h
end
end Go.Proofs.YtfkidblfgdkcdaaGreatDoor
