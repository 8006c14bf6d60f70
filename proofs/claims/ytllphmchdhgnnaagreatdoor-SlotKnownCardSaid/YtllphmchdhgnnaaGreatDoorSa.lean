/- The tables that the program reads, and the tree of the text that the law looks at. -/
import Derived.Test.YtllphmchdhgnnaaGreatDoorEp
import Derived.Test.YtllphmchdhgnnaaGreatDoorProg
import Derived.Lib.Props
import Derived.Lib.LaidTab
import Derived.KernelRfl
namespace Go.Proofs.YtllphmchdhgnnaaGreatDoor
open Go
set_option linter.unusedVariables false
noncomputable section
namespace Slot
theorem names : namesOk Tryz.prog = true := by kernel_rfl
theorem mixed : Tryz.prog.follows .mixedOrders = true := by kernel_rfl
def propsL : List Value := Lib.propertiesTab.map (Value.int .u8)
def tabs : List (Nat × List Value) := [(0, propsL)]
theorem tabsGood : tabsOk 6 tabs = true := by kernel_rfl
theorem noOrc : OrOk Tryz.prog (cxO Tryz.prog 6 tabs .nil) := fun f l h => by cases h
def q0 : VO := { args := [.string ⟨#[108, 101, 116, 32, 97, 32, 61, 32, 49, 32, 105, 110, 32, 108, 101, 116, 32, 114, 101, 99, 32, 102, 32, 120, 32, 61, 32, 109, 97, 116, 99, 104, 32, 120, 32, 119, 105, 116, 104, 32, 48, 32, 45, 62, 32, 102, 32, 124, 32, 121, 32, 45, 62, 32, 102, 117, 110, 32, 122, 32, 45, 62, 32, 121, 32, 43, 32, 97, 32, 101, 110, 100, 32, 105, 110, 32, 102]⟩], v := .tuple #[.agg #[.slice (some ⟨1023, 0, none⟩) 13 9223372036854775815, .slice none 0 0], .bool true], bs := [⟨1023, [.int .i64 8, .int .i64 0, .string ⟨#[97]⟩, .string ⟨#[]⟩, .slice (some ⟨969, 0, none⟩) 2 9223372036854775809, .int .i64 0, .int .i64 77, .int .i64 1, .int .i64 1, .string ⟨#[]⟩, .string ⟨#[]⟩, .slice (some ⟨973, 0, none⟩) 0 0, .int .i64 8, .int .i64 9, .int .i64 9, .int .i64 0, .string ⟨#[102]⟩, .string ⟨#[120]⟩, .slice (some ⟨978, 0, none⟩) 2 9223372036854775809, .int .i64 13, .int .i64 77, .int .i64 11, .int .i64 0, .string ⟨#[]⟩, .string ⟨#[]⟩, .slice (some ⟨983, 0, none⟩) 5 9223372036854775809, .int .i64 27, .int .i64 72, .int .i64 4, .int .i64 0, .string ⟨#[120]⟩, .string ⟨#[]⟩, .slice (some ⟨987, 0, none⟩) 0 0, .int .i64 33, .int .i64 34, .int .i64 23, .int .i64 0, .string ⟨#[]⟩, .string ⟨#[]⟩, .slice (some ⟨991, 0, none⟩) 0 0, .int .i64 40, .int .i64 41, .int .i64 4, .int .i64 0, .string ⟨#[102]⟩, .string ⟨#[]⟩, .slice (some ⟨995, 0, none⟩) 0 0, .int .i64 45, .int .i64 46, .int .i64 22, .int .i64 0, .string ⟨#[121]⟩, .string ⟨#[]⟩, .slice (some ⟨999, 0, none⟩) 0 0, .int .i64 49, .int .i64 50, .int .i64 6, .int .i64 0, .string ⟨#[]⟩, .string ⟨#[122]⟩, .slice (some ⟨1004, 0, none⟩) 1 9223372036854775809, .int .i64 54, .int .i64 68, .int .i64 14, .int .i64 0, .string ⟨#[43]⟩, .string ⟨#[]⟩, .slice (some ⟨1009, 0, none⟩) 2 9223372036854775809, .int .i64 63, .int .i64 68, .int .i64 4, .int .i64 0, .string ⟨#[121]⟩, .string ⟨#[]⟩, .slice (some ⟨1013, 0, none⟩) 0 0, .int .i64 63, .int .i64 64, .int .i64 4, .int .i64 0, .string ⟨#[97]⟩, .string ⟨#[]⟩, .slice (some ⟨1017, 0, none⟩) 0 0, .int .i64 67, .int .i64 68, .int .i64 4, .int .i64 0, .string ⟨#[102]⟩, .string ⟨#[]⟩, .slice (some ⟨1021, 0, none⟩) 0 0, .int .i64 76, .int .i64 77], 44, true⟩,
  ⟨969, [.int .i64 1, .int .i64 2], 3, true⟩,
  ⟨973, [], 3, false⟩,
  ⟨978, [.int .i64 3, .int .i64 12], 3, true⟩,
  ⟨983, [.int .i64 4, .int .i64 5, .int .i64 6, .int .i64 7, .int .i64 8], 3, true⟩,
  ⟨987, [], 3, false⟩,
  ⟨991, [], 3, false⟩,
  ⟨995, [], 3, false⟩,
  ⟨999, [], 3, false⟩,
  ⟨1004, [.int .i64 9], 3, true⟩,
  ⟨1009, [.int .i64 10, .int .i64 11], 3, true⟩,
  ⟨1013, [], 3, false⟩,
  ⟨1017, [], 3, false⟩,
  ⟨1021, [], 3, false⟩], lo := 64, hi := 1024 }
end Slot
end
end Go.Proofs.YtllphmchdhgnnaaGreatDoor
