/- The tables that the program reads, and what is asked of the program once. -/
import Derived.Test.YtammfliaoifjhaaGreatDoorEp
import Derived.Test.YtammfliaoifjhaaGreatDoorProg
import Derived.Lib.Props
import Derived.Lib.LaidTab
import Derived.KernelRfl
namespace Go.Proofs.YtammfliaoifjhaaGreatDoor
open Go
set_option linter.unusedVariables false
noncomputable section
theorem names : namesOk Tryz.prog = true := by kernel_rfl
theorem mixed : Tryz.prog.follows .mixedOrders = true := by kernel_rfl
def propsL : List Value := Lib.propertiesTab.map (Value.int .u8)
def tabs : List (Nat × List Value) := [(0, propsL)]
theorem tabsGood : tabsOk 3 tabs = true := by kernel_rfl
theorem noOrc : OrOk Tryz.prog (cxO Tryz.prog 3 tabs .nil) := fun f l h => by cases h
def a0 : List Value := [.string ⟨#[108, 101, 116, 32, 114, 101, 99, 32, 102, 32, 120, 32, 61, 32, 105, 102, 32, 120, 32, 60, 32, 49, 32, 116, 104, 101, 110, 32, 48, 32, 101, 108, 115, 101, 32, 120, 32, 43, 32, 102, 32, 40, 120, 32, 45, 32, 49, 41, 32, 105, 110, 32, 102, 32, 49, 48]⟩, .int .i64 1, .int .i64 55, .slice none 0 0, .slice none 0 0]
def a1 : List Value := [.string ⟨#[108, 101, 116, 32, 114, 32, 61, 32, 114, 101, 102, 32, 49, 32, 105, 110, 32, 40, 114, 32, 58, 61, 32, 33, 32, 114, 32, 43, 32, 49, 32, 59, 32, 33, 32, 114, 41]⟩, .int .i64 1, .int .i64 2, .slice none 0 0, .slice none 0 0]
def a2 : List Value := [.string ⟨#[116, 121, 112, 101, 32, 108, 32, 61, 32, 78, 32, 124, 32, 67, 32, 111, 102, 32, 105, 110, 116, 44, 32, 108, 32, 105, 110, 32, 108, 101, 116, 32, 114, 101, 99, 32, 115, 32, 120, 32, 61, 32, 109, 97, 116, 99, 104, 32, 120, 32, 119, 105, 116, 104, 32, 78, 32, 45, 62, 32, 48, 32, 124, 32, 67, 32, 40, 97, 44, 32, 98, 41, 32, 45, 62, 32, 97, 32, 43, 32, 115, 32, 98, 32, 101, 110, 100, 32, 105, 110, 32, 115, 32, 40, 67, 32, 40, 49, 44, 32, 67, 32, 40, 50, 44, 32, 78, 41, 41, 41]⟩, .int .i64 1, .int .i64 3, .slice none 0 0, .slice none 0 0]
def a3 : List Value := [.string ⟨#[40, 102, 117, 110, 32, 120, 32, 45, 62, 32, 102, 117, 110, 32, 121, 32, 45, 62, 32, 120, 32, 45, 32, 121, 41, 32, 53, 32, 51]⟩, .int .i64 1, .int .i64 2, .slice none 0 0, .slice none 0 0]
def a4 : List Value := [.string ⟨#[49, 32, 50]⟩, .int .i64 2, .int .i64 0, .slice none 0 0, .slice none 0 0]
def a5 : List Value := [.string ⟨#[108, 101, 116, 32, 120, 32, 61, 32, 49, 32, 105, 110, 32, 108, 101, 116, 32, 102, 32, 61, 32, 102, 117, 110, 32, 121, 32, 45, 62, 32, 120, 32, 105, 110, 32, 108, 101, 116, 32, 120, 32, 61, 32, 50, 32, 105, 110, 32, 102, 32, 48]⟩, .int .i64 1, .int .i64 1, .slice none 0 0, .slice none 0 0]
end
end Go.Proofs.YtammfliaoifjhaaGreatDoor
